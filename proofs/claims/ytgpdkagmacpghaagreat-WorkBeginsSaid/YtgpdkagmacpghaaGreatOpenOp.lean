/- An operation, as an argument, by its shape. -/
import Derived.Test.YtgpdkagmacpghaaGreatOpens
import Derived.Test.YtgpdkagmacpghaaGreatFols
namespace Go.Proofs.YtgpdkagmacpghaaGreat.Shp
open Go Go.ChangeShapes Go.WideShapes Go.ChangeAt Go.RowKit
section
variable {H : Type} {enc : TypeId × Value → H} {W : World}
theorem op_shapes : shapes Tryz.prog 3 26 = some [i6, u6, u6, i6, .bool, i6, i6] := by kernel_rfl
theorem okl_op {cs : List Value} (h : Shape.okl W [i6, u6, u6, i6, .bool, i6, i6] cs) : ∃ (k a b c : Int) (d : Bool) (e f : Int), cs = [.int .i64 k, .int .u64 a, .int .u64 b, .int .i64 c, .bool d, .int .i64 e, .int .i64 f] := by
  obtain ⟨n0, _, rfl, _, h⟩ := okl_int h
  obtain ⟨n1, _, rfl, _, h⟩ := okl_int h
  obtain ⟨n2, _, rfl, _, h⟩ := okl_int h
  obtain ⟨n3, _, rfl, _, h⟩ := okl_int h
  obtain ⟨n4, _, e4, h1⟩ := okl_bool h
  subst e4
  have h := h1
  clear h1
  obtain ⟨n5, _, rfl, _, h⟩ := okl_int h
  obtain ⟨n6, _, rfl, _, h⟩ := okl_int h
  obtain rfl := okl_nil h
  exact ⟨_, _, _, _, _, _, _, rfl⟩
set_option maxRecDepth 100000 in
theorem open_op {r : Reach} {b0 : Nat} {v : Value} {d : DataW H} {p : List MemPlace} (hv : Value.okWide Tryz.prog W r b0 26 v) (h : DataW.Trod enc Tryz.prog W 0 (fun _ => true) true 26 v d p) : ∃ x : (Int × Int × Int × Int) × (Bool × Int × Int), v = Me.opV x.1.1 x.1.2.1 x.1.2.2.1 x.1.2.2.2 x.2.1 x.2.2.1 x.2.2.2 ∧ True := by
  obtain ⟨cs, rfl, _⟩ := okWide_struct Tryz.underlying26 hv
  obtain ⟨fuel, hf⟩ := h
  obtain ⟨k, a, b, c, d, e, f, eq⟩ := okl_op (open_shapes 3 _ _ op_shapes fuel _ _ hf (by kernel_rfl))
  obtain ⟨l⟩ := cs
  simp only [Value.cells] at eq
  exact ⟨((k, a, b, c), (d, e, f)), by rw [eq], trivial⟩
end
end Go.Proofs.YtgpdkagmacpghaaGreat.Shp
