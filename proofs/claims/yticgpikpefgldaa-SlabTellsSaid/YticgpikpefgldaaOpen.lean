/- Arguments of the laws, opened: a configuration, by the shape of its cells. -/
import Derived.Test.YticgpikpefgldaaRows
import Derived.Test.YticgpikpefgldaaShape
import Derived.Test.YticgpikpefgldaaPlanNum
import Derived.WideShapes
import Derived.ChangeShapes
namespace Go.Proofs.Yticgpikpefgldaa.Shp
open Go Go.ChangeShapes Go.WideShapes Go.Proofs.Yticgpikpefgldaa.Pl
set_option linter.unusedVariables false
section
variable {H : Type} {enc : TypeId × Value → H} {W : World}
theorem wf_u64 {n : Int} (h : (Lit.int .u64 n).wf = true) : 0 ≤ n ∧ n < 18446744073709551616 := by
  simp only [Lit.wf, Bool.and_eq_true, decide_eq_true_eq] at h
  have h1 : IntKind.u64.min = 0 := by decide
  have h2 : IntKind.u64.max = 18446744073709551615 := by decide
  omega
theorem wf_i64 {n : Int} (h : (Lit.int .i64 n).wf = true) : -9223372036854775808 ≤ n ∧ n < 9223372036854775808 := by
  simp only [Lit.wf, Bool.and_eq_true, decide_eq_true_eq] at h
  have h1 : IntKind.i64.min = -9223372036854775808 := by decide
  have h2 : IntKind.i64.max = 9223372036854775807 := by decide
  omega
theorem wf_u8 {n : Int} (h : (Lit.int .u8 n).wf = true) : 0 ≤ n ∧ n < 256 := by
  simp only [Lit.wf, Bool.and_eq_true, decide_eq_true_eq] at h
  have h1 : IntKind.u8.min = 0 := by decide
  have h2 : IntKind.u8.max = 255 := by decide
  omega
abbrev i6 : Shape := .int .i64
abbrev u6 : Shape := .int .u64
theorem cfg_shapes : shapes Try.prog 3 24 = some [i6, i6, i6, i6, i6, i6, i6, u6] := by kernel_rfl
theorem okl_cfg {cs : List Value} (h : Shape.okl W [i6, i6, i6, i6, i6, i6, i6, u6] cs) : ∃ c : Cfg, cs = [.int .i64 c.ww, .int .i64 c.sl, .int .i64 c.bl, .int .i64 c.wd, .int .i64 c.en, .int .i64 c.rk, .int .i64 c.bg, .int .u64 c.la] ∧ c.Wf := by
  obtain ⟨n0, _, rfl, _, h⟩ := okl_int h
  obtain ⟨n1, _, rfl, _, h⟩ := okl_int h
  obtain ⟨n2, _, rfl, _, h⟩ := okl_int h
  obtain ⟨n3, _, rfl, _, h⟩ := okl_int h
  obtain ⟨n4, _, rfl, _, h⟩ := okl_int h
  obtain ⟨n5, _, rfl, _, h⟩ := okl_int h
  obtain ⟨n6, _, rfl, _, h⟩ := okl_int h
  obtain ⟨n7, _, rfl, h7, h⟩ := okl_int h
  obtain rfl := okl_nil h
  exact ⟨⟨n0, n1, n2, n3, n4, n5, n6, n7⟩, rfl, (wf_u64 h7).1, (wf_u64 h7).2⟩
set_option maxRecDepth 100000 in
theorem open_cfg {r : Reach} {b0 : Nat} {v : Value} {d : DataW H} {p : List MemPlace} (hv : Value.okWide Try.prog W r b0 24 v) (h : DataW.Trod enc Try.prog W 0 (fun _ => true) true 24 v d p) : ∃ c : Cfg, v = cv c ∧ c.Wf := by
  obtain ⟨cs, rfl, _⟩ := okWide_struct Try.underlying24 hv
  obtain ⟨fuel, hf⟩ := h
  obtain ⟨c, e, hc⟩ := okl_cfg (open_shapes 3 _ _ cfg_shapes fuel _ _ hf (by kernel_rfl))
  obtain ⟨l⟩ := cs
  simp only [Value.cells] at e
  exact ⟨c, by rw [e], hc⟩
end
end Go.Proofs.Yticgpikpefgldaa.Shp
