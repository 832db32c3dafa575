/- Arguments of the laws, opened: a slice of calls on a memory. -/
import Derived.Test.YtgjkjobemnhbmaaOpenList
namespace Go.Proofs.Ytgjkjobemnhbmaa.Shp
open Go Go.ChangeShapes Go.WideShapes Go.Proofs.Ytgjkjobemnhbmaa.Pl Go.Proofs.Ytgjkjobemnhbmaa.Wd Go.Proofs.Ytgjkjobemnhbmaa.Ap
set_option linter.unusedVariables false
/-- The slice value reads as n calls, each of four cells. -/
def ReadsA (w : World) (v : Value) (n : Nat) : Prop :=
  ∃ ad cap, v = .slice ad n cap ∧ n ≤ cap ∧ cap ≤ maxLen ∧ (n = 0 ∨ ∃ b off, ad = some ⟨b, off, none⟩ ∧ b < w.heap.size ∧ ∀ i, i < n → ∃ kd at_ x y : Int, w.cell? ⟨b, off + i * 4, none⟩ = some (.int .i64 kd) ∧ w.cell? ⟨b, off + i * 4 + 1, none⟩ = some (.int .i64 at_) ∧ w.cell? ⟨b, off + i * 4 + 2, none⟩ = some (.int .u64 x) ∧ w.cell? ⟨b, off + i * 4 + 3, none⟩ = some (.int .u64 y))
theorem readsA_of_ok {W : World} {v : Value} (h : Shape.ok W (.slice [i6, i6, u6, u6]) v) : ∃ (x : Sl), v = x.v ∧ ReadsA W x.v x.len := by
  rw [Shape.ok] at h
  obtain ⟨ad, n, cap, rfl, h1, h2, h3⟩ := h
  refine ⟨⟨ad, n, cap⟩, rfl, ad, cap, rfl, h1, h2, ?_⟩
  rcases h3 with rfl | ⟨b, off, rfl, hb, hc⟩
  · exact .inl rfl
  · refine .inr ⟨b, off, rfl, hb (by simp), fun i hi => ?_⟩
    have h4 := hc i hi
    simp only [List.length_cons, List.length_nil] at h4
    rw [Shape.oks, Shape.oks, Shape.oks, Shape.oks] at h4
    obtain ⟨⟨v0, c0, s0⟩, ⟨v1, c1, s1⟩, ⟨v2, c2, s2⟩, ⟨v3, c3, s3⟩, _⟩ := h4
    obtain ⟨n0, rfl, _⟩ := ok_int s0
    obtain ⟨n1, rfl, _⟩ := ok_int s1
    obtain ⟨n2, rfl, _⟩ := ok_int s2
    obtain ⟨n3, rfl, _⟩ := ok_int s3
    exact ⟨n0, n1, n2, n3, c0, c1, c2, c3⟩
section
variable {H : Type} {enc : TypeId × Value → H} {W : World}
theorem acts_shapes : shapes Try.prog 3 26 = some [.slice [i6, i6, u6, u6]] := by kernel_rfl
set_option maxRecDepth 100000 in
theorem open_acts {r : Reach} {b0 : Nat} {v : Value} {d : DataW H} {p : List MemPlace} (hv : Value.okWide Try.prog W r b0 26 v) (h : DataW.Trod enc Try.prog W 0 (fun _ => true) true 26 v d p) : ∃ (x : Sl), v = x.v ∧ ReadsA W x.v x.len := by
  obtain ⟨a, len, cap, rfl⟩ := okWide_slice Try.underlying26 hv
  obtain ⟨fuel, hf⟩ := h
  have hk := open_shapes 3 _ _ acts_shapes fuel _ _ hf (by kernel_rfl)
  simp only [Value.cells] at hk
  obtain ⟨w, ws, e1, hok, hnil⟩ := okl_cons hk
  obtain rfl := okl_nil hnil
  simp only [List.cons.injEq, and_true] at e1
  subst e1
  exact readsA_of_ok hok
end
end Go.Proofs.Ytgjkjobemnhbmaa.Shp
