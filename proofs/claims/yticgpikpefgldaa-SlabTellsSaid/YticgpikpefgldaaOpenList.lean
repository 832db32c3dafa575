/- Arguments of the laws, opened: slices of integers. -/
import Derived.Test.YticgpikpefgldaaOpen
import Derived.Test.YticgpikpefgldaaApp
namespace Go.Proofs.Yticgpikpefgldaa.Shp
open Go Go.ChangeShapes Go.WideShapes Go.Proofs.Yticgpikpefgldaa.Pl Go.Proofs.Yticgpikpefgldaa.Wd Go.Proofs.Yticgpikpefgldaa.Ap
set_option linter.unusedVariables false
theorem list_of {Q : Nat → Int → Prop} : ∀ (n : Nat), (∀ i, i < n → ∃ z, Q i z) → ∃ L : List Int, L.length = n ∧ ∀ i (h : i < L.length), Q i L[i]
  | 0, _ => ⟨[], rfl, fun i h => by simp at h⟩
  | n + 1, h => by
    obtain ⟨L, hl, hL⟩ := list_of n (fun i hi => h i (by omega))
    obtain ⟨z, hz⟩ := h n (by omega)
    refine ⟨L ++ [z], by simp [hl], fun i hi => ?_⟩
    by_cases hin : i < L.length
    · rw [List.getElem_append_left hin]; exact hL i hin
    · obtain rfl : i = n := by simp at hi; omega
      subst hl
      simpa using hz
/-- The integers fit their kind. -/
def Fit (k : IntKind) (L : List Int) : Prop := ∀ z ∈ L, (Lit.int k z).wf = true
theorem reads_of_ok {W : World} {k : IntKind} {v : Value} (h : Shape.ok W (.slice [.int k]) v) : ∃ (x : Sl) (L : List Int), v = x.v ∧ Reads W k x.v L ∧ Fit k L := by
  rw [Shape.ok] at h
  obtain ⟨ad, n, cap, rfl, h1, h2, h3⟩ := h
  rcases h3 with rfl | ⟨b, off, rfl, hb, hc⟩
  · exact ⟨⟨ad, 0, cap⟩, [], rfl, ⟨ad, cap, rfl, h1, h2, .inl rfl⟩, fun z hz => by cases hz⟩
  · obtain ⟨L, hl, hL⟩ := list_of (Q := fun i z => W.cell? ⟨b, off + i, none⟩ = some (.int k z) ∧ (Lit.int k z).wf = true) n (fun i hi => by
      have h4 := hc i hi
      rw [Shape.oks] at h4
      obtain ⟨⟨v, hv, hs⟩, _⟩ := h4
      obtain ⟨z, rfl, hz⟩ := ok_int hs
      exact ⟨z, by simpa using hv, hz⟩)
    subst hl
    refine ⟨⟨some ⟨b, off, none⟩, L.length, cap⟩, L, rfl, ⟨_, cap, rfl, h1, h2, .inr ⟨b, off, rfl, hb (by simp), fun i hi => (hL i hi).1⟩⟩, fun z hz => ?_⟩
    obtain ⟨i, hi, rfl⟩ := List.mem_iff_getElem.1 hz
    exact (hL i hi).2
section
variable {H : Type} {enc : TypeId × Value → H} {W : World}
theorem ints_shapes : shapes Try.prog 2 28 = some [.slice [.int .i64]] := by kernel_rfl
set_option maxRecDepth 100000 in
theorem open_slice {r : Reach} {b0 : Nat} {t e : TypeId} {k : IntKind} {v : Value} {d : DataW H} {p : List MemPlace} (ht : Try.prog.underlying t = some (.slice e)) (hs : shapes Try.prog 2 t = some [.slice [.int k]]) (hc : 1 = Try.prog.cellsOf t)
    (hv : Value.okWide Try.prog W r b0 t v) (h : DataW.Trod enc Try.prog W 0 (fun _ => true) true t v d p) : ∃ (x : Sl), v = x.v ∧ ∃ L, Reads W k x.v L ∧ Fit k L := by
  obtain ⟨a, len, cap, rfl⟩ := okWide_slice ht hv
  obtain ⟨fuel, hf⟩ := h
  have hk := open_shapes 2 _ _ hs fuel _ _ hf (by simpa using hc)
  simp only [Value.cells] at hk
  obtain ⟨w, ws, e1, hok, hnil⟩ := okl_cons hk
  obtain rfl := okl_nil hnil
  simp only [List.cons.injEq, and_true] at e1
  subst e1
  obtain ⟨x, L, he, hr, hfit⟩ := reads_of_ok hok
  exact ⟨x, he, L, hr, hfit⟩
set_option maxRecDepth 100000 in
theorem open_ints {r : Reach} {b0 : Nat} {v : Value} {d : DataW H} {p : List MemPlace} (hv : Value.okWide Try.prog W r b0 28 v) (h : DataW.Trod enc Try.prog W 0 (fun _ => true) true 28 v d p) : ∃ (x : Sl), v = x.v ∧ ∃ L, Reads W .i64 x.v L ∧ Fit .i64 L :=
  open_slice Try.underlying28 ints_shapes (by kernel_rfl) hv h
theorem words_shapes : shapes Try.prog 2 25 = some [.slice [.int .u64]] := by kernel_rfl
set_option maxRecDepth 100000 in
theorem open_words {r : Reach} {b0 : Nat} {v : Value} {d : DataW H} {p : List MemPlace} (hv : Value.okWide Try.prog W r b0 25 v) (h : DataW.Trod enc Try.prog W 0 (fun _ => true) true 25 v d p) : ∃ (x : Sl), v = x.v ∧ ∃ L, Reads W .u64 x.v L ∧ Fit .u64 L :=
  open_slice Try.underlying25 words_shapes (by kernel_rfl) hv h
end
end Go.Proofs.Yticgpikpefgldaa.Shp
