/- A slice of events, opened: its events as data (made by genord2.py). -/
import Derived.Test.YtgpdkagmacpghaaOpenWorks
import Derived.Test.YtgpdkagmacpghaaOrdNum
namespace Go.Proofs.Ytgpdkagmacpghaa.Shp
open Go Go.RowKit Go.ChangeShapes Go.WideShapes Go.Proofs.Ytgpdkagmacpghaa.Pl Go.Proofs.Ytgpdkagmacpghaa.Wd Go.Proofs.Ytgpdkagmacpghaa.Ap Go.Proofs.Ytgpdkagmacpghaa.Wo
set_option linter.unusedVariables false
def EReads (w : World) (v : Value) (es : List Ev) : Prop :=
  ∃ ad cap, v = .slice ad es.length cap ∧ es.length ≤ cap ∧ cap ≤ maxLen ∧ (es = [] ∨ ∃ b off, ad = some ⟨b, off, none⟩ ∧ b < w.heap.size ∧ ∀ i (h : i < es.length), w.rangeAt b (off + i * 20) (ec es[i]).toList)
theorem EReads.keep {w w' : World} {v : Value} {es : List Ev} (h : EReads w v es) (hb : Below w.heap.size w w') : EReads w' v es := by
  obtain ⟨ad, cap, rfl, h1, h2, h3⟩ := h
  refine ⟨ad, cap, rfl, h1, h2, h3.imp id ?_⟩
  rintro ⟨b, off, rfl, hb0, hc⟩
  exact ⟨b, off, rfl, Nat.lt_of_lt_of_le hb0 hb.size, fun i hi j v hv => (hb.cell (p := ⟨b, _, none⟩) hb0).trans (hc i hi j v hv)⟩
theorem eventsList {W : World} {b off : Nat} : ∀ n, (∀ i, i < n → Shape.oks W eventSh b (off + i * 20)) → ∃ xs : List Ev, xs.length = n ∧ ∀ i (h : i < xs.length), W.rangeAt b (off + i * 20) (ec xs[i]).toList
  | 0, _ => ⟨[], rfl, fun i h => by simp at h⟩
  | n + 1, h => by
    obtain ⟨xs, h1, h2⟩ := eventsList n (fun i hi => h i (by omega))
    obtain ⟨cs, h3, h4⟩ := okl_of_oks (h n (by omega))
    obtain ⟨s, rfl⟩ := okl_event h4
    refine ⟨xs ++ [s], by simp [h1], fun i hi => ?_⟩
    by_cases hlt : i < xs.length
    · rw [List.getElem_append_left hlt]
      exact h2 i hlt
    · obtain rfl : i = n := by simp at hi; omega
      rw [List.getElem_append_right (by omega)]
      simp only [h1, Nat.sub_self, List.getElem_cons_zero]
      exact h3
theorem readsE_of_ok {W : World} {v : Value} (h : Shape.ok W (.slice eventSh) v) : ∃ (x : Sl) (es : List Ev), v = x.v ∧ EReads W x.v es := by
  rw [Shape.ok] at h
  obtain ⟨ad, n, cap, rfl, h1, h2, h3⟩ := h
  rcases h3 with rfl | ⟨b, off, rfl, hb, hc⟩
  · exact ⟨⟨ad, 0, cap⟩, [], rfl, ad, cap, rfl, h1, h2, .inl rfl⟩
  · obtain ⟨es, e, hr⟩ := eventsList n hc
    subst e
    exact ⟨⟨_, _, cap⟩, es, rfl, _, cap, rfl, h1, h2, .inr ⟨b, off, rfl, hb (by simp), hr⟩⟩
section
variable {H : Type} {enc : TypeId × Value → H} {W : World}
theorem events_shapes : shapes Try.prog 7 52 = some [.slice eventSh] := by kernel_rfl
set_option maxRecDepth 100000 in
theorem open_events {r : Reach} {b0 : Nat} {v : Value} {d : DataW H} {p : List MemPlace} (hv : Value.okWide Try.prog W r b0 52 v) (h : DataW.Trod enc Try.prog W 0 (fun _ => true) true 52 v d p) : ∃ (x : Sl), v = x.v ∧ ∃ es, EReads W x.v es := by
  obtain ⟨a, len, cap, rfl⟩ := okWide_slice Try.underlying52 hv
  obtain ⟨fuel, hf⟩ := h
  have hk := open_shapes 7 _ _ events_shapes fuel _ _ hf (by kernel_rfl)
  simp only [Value.cells] at hk
  obtain ⟨w, ws, e1, hok, hnil⟩ := okl_cons hk
  obtain rfl := okl_nil hnil
  simp only [List.cons.injEq, and_true] at e1
  subst e1
  obtain ⟨x, es, e, hr⟩ := readsE_of_ok hok
  exact ⟨x, e, es, hr⟩
end
/-- What counts of an event for layer 16. -/
def evo (e : Ev) : Od.Ev := ⟨(e.wo, e.n), e.kd⟩
end Go.Proofs.Ytgpdkagmacpghaa.Shp
