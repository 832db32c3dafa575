/- Boxes of states, and a state whose lists are written in place (made by genrs.py). -/
import Derived.Test.YtkplkhcboobfaaaEnv
namespace Go.Proofs.Ytkplkhcboobfaaa.Wo
open Go Go.RowKit Go.Proofs.Ytkplkhcboobfaaa.Gro Go.Proofs.Ytkplkhcboobfaaa.Own Go.Proofs.Ytkplkhcboobfaaa.Wd Go.Proofs.Ytkplkhcboobfaaa.Ap Go.Proofs.Ytkplkhcboobfaaa.Pl
set_option linter.unusedVariables false
set_option linter.unusedSimpArgs false
/-- Boxes of states. -/
structure Envs (w0 : World) (l : List (Nat × Wk × St)) (w : World) : Prop where
  E : ∀ e ∈ l, Bk w e.1 (wc e.2.1) 63 ∧ Lies w e.2.1 e.2.2
  below : Below w0.heap.size w0 w
section
variable {w0 w w' : World} {l : List (Nat × Wk × St)} {g : Nat} {s : Wk} {x : St}
theorem Envs.bk (h : Envs w0 l w) (hm : (g, s, x) ∈ l) : Bk w g (wc s) 63 := (h.E _ hm).1
theorem Envs.lies (h : Envs w0 l w) (hm : (g, s, x) ∈ l) : Lies w s x := (h.E _ hm).2
theorem Envs.keep (h : Envs w0 l w) (hb : Below w.heap.size w w') : Envs w0 l w' := ⟨fun e he => ⟨(h.E e he).1.keep hb, (h.E e he).2.keep hb⟩, h.below.trans (hb.mono h.below.size)⟩
theorem Envs.box (h : Envs w0 l w) (hb : Below w.heap.size w w') (hl : Lies w' s x) : Envs w0 ((w'.heap.size, s, x) :: l) ((w'.alloc (.cells (wc wz) 63)).setRow w'.heap.size (wc s)) := by
  have b := boxed_below w' s
  have h2 := (h.keep hb).keep b
  refine ⟨fun e he => ?_, h2.below⟩
  rcases List.mem_cons.1 he with rfl | he
  · exact ⟨boxed_bk w' s, hl.keep b⟩
  · exact h2.E e he
end
/-- n elements in a block of their own kind, from block B on. -/
def IntRow (B : Nat) (w : World) (k : IntKind) (t : TypeId) (ad : Option Addr) (n : Nat) : Prop :=
  n = 0 ∨ ∃ g off cs, ad = some ⟨g, off, none⟩ ∧ B ≤ g ∧ Bk w g cs t ∧ off + n ≤ cs.size ∧ ∀ j, j < cs.size → ∃ v, cs[j]? = some (.int k v)
theorem intRow_of {B : Nat} {w : World} {k : IntKind} {t : TypeId} {y : Sl} {l : List Int} (h : Fresh B w k t y l) : IntRow B w k t y.ad y.len := by
  obtain ⟨hcap, hl, h⟩ := h
  rcases h with ⟨he, _⟩ | ⟨g, cap, cur, he, hge, hh, h1, h2, h3, h4⟩
  · simp only [Sl.v, Value.slice.injEq] at he
    exact .inl he.2.1
  · simp only [Sl.v, Value.slice.injEq] at he
    obtain ⟨e1, e2, e3⟩ := he
    refine .inr ⟨g, 0, cur, e1, hge, hh, by omega, fun j hj => ?_⟩
    have hlen : l.length * 1 = cur.size := by omega
    have hc : cur.toList = l.map (.int k) := by
      rw [← h4, hlen]
      exact (List.take_of_length_le (by simp)).symm
    have hjl : j < l.length := by omega
    refine ⟨l[j], ?_⟩
    rw [← Array.getElem?_toList, hc, List.getElem?_map, List.getElem?_eq_getElem hjl]
    rfl
theorem IntRow.keep {B : Nat} {w w' : World} {k : IntKind} {t : TypeId} {ad : Option Addr} {n : Nat} (h : IntRow B w k t ad n) (hb : Below w.heap.size w w') : IntRow B w' k t ad n := by
  rcases h with h | ⟨g, off, cs, h1, h2, h3, h4, h5⟩
  · exact .inl h
  · exact .inr ⟨g, off, cs, h1, h2, h3.keep hb, h4, h5⟩
theorem IntRow.store {B : Nat} {w : World} {k k' : IntKind} {t t' : TypeId} {ad : Option Addr} {n : Nat} (h : IntRow B w k t ad n) {g i : Nat} {cs : Array Value} (hg : Bk w g cs t') (hk : t' = t → k' = k) (v : Int) : IntRow B (w.setCell ⟨g, i, none⟩ (.int k' v)) k t ad n := by
  rcases h with h | ⟨g2, off, cs2, h1, h2, h3, h4, h5⟩
  · exact .inl h
  · refine .inr ?_
    by_cases e : g2 = g
    · subst e
      have e2 := hg.symm.trans h3
      simp only [Option.some.injEq, Obj.cells.injEq] at e2
      obtain ⟨rfl, rfl, _⟩ := e2
      refine ⟨g2, off, _, h1, h2, h3.setCell i (.int k' v), by simpa using h4, fun j hj => ?_⟩
      rw [Array.getElem?_setIfInBounds]
      split
      · split
        · exact ⟨v, by rw [hk rfl]⟩
        · simp at hj; omega
      · exact h5 j (by simpa using hj)
    · exact ⟨g2, off, cs2, h1, h2, h3.setCell_far (a := ⟨g, i, none⟩) e _, h4, h5⟩
/-- The box of a copy and the copy's lists, while they are written. -/
structure Inc (wB : World) (gk : Nat) (s : Wk) (w : World) : Prop where
  K : Bk w gk (wc s) 63
  gk0 : wB.heap.size ≤ gk
  below : Below wB.heap.size wB w
  rk : IntRow wB.heap.size w .i64 3 s.rk.ad s.rk.len
  l0 : IntRow wB.heap.size w .i64 3 s.l0.ad s.l0.len
  l1 : IntRow wB.heap.size w .i64 3 s.l1.ad s.l1.len
  l2 : IntRow wB.heap.size w .i64 3 s.l2.ad s.l2.len
  hl : IntRow wB.heap.size w .i64 3 s.hl.ad s.hl.len
  rd : IntRow wB.heap.size w .u64 22 s.rd.ad s.rd.len
theorem Inc.start {wB w : World} {s : Wk} {x : St} (h : Anew wB.heap.size w s x) (hb : Below wB.heap.size wB w) : Inc wB w.heap.size s ((w.alloc (.cells (wc wz) 63)).setRow w.heap.size (wc s)) :=
  have b := boxed_below w s
  ⟨boxed_bk w s, hb.size, hb.trans (b.mono hb.size), (intRow_of h.rk).keep b, (intRow_of h.l0).keep b, (intRow_of h.l1).keep b, (intRow_of h.l2).keep b, (intRow_of h.hl).keep b, (intRow_of h.rd).keep b⟩
theorem Inc.keep {wB w w' : World} {gk : Nat} {s : Wk} (h : Inc wB gk s w) (b : Below w.heap.size w w') : Inc wB gk s w' :=
  ⟨h.K.keep b, h.gk0, h.below.trans (b.mono h.below.size), h.rk.keep b, h.l0.keep b, h.l1.keep b, h.l2.keep b, h.hl.keep b, h.rd.keep b⟩
theorem Inc.storeI {wB w : World} {gk : Nat} {s : Wk} (h : Inc wB gk s w) {g : Nat} {cs : Array Value} (hg : Bk w g cs 3) (h0 : wB.heap.size ≤ g) (i : Nat) (v : Int) : Inc wB gk s (w.setCell ⟨g, i, none⟩ (.int .i64 v)) := by
  have hne : gk ≠ g := by
    rintro rfl
    have e2 := hg.symm.trans h.K
    simp at e2
  exact ⟨h.K.setCell_far (a := ⟨g, i, none⟩) hne _, h.gk0, h.below.setCell (p := ⟨g, i, none⟩) h0 _, h.rk.store hg (fun _ => rfl) v, h.l0.store hg (fun _ => rfl) v, h.l1.store hg (fun _ => rfl) v, h.l2.store hg (fun _ => rfl) v, h.hl.store hg (fun _ => rfl) v, h.rd.store hg (fun e => absurd e (by decide)) v⟩
theorem Inc.storeU {wB w : World} {gk : Nat} {s : Wk} (h : Inc wB gk s w) {g : Nat} {cs : Array Value} (hg : Bk w g cs 22) (h0 : wB.heap.size ≤ g) (i : Nat) (v : Int) : Inc wB gk s (w.setCell ⟨g, i, none⟩ (.int .u64 v)) := by
  have hne : gk ≠ g := by
    rintro rfl
    have e2 := hg.symm.trans h.K
    simp at e2
  exact ⟨h.K.setCell_far (a := ⟨g, i, none⟩) hne _, h.gk0, h.below.setCell (p := ⟨g, i, none⟩) h0 _, h.rk.store hg (fun e => absurd e (by decide)) v, h.l0.store hg (fun e => absurd e (by decide)) v, h.l1.store hg (fun e => absurd e (by decide)) v, h.l2.store hg (fun e => absurd e (by decide)) v, h.hl.store hg (fun e => absurd e (by decide)) v, h.rd.store hg (fun _ => rfl) v⟩
/-- Element i of a list. -/
theorem IntRow.at {B : Nat} {w : World} {k : IntKind} {t : TypeId} {ad : Option Addr} {n : Nat} (h : IntRow B w k t ad n) {i : Nat} (hi : i < n) : ∃ g off cs v, ad = some ⟨g, off, none⟩ ∧ B ≤ g ∧ Bk w g cs t ∧ w.cell? ⟨g, off + i, none⟩ = some (.int k v) ∧ w.frozen? ⟨g, off + i, none⟩ = false := by
  rcases h with h | ⟨g, off, cs, h1, h2, h3, h4, h5⟩
  · omega
  · obtain ⟨v, hv⟩ := h5 (off + i) (by omega)
    exact ⟨g, off, cs, v, h1, h2, h3, by rw [h3.cells, hv], h3.frozen _⟩
end Go.Proofs.Ytkplkhcboobfaaa.Wo
