/- The reference of layer 4: Copy, Put, Take, Hold, Next (made by genref04.py). -/
import Derived.Test.YtgpdkagmacpghaaGreatWorks
namespace Go.Proofs.YtgpdkagmacpghaaGreat.Wo
open Go Go.RowKit Go.Proofs.YtgpdkagmacpghaaGreat.Gro Go.Proofs.YtgpdkagmacpghaaGreat.Own Go.Proofs.YtgpdkagmacpghaaGreat.Wd Go.Proofs.YtgpdkagmacpghaaGreat.Ap Go.Proofs.YtgpdkagmacpghaaGreat.Pl
set_option linter.unusedVariables false
set_option linter.unusedSimpArgs false

theorem empty_row {w : World} {k : IntKind} {t : TypeId} {g : Nat} (hg : g = w.heap.size) : (w.alloc (.cells #[] t)).ownsRow g t 1 (.slice (some ⟨g, 0, none⟩) 0 0) 0 (([] : List Int).map (Value.int k)) := by
  subst hg
  exact World.ownsRow_lit w #[] 0 (Nat.le_refl _) (by unfold maxLen; omega) rfl
theorem owned_of {w : World} {g : Nat} {k : IntKind} {t : TypeId} {y : Sl} {n : Nat} {l l' : List Int} (h : w.ownsRow g t 1 y.v n (l'.map (Value.int k))) (e : l' = l) (hn : n = l.length) : Owned g w k t y l := by
  subst e; subst hn; exact h
/-- What an append onto an empty literal leaves. -/
theorem below_lit {w w' : World} {t : TypeId} {g : Nat} (hg : g = w.heap.size) (hb : Below g (w.alloc (.cells #[] t)) w') : Below w.heap.size w w' := by
  subst hg; exact ((Below.refl w.heap.size w).alloc (Nat.le_refl _) _).trans hb
set_option maxRecDepth 10000 in
set_option maxHeartbeats 1000000 in
theorem refCopy (s : Wk) (x : St) (hx : Few 900 x) (w : World) (h : Lies w s x) :
    Calls Tryz.prog 10 #[wv s] w fun e w' => ∃ s', e = .returned (wv s') ∧ LiesF w.heap.size w' s' x ∧ Below w.heap.size w w' := by
  have e10 : ∀ s : Wk, (wc s)[10]? = some (.slice s.rk.ad s.rk.len s.rk.cap) := fun _ => rfl
  have e12 : ∀ s : Wk, (wc s)[12]? = some (.slice s.l0.ad s.l0.len s.l0.cap) := fun _ => rfl
  have e14 : ∀ s : Wk, (wc s)[14]? = some (.slice s.l1.ad s.l1.len s.l1.cap) := fun _ => rfl
  have e16 : ∀ s : Wk, (wc s)[16]? = some (.slice s.l2.ad s.l2.len s.l2.cap) := fun _ => rfl
  have e17 : ∀ s : Wk, (wc s)[17]? = some (.slice s.hl.ad s.hl.len s.hl.cap) := fun _ => rfl
  have e29 : ∀ s : Wk, (wc s)[29]? = some (.slice s.rd.ad s.rd.len s.rd.cap) := fun _ => rfl
  have hxrk := hx.rk
  have hxhl := hx.hl
  have hxrd := hx.rd
  have hxl0 := hx.l0
  have hxl1 := hx.l1
  have hxl2 := hx.l2
  have T0 := Two.start w s
  go_enter Tryz.func10, Tryz.ntmps10
  have b0' := T0.lt
  go_wp2_with (first | (at_builtin; (refine append_any (k := .i64) elemI rfl (.tmp 4) (.tmp 6) rfl ((w.heap.size + 1 + 1)) _ 0 [] rfl ?h1a _ x.rk rfl ?h1b ?h1c ?h1d ?h1e; (case h1a => exact empty_row (by simp)); (case h1b => exact (h.keep T0.below).rk.keep ((Below.refl _ _).alloc (Nat.le_refl _) _)); (case h1c => omega); (case h1d => simp); intro y1 v1 q1 hb1; have c1 := below_lit (by simp) hb1; have U1 := T0.keep c1; have b1 := T0.lt; have l1 := U1.X.lt; have F1 := ((owned_of (l := x.rk) q1 (by simp) (by simp)).base (B' := w.heap.size + 2) (by have h9 := T0.lt; first | omega | (simp at h9; omega) | (simp at h9 ⊢; omega))).setCell (g := w.heap.size) (by omega) 10 y1.v; have T1 := U1.setX 10 y1.v { s with rk := y1 } (set_rk _ _); have x1 := U1.X.cells; have z1 := U1.X.frozen)) | (at_builtin; (refine append_any (k := .i64) elemI rfl (.tmp 9) (.tmp 11) rfl (v1.heap.size) _ 0 [] rfl ?h2a _ x.hl rfl ?h2b ?h2c ?h2d ?h2e; (case h2a => exact empty_row (by simp)); (case h2b => exact (h.keep T1.below).hl.keep ((Below.refl _ _).alloc (Nat.le_refl _) _)); (case h2c => omega); (case h2d => simp); intro y2 v2 q2 hb2; have c2 := below_lit (by simp) hb2; have U2 := T1.keep c2; have b2 := T1.lt; have l2 := U2.X.lt; have F2 := ((owned_of (l := x.hl) q2 (by simp) (by simp)).base (B' := w.heap.size + 2) (by have h9 := T1.lt; first | omega | (simp at h9; omega) | (simp at h9 ⊢; omega))).setCell (g := w.heap.size) (by omega) 17 y2.v; have F1 := (F1.keep c2).setCell (g := w.heap.size) (by omega) 17 y2.v; have T2 := U2.setX 17 y2.v { s with rk := y1, hl := y2 } (set_hl _ _); have x2 := U2.X.cells; have z2 := U2.X.frozen)) | (at_builtin; (refine append_any (k := .u64) elemU rfl (.tmp 14) (.tmp 16) rfl (v2.heap.size) _ 0 [] rfl ?h3a _ x.rd rfl ?h3b ?h3c ?h3d ?h3e; (case h3a => exact empty_row (by simp)); (case h3b => exact (h.keep T2.below).rd.keep ((Below.refl _ _).alloc (Nat.le_refl _) _)); (case h3c => omega); (case h3d => simp); intro y3 v3 q3 hb3; have c3 := below_lit (by simp) hb3; have U3 := T2.keep c3; have b3 := T2.lt; have l3 := U3.X.lt; have F3 := ((owned_of (l := x.rd) q3 (by simp) (by simp)).base (B' := w.heap.size + 2) (by have h9 := T2.lt; first | omega | (simp at h9; omega) | (simp at h9 ⊢; omega))).setCell (g := w.heap.size) (by omega) 29 y3.v; have F1 := (F1.keep c3).setCell (g := w.heap.size) (by omega) 29 y3.v; have F2 := (F2.keep c3).setCell (g := w.heap.size) (by omega) 29 y3.v; have T3 := U3.setX 29 y3.v { s with rk := y1, hl := y2, rd := y3 } (set_rd _ _); have x3 := U3.X.cells; have z3 := U3.X.frozen)))
  refine wp_loop_rounds 4 ?_
  rw [rounds_succ]
  go_wp2_with (at_builtin; (refine append_any (k := .i64) elemI rfl (.tmp 24) (.tmp 29) rfl (v3.heap.size) _ 0 [] rfl ?h4a _ x.l0 rfl ?h4b ?h4c ?h4d ?h4e; (case h4a => exact empty_row (by simp)); (case h4b => exact (h.keep T3.below).l0.keep ((Below.refl _ _).alloc (Nat.le_refl _) _)); (case h4c => omega); (case h4d => simp); intro y4 v4 q4 hb4; have c4 := below_lit (by simp) hb4; have U4 := T3.keep c4; have b4 := T3.lt; have l4 := U4.X.lt; have F4 := ((owned_of (l := x.l0) q4 (by simp) (by simp)).base (B' := w.heap.size + 2) (by have h9 := T3.lt; first | omega | (simp at h9; omega) | (simp at h9 ⊢; omega))).setCell (g := w.heap.size) (by omega) 12 y4.v; have F1 := (F1.keep c4).setCell (g := w.heap.size) (by omega) 12 y4.v; have F2 := (F2.keep c4).setCell (g := w.heap.size) (by omega) 12 y4.v; have F3 := (F3.keep c4).setCell (g := w.heap.size) (by omega) 12 y4.v; have T4 := U4.setX 12 y4.v { s with rk := y1, hl := y2, rd := y3, l0 := y4 } (set_l0 _ _); have x4 := U4.X.cells; have z4 := U4.X.frozen))
  rw [rounds_succ]
  go_wp2_with (at_builtin; (refine append_any (k := .i64) elemI rfl (.tmp 24) (.tmp 29) rfl (v4.heap.size) _ 0 [] rfl ?h5a _ x.l1 rfl ?h5b ?h5c ?h5d ?h5e; (case h5a => exact empty_row (by simp)); (case h5b => exact (h.keep T4.below).l1.keep ((Below.refl _ _).alloc (Nat.le_refl _) _)); (case h5c => omega); (case h5d => simp); intro y5 v5 q5 hb5; have c5 := below_lit (by simp) hb5; have U5 := T4.keep c5; have b5 := T4.lt; have l5 := U5.X.lt; have F5 := ((owned_of (l := x.l1) q5 (by simp) (by simp)).base (B' := w.heap.size + 2) (by have h9 := T4.lt; first | omega | (simp at h9; omega) | (simp at h9 ⊢; omega))).setCell (g := w.heap.size) (by omega) 14 y5.v; have F1 := (F1.keep c5).setCell (g := w.heap.size) (by omega) 14 y5.v; have F2 := (F2.keep c5).setCell (g := w.heap.size) (by omega) 14 y5.v; have F3 := (F3.keep c5).setCell (g := w.heap.size) (by omega) 14 y5.v; have F4 := (F4.keep c5).setCell (g := w.heap.size) (by omega) 14 y5.v; have T5 := U5.setX 14 y5.v { s with rk := y1, hl := y2, rd := y3, l0 := y4, l1 := y5 } (set_l1 _ _); have x5 := U5.X.cells; have z5 := U5.X.frozen))
  rw [rounds_succ]
  go_wp2_with (at_builtin; (refine append_any (k := .i64) elemI rfl (.tmp 24) (.tmp 29) rfl (v5.heap.size) _ 0 [] rfl ?h6a _ x.l2 rfl ?h6b ?h6c ?h6d ?h6e; (case h6a => exact empty_row (by simp)); (case h6b => exact (h.keep T5.below).l2.keep ((Below.refl _ _).alloc (Nat.le_refl _) _)); (case h6c => omega); (case h6d => simp); intro y6 v6 q6 hb6; have c6 := below_lit (by simp) hb6; have U6 := T5.keep c6; have b6 := T5.lt; have l6 := U6.X.lt; have F6 := ((owned_of (l := x.l2) q6 (by simp) (by simp)).base (B' := w.heap.size + 2) (by have h9 := T5.lt; first | omega | (simp at h9; omega) | (simp at h9 ⊢; omega))).setCell (g := w.heap.size) (by omega) 16 y6.v; have F1 := (F1.keep c6).setCell (g := w.heap.size) (by omega) 16 y6.v; have F2 := (F2.keep c6).setCell (g := w.heap.size) (by omega) 16 y6.v; have F3 := (F3.keep c6).setCell (g := w.heap.size) (by omega) 16 y6.v; have F4 := (F4.keep c6).setCell (g := w.heap.size) (by omega) 16 y6.v; have F5 := (F5.keep c6).setCell (g := w.heap.size) (by omega) 16 y6.v; have T6 := U6.setX 16 y6.v { s with rk := y1, hl := y2, rd := y3, l0 := y4, l1 := y5, l2 := y6 } (set_l2 _ _); have x6 := U6.X.cells; have z6 := U6.X.frozen))
  rw [rounds_succ]
  go_wp2_with (first | (refine wpList_load_row rfl 34 _ rfl (w.heap.size) rfl _ (wc { s with rk := y1, hl := y2, rd := y3, l0 := y4, l1 := y5, l2 := y6 }) (0, 0) _ (by exact T6.X) Tryz.underlying34 rfl (by kernel_rfl) ?_) | (refine wpList_store_row rfl 34 _ _ rfl (w.heap.size + 1) (wc { s with rk := y1, hl := y2, rd := y3, l0 := y4, l1 := y5, l2 := y6 }) rfl rfl _ _ (by exact T6.Z) (by kernel_rfl) (by kernel_rfl) (by kernel_rfl) ?_))
  have T7 := T6.rowZ { s with rk := y1, hl := y2, rd := y3, l0 := y4, l1 := y5, l2 := y6 }
  refine bodyPost_ret (v := wv { s with rk := y1, hl := y2, rd := y3, l0 := y4, l1 := y5, l2 := y6 }) ?_ rfl ⟨_, rfl, LiesF.base (B := w.heap.size + 2) ⟨h.p, ?_, ?_, ?_, ?_, ?_, ?_⟩ (by omega), T7.below⟩
  · exact results_cell_row (p := 2) (ty := 34) Tryz.results10 _ _ (w.heap.size + 1) 34 _ (0, 0) _ rfl T7.Z Tryz.underlying34 rfl (by kernel_rfl)
  · exact (F1.setRow (by omega) _).rdF
  · exact (F4.setRow (by omega) _).rdF
  · exact (F5.setRow (by omega) _).rdF
  · exact (F6.setRow (by omega) _).rdF
  · exact (F2.setRow (by omega) _).rdF
  · exact (F3.setRow (by omega) _).rdF
end Go.Proofs.YtgpdkagmacpghaaGreat.Wo
