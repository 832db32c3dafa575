/- rack.Copy. -/
import Derived.Test.YticgpikpefgldaaWork
namespace Go.Proofs.Yticgpikpefgldaa.Wo
open Go Go.RowKit Go.Proofs.Yticgpikpefgldaa.Gro Go.Proofs.Yticgpikpefgldaa.Own Go.Proofs.Yticgpikpefgldaa.Wd Go.Proofs.Yticgpikpefgldaa.Ap
set_option linter.unusedVariables false
set_option linter.unusedSimpArgs false

set_option maxHeartbeats 1000000 in
theorem copyWork (s : Wk) (x : St) (hx : Few 1000 x) (w : World) (h : Lies w s x) :
    Calls Try.prog 54 #[wv s] w fun e w' => ∃ s', e = .returned (wv s') ∧ Anew w.heap.size w' s' x ∧ Below w.heap.size w w' := by
  have e10 : ∀ s : Wk, (wc s)[10]? = some s.rk.v := fun _ => rfl
  have e12 : ∀ s : Wk, (wc s)[12]? = some s.l0.v := fun _ => rfl
  have e14 : ∀ s : Wk, (wc s)[14]? = some s.l1.v := fun _ => rfl
  have e16 : ∀ s : Wk, (wc s)[16]? = some s.l2.v := fun _ => rfl
  have e17 : ∀ s : Wk, (wc s)[17]? = some s.hl.v := fun _ => rfl
  have e29 : ∀ s : Wk, (wc s)[29]? = some s.rd.v := fun _ => rfl
  have T0 := Two.start w s
  go_enter Try.func54, Try.ntmps54
  go_wp2_with fail
  refine (fresh_int (h.keep T0.below).rk hx.rk).mono ?_
  rintro e v1 ⟨y1, rfl, f1, hb1⟩
  have U1 := T0.keep hb1
  have b1 := T0.lt
  have F1 := (f1.base (B' := w.heap.size + 2) (by omega)).setCell (g := w.heap.size) (by omega) 10 y1.v
  have T1 := U1.setX 10 y1.v { s with rk := y1 } (set_rk _ _)
  have x1 := U1.X.cells
  have z1 := U1.X.frozen
  clear f1 hb1 T0
  go_wp2_with fail
  generalize v1.setCell ⟨w.heap.size, 10, none⟩ y1.v = w1 at *
  clear x1 z1 U1
  refine (fresh_int (h.keep T1.below).hl hx.hl).mono ?_
  rintro e v2 ⟨y2, rfl, f2, hb2⟩
  have U2 := T1.keep hb2
  have b2 := T1.lt
  have F2 := (f2.base (B' := w.heap.size + 2) (by omega)).setCell (g := w.heap.size) (by omega) 17 y2.v
  have F1 := (F1.keep hb2).setCell (g := w.heap.size) (by omega) 17 y2.v
  have T2 := U2.setX 17 y2.v { s with rk := y1, hl := y2 } (set_hl _ _)
  have x2 := U2.X.cells
  have z2 := U2.X.frozen
  clear f2 hb2 T1
  go_wp2_with fail
  generalize v2.setCell ⟨w.heap.size, 17, none⟩ y2.v = w2 at *
  clear x2 z2 U2
  refine (fresh_word (h.keep T2.below).rd hx.rd).mono ?_
  rintro e v3 ⟨y3, rfl, f3, hb3⟩
  have U3 := T2.keep hb3
  have b3 := T2.lt
  have F3 := (f3.base (B' := w.heap.size + 2) (by omega)).setCell (g := w.heap.size) (by omega) 29 y3.v
  have F1 := (F1.keep hb3).setCell (g := w.heap.size) (by omega) 29 y3.v
  have F2 := (F2.keep hb3).setCell (g := w.heap.size) (by omega) 29 y3.v
  have T3 := U3.setX 29 y3.v { s with rk := y1, hl := y2, rd := y3 } (set_rd _ _)
  have x3 := U3.X.cells
  have z3 := U3.X.frozen
  clear f3 hb3 T2
  go_wp2_with fail
  refine wp_loop_rounds 4 ?_
  rw [rounds_succ]
  go_wp2_with fail
  generalize v3.setCell ⟨w.heap.size, 29, none⟩ y3.v = w3 at *
  clear x3 z3 U3
  refine (fresh_int (h.keep T3.below).l0 hx.l0).mono ?_
  rintro e v4 ⟨y4, rfl, f4, hb4⟩
  have U4 := T3.keep hb4
  have b4 := T3.lt
  have F4 := (f4.base (B' := w.heap.size + 2) (by omega)).setCell (g := w.heap.size) (by omega) 12 y4.v
  have F1 := (F1.keep hb4).setCell (g := w.heap.size) (by omega) 12 y4.v
  have F2 := (F2.keep hb4).setCell (g := w.heap.size) (by omega) 12 y4.v
  have F3 := (F3.keep hb4).setCell (g := w.heap.size) (by omega) 12 y4.v
  have T4 := U4.setX 12 y4.v { s with rk := y1, hl := y2, rd := y3, l0 := y4 } (set_l0 _ _)
  have x4 := U4.X.cells
  have z4 := U4.X.frozen
  clear f4 hb4 T3
  go_wp2_with fail
  rw [rounds_succ]
  go_wp2_with fail
  generalize v4.setCell ⟨w.heap.size, 12, none⟩ y4.v = w4 at *
  clear x4 z4 U4
  refine (fresh_int (h.keep T4.below).l1 hx.l1).mono ?_
  rintro e v5 ⟨y5, rfl, f5, hb5⟩
  have U5 := T4.keep hb5
  have b5 := T4.lt
  have F5 := (f5.base (B' := w.heap.size + 2) (by omega)).setCell (g := w.heap.size) (by omega) 14 y5.v
  have F1 := (F1.keep hb5).setCell (g := w.heap.size) (by omega) 14 y5.v
  have F2 := (F2.keep hb5).setCell (g := w.heap.size) (by omega) 14 y5.v
  have F3 := (F3.keep hb5).setCell (g := w.heap.size) (by omega) 14 y5.v
  have F4 := (F4.keep hb5).setCell (g := w.heap.size) (by omega) 14 y5.v
  have T5 := U5.setX 14 y5.v { s with rk := y1, hl := y2, rd := y3, l0 := y4, l1 := y5 } (set_l1 _ _)
  have x5 := U5.X.cells
  have z5 := U5.X.frozen
  clear f5 hb5 T4
  go_wp2_with fail
  rw [rounds_succ]
  go_wp2_with fail
  generalize v5.setCell ⟨w.heap.size, 14, none⟩ y5.v = w5 at *
  clear x5 z5 U5
  refine (fresh_int (h.keep T5.below).l2 hx.l2).mono ?_
  rintro e v6 ⟨y6, rfl, f6, hb6⟩
  have U6 := T5.keep hb6
  have b6 := T5.lt
  have F6 := (f6.base (B' := w.heap.size + 2) (by omega)).setCell (g := w.heap.size) (by omega) 16 y6.v
  have F1 := (F1.keep hb6).setCell (g := w.heap.size) (by omega) 16 y6.v
  have F2 := (F2.keep hb6).setCell (g := w.heap.size) (by omega) 16 y6.v
  have F3 := (F3.keep hb6).setCell (g := w.heap.size) (by omega) 16 y6.v
  have F4 := (F4.keep hb6).setCell (g := w.heap.size) (by omega) 16 y6.v
  have F5 := (F5.keep hb6).setCell (g := w.heap.size) (by omega) 16 y6.v
  have T6 := U6.setX 16 y6.v { s with rk := y1, hl := y2, rd := y3, l0 := y4, l1 := y5, l2 := y6 } (set_l2 _ _)
  have x6 := U6.X.cells
  have z6 := U6.X.frozen
  clear f6 hb6 T5
  go_wp2_with fail
  rw [rounds_succ]
  go_wp2_with (first | (refine wpList_load_row rfl _ _ rfl w.heap.size rfl _ (wc { s with rk := y1, hl := y2, rd := y3, l0 := y4, l1 := y5, l2 := y6 }) (0, 0) _ T6.X Try.underlying34 rfl (by kernel_rfl) ?_) | (refine wpList_store_row rfl _ _ _ rfl (w.heap.size + 1) (wc { s with rk := y1, hl := y2, rd := y3, l0 := y4, l1 := y5, l2 := y6 }) rfl rfl _ _ T6.Z (by kernel_rfl) (by kernel_rfl) (by kernel_rfl) ?_))
  have T7 := T6.rowZ { s with rk := y1, hl := y2, rd := y3, l0 := y4, l1 := y5, l2 := y6 }
  refine bodyPost_ret (v := wv { s with rk := y1, hl := y2, rd := y3, l0 := y4, l1 := y5, l2 := y6 }) ?_ rfl ⟨_, rfl, ⟨h.p, ?_, ?_, ?_, ?_, ?_, ?_⟩, T7.below⟩
  · exact results_cell_row (p := 2) (ty := 34) Try.results54 _ _ (w.heap.size + 1) 34 _ (0, 0) _ rfl T7.Z Try.underlying34 rfl (by kernel_rfl)
  · exact (F1.setRow (by omega) _).base (by omega)
  · exact (F4.setRow (by omega) _).base (by omega)
  · exact (F5.setRow (by omega) _).base (by omega)
  · exact (F6.setRow (by omega) _).base (by omega)
  · exact (F2.setRow (by omega) _).base (by omega)
  · exact (F3.setRow (by omega) _).base (by omega)
end Go.Proofs.Yticgpikpefgldaa.Wo
