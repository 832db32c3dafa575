/- bag.Put, bag.Count (made by genbag2.py). -/
import Derived.Test.YtkplkhcboobfaaaBagPrep
import Derived.BigQuiet
import Derived.Deep.QuietTactic
namespace Go.Proofs.Ytkplkhcboobfaaa.Wo
open Go Go.RowKit Go.Proofs.Ytkplkhcboobfaaa.Gro Go.Proofs.Ytkplkhcboobfaaa.Own Go.Proofs.Ytkplkhcboobfaaa.Wd Go.Proofs.Ytkplkhcboobfaaa.Ap Go.Proofs.Ytkplkhcboobfaaa.Pl
set_option linter.unusedVariables false
set_option linter.unusedSimpArgs false
theorem prepare0 (s : Wk) (x : St) (hx : Few 900 x) (w : World) (h : Lies w s x) (hM : tagOf x % 3 = 0) :
    Calls Try.prog 66 #[wv s] w fun e w' => ∃ s', e = .returned (.tuple #[wv s', .int .i64 0]) ∧ Part w.heap.size w' s' (prep0 x) ∧ Below w.heap.size w w' := by
  have hW : IntKind.u64.wrap (s.p.ep + 1) = tagOf x := by rw [h.p]; rfl
  by_cases hT : x.p.t0 = tagOf x
  · rw [prep0, if_pos hT]
    exact (prep_same0 s x hx w h (tagOf x) hW (tag_range x).1 hM (by rw [h.p]; exact hT)).mono fun e w' ⟨s', h1, h2, h3⟩ => ⟨s', h1, h2.part, h3⟩
  · rw [prep0, if_neg hT]
    exact prep_other0 s x hx w h (tagOf x) hW (tag_range x).1 hM (by rw [h.p]; exact hT)
theorem prepare1 (s : Wk) (x : St) (hx : Few 900 x) (w : World) (h : Lies w s x) (hM : tagOf x % 3 = 1) :
    Calls Try.prog 66 #[wv s] w fun e w' => ∃ s', e = .returned (.tuple #[wv s', .int .i64 1]) ∧ Part w.heap.size w' s' (prep1 x) ∧ Below w.heap.size w w' := by
  have hW : IntKind.u64.wrap (s.p.ep + 1) = tagOf x := by rw [h.p]; rfl
  by_cases hT : x.p.t1 = tagOf x
  · rw [prep1, if_pos hT]
    exact (prep_same1 s x hx w h (tagOf x) hW (tag_range x).1 hM (by rw [h.p]; exact hT)).mono fun e w' ⟨s', h1, h2, h3⟩ => ⟨s', h1, h2.part, h3⟩
  · rw [prep1, if_neg hT]
    exact prep_other1 s x hx w h (tagOf x) hW (tag_range x).1 hM (by rw [h.p]; exact hT)
theorem prepare2 (s : Wk) (x : St) (hx : Few 900 x) (w : World) (h : Lies w s x) (hM : tagOf x % 3 = 2) :
    Calls Try.prog 66 #[wv s] w fun e w' => ∃ s', e = .returned (.tuple #[wv s', .int .i64 2]) ∧ Part w.heap.size w' s' (prep2 x) ∧ Below w.heap.size w w' := by
  have hW : IntKind.u64.wrap (s.p.ep + 1) = tagOf x := by rw [h.p]; rfl
  by_cases hT : x.p.t2 = tagOf x
  · rw [prep2, if_pos hT]
    exact (prep_same2 s x hx w h (tagOf x) hW (tag_range x).1 hM (by rw [h.p]; exact hT)).mono fun e w' ⟨s', h1, h2, h3⟩ => ⟨s', h1, h2.part, h3⟩
  · rw [prep2, if_neg hT]
    exact prep_other2 s x hx w h (tagOf x) hW (tag_range x).1 hM (by rw [h.p]; exact hT)
set_option maxRecDepth 10000 in
set_option maxHeartbeats 1000000 in
theorem bagPut0_room (c : Cfg) (s : Wk) (x : St) (hx : Few 900 x) (hy : Few 900 (prep0 x)) (b : Int) (w : World) (h : Lies w s x) (hM : tagOf x % 3 = 0) (hm : ((prep0 x).l0.length : Int) < c.bg) :
    Calls Try.prog 38 #[cv c, wv s, .int .i64 b] w fun e w' => ∃ s', e = .returned (.tuple #[wv s', .bool true]) ∧ LiesF w.heap.size w' s' { prep0 x with l0 := (prep0 x).l0 ++ [b] } ∧ Below w.heap.size w w' := by
  have eL : ∀ s : Wk, (wc s)[12]? = some (.slice s.l0.ad s.l0.len s.l0.cap) := fun _ => rfl
  have hw0 : Below w.heap.size w (w.alloc (.cells (ccW c) 24)) := (Below.refl _ _).alloc (Nat.le_refl _) _
  have T0 := Two.startAt hw0 s
  have C0 := (((Bk.new w (ccW c) 24).alloc (.cells (wc s) 63)).alloc (.cells (wc wz) 63))
  rw [show (w.alloc (.cells (ccW c) 24)).heap.size = w.heap.size + 1 by simp] at T0
  go_enter Try.func38, Try.ntmps38
  go_wp2_with (refine wpList_load_row rfl 63 _ rfl (w.heap.size + 1) rfl _ (wc s) (0, 0) _ (by exact T0.X) Try.underlying63 rfl (by kernel_rfl) ?_)
  refine (prepare0 s x hx _ (h.keep T0.below) hM).mono ?_
  rintro e w1 ⟨s', rfl, A1, hb1⟩
  have T1 := T0.keep hb1
  have b0 := T0.lt
  have b1 := T1.lt
  have T2 := T1.rowX s'
  have A2 := A1.setRow (g := w.heap.size + 1) (by omega) (wc s')
  have C1 := C0.keep hb1
  have C2 := C1.setRow_far (g' := w.heap.size + 1) (by omega) (wc s')
  have hs1 : (((w.alloc (Obj.cells (ccW c) 24)).alloc (Obj.cells (wc s) 63)).alloc (Obj.cells (wc wz) 63)).heap.size ≤ w1.heap.size := hb1.size
  have hlen := reads_len A1.l0.reads
  have hyl := hy.l0
  have HLEN := Lib.hid hlen
  have hlt : decide (c.bg ≤ (s'.l0.len : Int)) = false := by simp; omega
  clear hlen C0 T0 hb1
  go_wp2_with (refine wpList_store_row rfl 63 _ _ rfl (w.heap.size + 1) (wc s') rfl rfl _ _ (by exact T1.X) (by kernel_rfl) (by kernel_rfl) (by kernel_rfl) ?_)
  obtain ⟨w2, hw2⟩ : ∃ w2, w2 = w1.setRow (w.heap.size + 1) (wc s') := ⟨_, rfl⟩
  rw [← hw2] at T2 A2 C2 ⊢
  clear hw2
  have hs2 := T2.lt
  have hc2 := C2.lt
  have x2 := T2.X.cells
  have c2 := C2.cells
  have eLs := eL s'
  have HTG := Lib.hid A1.l0.1
  clear eL
  refine wp_region_grown (by kernel_rfl) (by kernel_rfl) ?_
  have hg := @gcell
  repeat (go_big_quiet_step (fail))
  refine wpQuiet_nil ?_
  rintro w3 ⟨⟨_, hb3⟩, rfl⟩
  clear hg x2 c2
  have T3 := T2.keep hb3
  have A3 := A2.keep hb3
  have hs3 := T3.lt
  have b3 := hb3.size
  have x3 := T3.X.cells
  go_wp2_with (first | (at_builtin; refine append_tight elemI rfl _ _ rfl _ s'.l0 (prep0 x).l0 rfl (A3.l0.2.keep ((Below.refl _ _).alloc (Nat.le_refl _) _)) HTG.out _ [b] rfl (reads_one (by simp)) (by simp; omega) (by simp at hs1 ⊢; omega) ?_; intro z w4 r4 hb4; have T4 := (T3.keep ((Below.refl _ _).alloc (Nat.le_refl _) _)).keep hb4; have x4 := T4.X.cells; have z4 := T4.X.frozen; have T5 := T4.setX 12 z.v { s' with l0 := z } rfl) | (refine wpList_load_row rfl 63 _ rfl (w.heap.size + 1) rfl _ (wc { s' with l0 := z }) (0, 0) _ (by exact T5.X) Try.underlying63 rfl (by kernel_rfl) ?_) | (refine wpList_store_row rfl 63 _ _ rfl (w.heap.size + 1 + 1) (wc { s' with l0 := z }) rfl rfl _ _ (by exact T5.Z) (by kernel_rfl) (by kernel_rfl) (by kernel_rfl) ?_))
  have T6 := T5.rowZ { s' with l0 := z }
  refine bodyPost_ret (v := .tuple #[wv { s' with l0 := z }, .bool true]) ?_ rfl ⟨_, rfl, ?_, T6.below⟩
  · exact Rw.results_cell_slot (p := 6) (q := 7) (ty := 63) Try.results38 _ _ (w.heap.size + 1 + 1) 63 _ (0, 0) _ rfl T6.Z Try.underlying63 rfl (by kernel_rfl)
  · have A4 := ((A3.keep ((Below.refl _ _).alloc (Nat.le_refl _) _)).keep hb4).setCell (g := w.heap.size + 1) (by omega) 12 z.v
    have A5 := A4.setRow (g := w.heap.size + 1 + 1) (by omega) (wc { s' with l0 := z })
    have Y5 : Owned _ _ _ _ z ((prep0 x).l0 ++ [b]) := Owned.setRow (g := w.heap.size + 1 + 1) (Owned.setCell (g := w.heap.size + 1) r4 (by omega) 12 z.v) (by omega) (wc { s' with l0 := z })
    exact LiesF.base ⟨A1.p, A5.rk.rdF, Owned.rdF Y5, A5.l1.rdF, A5.l2.rdF, A5.hl.rdF, A5.rd.rdF⟩ (by omega)
set_option maxRecDepth 10000 in
set_option maxHeartbeats 1000000 in
theorem bagPut0_full (c : Cfg) (s : Wk) (x : St) (hx : Few 900 x) (hy : Few 900 (prep0 x)) (b : Int) (w : World) (h : Lies w s x) (hM : tagOf x % 3 = 0) (hm : ¬ ((prep0 x).l0.length : Int) < c.bg) :
    Calls Try.prog 38 #[cv c, wv s, .int .i64 b] w fun e w' => ∃ s', e = .returned (.tuple #[wv s', .bool false]) ∧ LiesF w.heap.size w' s' (prep0 x) ∧ Below w.heap.size w w' := by
  have eL : ∀ s : Wk, (wc s)[12]? = some (.slice s.l0.ad s.l0.len s.l0.cap) := fun _ => rfl
  have hw0 : Below w.heap.size w (w.alloc (.cells (ccW c) 24)) := (Below.refl _ _).alloc (Nat.le_refl _) _
  have T0 := Two.startAt hw0 s
  have C0 := (((Bk.new w (ccW c) 24).alloc (.cells (wc s) 63)).alloc (.cells (wc wz) 63))
  rw [show (w.alloc (.cells (ccW c) 24)).heap.size = w.heap.size + 1 by simp] at T0
  go_enter Try.func38, Try.ntmps38
  go_wp2_with (refine wpList_load_row rfl 63 _ rfl (w.heap.size + 1) rfl _ (wc s) (0, 0) _ (by exact T0.X) Try.underlying63 rfl (by kernel_rfl) ?_)
  refine (prepare0 s x hx _ (h.keep T0.below) hM).mono ?_
  rintro e w1 ⟨s', rfl, A1, hb1⟩
  have T1 := T0.keep hb1
  have b0 := T0.lt
  have b1 := T1.lt
  have T2 := T1.rowX s'
  have A2 := A1.setRow (g := w.heap.size + 1) (by omega) (wc s')
  have C1 := C0.keep hb1
  have C2 := C1.setRow_far (g' := w.heap.size + 1) (by omega) (wc s')
  have hs1 : (((w.alloc (Obj.cells (ccW c) 24)).alloc (Obj.cells (wc s) 63)).alloc (Obj.cells (wc wz) 63)).heap.size ≤ w1.heap.size := hb1.size
  have hlen := reads_len A1.l0.reads
  have hyl := hy.l0
  have HLEN := Lib.hid hlen
  have hlt : decide (c.bg ≤ (s'.l0.len : Int)) = true := by simp; omega
  clear hlen C0 T0 hb1
  go_wp2_with (refine wpList_store_row rfl 63 _ _ rfl (w.heap.size + 1) (wc s') rfl rfl _ _ (by exact T1.X) (by kernel_rfl) (by kernel_rfl) (by kernel_rfl) ?_)
  obtain ⟨w2, hw2⟩ : ∃ w2, w2 = w1.setRow (w.heap.size + 1) (wc s') := ⟨_, rfl⟩
  rw [← hw2] at T2 A2 C2 ⊢
  clear hw2
  have hs2 := T2.lt
  have hc2 := C2.lt
  have x2 := T2.X.cells
  have c2 := C2.cells
  have eLs := eL s'
  have HTG := Lib.hid A1.l0.1
  clear eL
  refine wp_region_grown (by kernel_rfl) (by kernel_rfl) ?_
  have hg := @gcell
  repeat (go_big_quiet_step (fail))
  refine wpQuiet_nil ?_
  rintro w3 ⟨⟨_, hb3⟩, rfl⟩
  clear hg x2 c2
  have T3 := T2.keep hb3
  have A3 := A2.keep hb3
  have hs3 := T3.lt
  have b3 := hb3.size
  have x3 := T3.X.cells
  have T5 := T3
  have T6 := T5.rowZ s'
  go_wp2_with (first | (refine wpList_load_row rfl 63 _ rfl (w.heap.size + 1) rfl _ (wc s') (0, 0) _ (by exact T3.X) Try.underlying63 rfl (by kernel_rfl) ?_) | (refine wpList_store_row rfl 63 _ _ rfl (w.heap.size + 1 + 1) (wc s') rfl rfl _ _ (by exact T3.Z) (by kernel_rfl) (by kernel_rfl) (by kernel_rfl) ?_))
  refine bodyPost_ret (v := .tuple #[wv s', .bool false]) ?_ rfl ⟨_, rfl, ?_, T6.below⟩
  · exact Rw.results_cell_slot (p := 6) (q := 7) (ty := 63) Try.results38 _ _ (w.heap.size + 1 + 1) 63 _ (0, 0) _ rfl T6.Z Try.underlying63 rfl (by kernel_rfl)
  · exact ((A3.setRow (g := w.heap.size + 1 + 1) (by omega) _).liesF).base (by omega)
set_option maxRecDepth 10000 in
set_option maxHeartbeats 1000000 in
theorem bagPut1_room (c : Cfg) (s : Wk) (x : St) (hx : Few 900 x) (hy : Few 900 (prep1 x)) (b : Int) (w : World) (h : Lies w s x) (hM : tagOf x % 3 = 1) (hm : ((prep1 x).l1.length : Int) < c.bg) :
    Calls Try.prog 38 #[cv c, wv s, .int .i64 b] w fun e w' => ∃ s', e = .returned (.tuple #[wv s', .bool true]) ∧ LiesF w.heap.size w' s' { prep1 x with l1 := (prep1 x).l1 ++ [b] } ∧ Below w.heap.size w w' := by
  have eL : ∀ s : Wk, (wc s)[14]? = some (.slice s.l1.ad s.l1.len s.l1.cap) := fun _ => rfl
  have hw0 : Below w.heap.size w (w.alloc (.cells (ccW c) 24)) := (Below.refl _ _).alloc (Nat.le_refl _) _
  have T0 := Two.startAt hw0 s
  have C0 := (((Bk.new w (ccW c) 24).alloc (.cells (wc s) 63)).alloc (.cells (wc wz) 63))
  rw [show (w.alloc (.cells (ccW c) 24)).heap.size = w.heap.size + 1 by simp] at T0
  go_enter Try.func38, Try.ntmps38
  go_wp2_with (refine wpList_load_row rfl 63 _ rfl (w.heap.size + 1) rfl _ (wc s) (0, 0) _ (by exact T0.X) Try.underlying63 rfl (by kernel_rfl) ?_)
  refine (prepare1 s x hx _ (h.keep T0.below) hM).mono ?_
  rintro e w1 ⟨s', rfl, A1, hb1⟩
  have T1 := T0.keep hb1
  have b0 := T0.lt
  have b1 := T1.lt
  have T2 := T1.rowX s'
  have A2 := A1.setRow (g := w.heap.size + 1) (by omega) (wc s')
  have C1 := C0.keep hb1
  have C2 := C1.setRow_far (g' := w.heap.size + 1) (by omega) (wc s')
  have hs1 : (((w.alloc (Obj.cells (ccW c) 24)).alloc (Obj.cells (wc s) 63)).alloc (Obj.cells (wc wz) 63)).heap.size ≤ w1.heap.size := hb1.size
  have hlen := reads_len A1.l1.reads
  have hyl := hy.l1
  have HLEN := Lib.hid hlen
  have hlt : decide (c.bg ≤ (s'.l1.len : Int)) = false := by simp; omega
  clear hlen C0 T0 hb1
  go_wp2_with (refine wpList_store_row rfl 63 _ _ rfl (w.heap.size + 1) (wc s') rfl rfl _ _ (by exact T1.X) (by kernel_rfl) (by kernel_rfl) (by kernel_rfl) ?_)
  obtain ⟨w2, hw2⟩ : ∃ w2, w2 = w1.setRow (w.heap.size + 1) (wc s') := ⟨_, rfl⟩
  rw [← hw2] at T2 A2 C2 ⊢
  clear hw2
  have hs2 := T2.lt
  have hc2 := C2.lt
  have x2 := T2.X.cells
  have c2 := C2.cells
  have eLs := eL s'
  have HTG := Lib.hid A1.l1.1
  clear eL
  refine wp_region_grown (by kernel_rfl) (by kernel_rfl) ?_
  have hg := @gcell
  repeat (go_big_quiet_step (fail))
  refine wpQuiet_nil ?_
  rintro w3 ⟨⟨_, hb3⟩, rfl⟩
  clear hg x2 c2
  have T3 := T2.keep hb3
  have A3 := A2.keep hb3
  have hs3 := T3.lt
  have b3 := hb3.size
  have x3 := T3.X.cells
  go_wp2_with (first | (at_builtin; refine append_tight elemI rfl _ _ rfl _ s'.l1 (prep1 x).l1 rfl (A3.l1.2.keep ((Below.refl _ _).alloc (Nat.le_refl _) _)) HTG.out _ [b] rfl (reads_one (by simp)) (by simp; omega) (by simp at hs1 ⊢; omega) ?_; intro z w4 r4 hb4; have T4 := (T3.keep ((Below.refl _ _).alloc (Nat.le_refl _) _)).keep hb4; have x4 := T4.X.cells; have z4 := T4.X.frozen; have T5 := T4.setX 14 z.v { s' with l1 := z } rfl) | (refine wpList_load_row rfl 63 _ rfl (w.heap.size + 1) rfl _ (wc { s' with l1 := z }) (0, 0) _ (by exact T5.X) Try.underlying63 rfl (by kernel_rfl) ?_) | (refine wpList_store_row rfl 63 _ _ rfl (w.heap.size + 1 + 1) (wc { s' with l1 := z }) rfl rfl _ _ (by exact T5.Z) (by kernel_rfl) (by kernel_rfl) (by kernel_rfl) ?_))
  have T6 := T5.rowZ { s' with l1 := z }
  refine bodyPost_ret (v := .tuple #[wv { s' with l1 := z }, .bool true]) ?_ rfl ⟨_, rfl, ?_, T6.below⟩
  · exact Rw.results_cell_slot (p := 6) (q := 7) (ty := 63) Try.results38 _ _ (w.heap.size + 1 + 1) 63 _ (0, 0) _ rfl T6.Z Try.underlying63 rfl (by kernel_rfl)
  · have A4 := ((A3.keep ((Below.refl _ _).alloc (Nat.le_refl _) _)).keep hb4).setCell (g := w.heap.size + 1) (by omega) 14 z.v
    have A5 := A4.setRow (g := w.heap.size + 1 + 1) (by omega) (wc { s' with l1 := z })
    have Y5 : Owned _ _ _ _ z ((prep1 x).l1 ++ [b]) := Owned.setRow (g := w.heap.size + 1 + 1) (Owned.setCell (g := w.heap.size + 1) r4 (by omega) 14 z.v) (by omega) (wc { s' with l1 := z })
    exact LiesF.base ⟨A1.p, A5.rk.rdF, A5.l0.rdF, Owned.rdF Y5, A5.l2.rdF, A5.hl.rdF, A5.rd.rdF⟩ (by omega)
set_option maxRecDepth 10000 in
set_option maxHeartbeats 1000000 in
theorem bagPut1_full (c : Cfg) (s : Wk) (x : St) (hx : Few 900 x) (hy : Few 900 (prep1 x)) (b : Int) (w : World) (h : Lies w s x) (hM : tagOf x % 3 = 1) (hm : ¬ ((prep1 x).l1.length : Int) < c.bg) :
    Calls Try.prog 38 #[cv c, wv s, .int .i64 b] w fun e w' => ∃ s', e = .returned (.tuple #[wv s', .bool false]) ∧ LiesF w.heap.size w' s' (prep1 x) ∧ Below w.heap.size w w' := by
  have eL : ∀ s : Wk, (wc s)[14]? = some (.slice s.l1.ad s.l1.len s.l1.cap) := fun _ => rfl
  have hw0 : Below w.heap.size w (w.alloc (.cells (ccW c) 24)) := (Below.refl _ _).alloc (Nat.le_refl _) _
  have T0 := Two.startAt hw0 s
  have C0 := (((Bk.new w (ccW c) 24).alloc (.cells (wc s) 63)).alloc (.cells (wc wz) 63))
  rw [show (w.alloc (.cells (ccW c) 24)).heap.size = w.heap.size + 1 by simp] at T0
  go_enter Try.func38, Try.ntmps38
  go_wp2_with (refine wpList_load_row rfl 63 _ rfl (w.heap.size + 1) rfl _ (wc s) (0, 0) _ (by exact T0.X) Try.underlying63 rfl (by kernel_rfl) ?_)
  refine (prepare1 s x hx _ (h.keep T0.below) hM).mono ?_
  rintro e w1 ⟨s', rfl, A1, hb1⟩
  have T1 := T0.keep hb1
  have b0 := T0.lt
  have b1 := T1.lt
  have T2 := T1.rowX s'
  have A2 := A1.setRow (g := w.heap.size + 1) (by omega) (wc s')
  have C1 := C0.keep hb1
  have C2 := C1.setRow_far (g' := w.heap.size + 1) (by omega) (wc s')
  have hs1 : (((w.alloc (Obj.cells (ccW c) 24)).alloc (Obj.cells (wc s) 63)).alloc (Obj.cells (wc wz) 63)).heap.size ≤ w1.heap.size := hb1.size
  have hlen := reads_len A1.l1.reads
  have hyl := hy.l1
  have HLEN := Lib.hid hlen
  have hlt : decide (c.bg ≤ (s'.l1.len : Int)) = true := by simp; omega
  clear hlen C0 T0 hb1
  go_wp2_with (refine wpList_store_row rfl 63 _ _ rfl (w.heap.size + 1) (wc s') rfl rfl _ _ (by exact T1.X) (by kernel_rfl) (by kernel_rfl) (by kernel_rfl) ?_)
  obtain ⟨w2, hw2⟩ : ∃ w2, w2 = w1.setRow (w.heap.size + 1) (wc s') := ⟨_, rfl⟩
  rw [← hw2] at T2 A2 C2 ⊢
  clear hw2
  have hs2 := T2.lt
  have hc2 := C2.lt
  have x2 := T2.X.cells
  have c2 := C2.cells
  have eLs := eL s'
  have HTG := Lib.hid A1.l1.1
  clear eL
  refine wp_region_grown (by kernel_rfl) (by kernel_rfl) ?_
  have hg := @gcell
  repeat (go_big_quiet_step (fail))
  refine wpQuiet_nil ?_
  rintro w3 ⟨⟨_, hb3⟩, rfl⟩
  clear hg x2 c2
  have T3 := T2.keep hb3
  have A3 := A2.keep hb3
  have hs3 := T3.lt
  have b3 := hb3.size
  have x3 := T3.X.cells
  have T5 := T3
  have T6 := T5.rowZ s'
  go_wp2_with (first | (refine wpList_load_row rfl 63 _ rfl (w.heap.size + 1) rfl _ (wc s') (0, 0) _ (by exact T3.X) Try.underlying63 rfl (by kernel_rfl) ?_) | (refine wpList_store_row rfl 63 _ _ rfl (w.heap.size + 1 + 1) (wc s') rfl rfl _ _ (by exact T3.Z) (by kernel_rfl) (by kernel_rfl) (by kernel_rfl) ?_))
  refine bodyPost_ret (v := .tuple #[wv s', .bool false]) ?_ rfl ⟨_, rfl, ?_, T6.below⟩
  · exact Rw.results_cell_slot (p := 6) (q := 7) (ty := 63) Try.results38 _ _ (w.heap.size + 1 + 1) 63 _ (0, 0) _ rfl T6.Z Try.underlying63 rfl (by kernel_rfl)
  · exact ((A3.setRow (g := w.heap.size + 1 + 1) (by omega) _).liesF).base (by omega)
set_option maxRecDepth 10000 in
set_option maxHeartbeats 1000000 in
theorem bagPut2_room (c : Cfg) (s : Wk) (x : St) (hx : Few 900 x) (hy : Few 900 (prep2 x)) (b : Int) (w : World) (h : Lies w s x) (hM : tagOf x % 3 = 2) (hm : ((prep2 x).l2.length : Int) < c.bg) :
    Calls Try.prog 38 #[cv c, wv s, .int .i64 b] w fun e w' => ∃ s', e = .returned (.tuple #[wv s', .bool true]) ∧ LiesF w.heap.size w' s' { prep2 x with l2 := (prep2 x).l2 ++ [b] } ∧ Below w.heap.size w w' := by
  have eL : ∀ s : Wk, (wc s)[16]? = some (.slice s.l2.ad s.l2.len s.l2.cap) := fun _ => rfl
  have hw0 : Below w.heap.size w (w.alloc (.cells (ccW c) 24)) := (Below.refl _ _).alloc (Nat.le_refl _) _
  have T0 := Two.startAt hw0 s
  have C0 := (((Bk.new w (ccW c) 24).alloc (.cells (wc s) 63)).alloc (.cells (wc wz) 63))
  rw [show (w.alloc (.cells (ccW c) 24)).heap.size = w.heap.size + 1 by simp] at T0
  go_enter Try.func38, Try.ntmps38
  go_wp2_with (refine wpList_load_row rfl 63 _ rfl (w.heap.size + 1) rfl _ (wc s) (0, 0) _ (by exact T0.X) Try.underlying63 rfl (by kernel_rfl) ?_)
  refine (prepare2 s x hx _ (h.keep T0.below) hM).mono ?_
  rintro e w1 ⟨s', rfl, A1, hb1⟩
  have T1 := T0.keep hb1
  have b0 := T0.lt
  have b1 := T1.lt
  have T2 := T1.rowX s'
  have A2 := A1.setRow (g := w.heap.size + 1) (by omega) (wc s')
  have C1 := C0.keep hb1
  have C2 := C1.setRow_far (g' := w.heap.size + 1) (by omega) (wc s')
  have hs1 : (((w.alloc (Obj.cells (ccW c) 24)).alloc (Obj.cells (wc s) 63)).alloc (Obj.cells (wc wz) 63)).heap.size ≤ w1.heap.size := hb1.size
  have hlen := reads_len A1.l2.reads
  have hyl := hy.l2
  have HLEN := Lib.hid hlen
  have hlt : decide (c.bg ≤ (s'.l2.len : Int)) = false := by simp; omega
  clear hlen C0 T0 hb1
  go_wp2_with (refine wpList_store_row rfl 63 _ _ rfl (w.heap.size + 1) (wc s') rfl rfl _ _ (by exact T1.X) (by kernel_rfl) (by kernel_rfl) (by kernel_rfl) ?_)
  obtain ⟨w2, hw2⟩ : ∃ w2, w2 = w1.setRow (w.heap.size + 1) (wc s') := ⟨_, rfl⟩
  rw [← hw2] at T2 A2 C2 ⊢
  clear hw2
  have hs2 := T2.lt
  have hc2 := C2.lt
  have x2 := T2.X.cells
  have c2 := C2.cells
  have eLs := eL s'
  have HTG := Lib.hid A1.l2.1
  clear eL
  refine wp_region_grown (by kernel_rfl) (by kernel_rfl) ?_
  have hg := @gcell
  repeat (go_big_quiet_step (fail))
  refine wpQuiet_nil ?_
  rintro w3 ⟨⟨_, hb3⟩, rfl⟩
  clear hg x2 c2
  have T3 := T2.keep hb3
  have A3 := A2.keep hb3
  have hs3 := T3.lt
  have b3 := hb3.size
  have x3 := T3.X.cells
  go_wp2_with (first | (at_builtin; refine append_tight elemI rfl _ _ rfl _ s'.l2 (prep2 x).l2 rfl (A3.l2.2.keep ((Below.refl _ _).alloc (Nat.le_refl _) _)) HTG.out _ [b] rfl (reads_one (by simp)) (by simp; omega) (by simp at hs1 ⊢; omega) ?_; intro z w4 r4 hb4; have T4 := (T3.keep ((Below.refl _ _).alloc (Nat.le_refl _) _)).keep hb4; have x4 := T4.X.cells; have z4 := T4.X.frozen; have T5 := T4.setX 16 z.v { s' with l2 := z } rfl) | (refine wpList_load_row rfl 63 _ rfl (w.heap.size + 1) rfl _ (wc { s' with l2 := z }) (0, 0) _ (by exact T5.X) Try.underlying63 rfl (by kernel_rfl) ?_) | (refine wpList_store_row rfl 63 _ _ rfl (w.heap.size + 1 + 1) (wc { s' with l2 := z }) rfl rfl _ _ (by exact T5.Z) (by kernel_rfl) (by kernel_rfl) (by kernel_rfl) ?_))
  have T6 := T5.rowZ { s' with l2 := z }
  refine bodyPost_ret (v := .tuple #[wv { s' with l2 := z }, .bool true]) ?_ rfl ⟨_, rfl, ?_, T6.below⟩
  · exact Rw.results_cell_slot (p := 6) (q := 7) (ty := 63) Try.results38 _ _ (w.heap.size + 1 + 1) 63 _ (0, 0) _ rfl T6.Z Try.underlying63 rfl (by kernel_rfl)
  · have A4 := ((A3.keep ((Below.refl _ _).alloc (Nat.le_refl _) _)).keep hb4).setCell (g := w.heap.size + 1) (by omega) 16 z.v
    have A5 := A4.setRow (g := w.heap.size + 1 + 1) (by omega) (wc { s' with l2 := z })
    have Y5 : Owned _ _ _ _ z ((prep2 x).l2 ++ [b]) := Owned.setRow (g := w.heap.size + 1 + 1) (Owned.setCell (g := w.heap.size + 1) r4 (by omega) 16 z.v) (by omega) (wc { s' with l2 := z })
    exact LiesF.base ⟨A1.p, A5.rk.rdF, A5.l0.rdF, A5.l1.rdF, Owned.rdF Y5, A5.hl.rdF, A5.rd.rdF⟩ (by omega)
set_option maxRecDepth 10000 in
set_option maxHeartbeats 1000000 in
theorem bagPut2_full (c : Cfg) (s : Wk) (x : St) (hx : Few 900 x) (hy : Few 900 (prep2 x)) (b : Int) (w : World) (h : Lies w s x) (hM : tagOf x % 3 = 2) (hm : ¬ ((prep2 x).l2.length : Int) < c.bg) :
    Calls Try.prog 38 #[cv c, wv s, .int .i64 b] w fun e w' => ∃ s', e = .returned (.tuple #[wv s', .bool false]) ∧ LiesF w.heap.size w' s' (prep2 x) ∧ Below w.heap.size w w' := by
  have eL : ∀ s : Wk, (wc s)[16]? = some (.slice s.l2.ad s.l2.len s.l2.cap) := fun _ => rfl
  have hw0 : Below w.heap.size w (w.alloc (.cells (ccW c) 24)) := (Below.refl _ _).alloc (Nat.le_refl _) _
  have T0 := Two.startAt hw0 s
  have C0 := (((Bk.new w (ccW c) 24).alloc (.cells (wc s) 63)).alloc (.cells (wc wz) 63))
  rw [show (w.alloc (.cells (ccW c) 24)).heap.size = w.heap.size + 1 by simp] at T0
  go_enter Try.func38, Try.ntmps38
  go_wp2_with (refine wpList_load_row rfl 63 _ rfl (w.heap.size + 1) rfl _ (wc s) (0, 0) _ (by exact T0.X) Try.underlying63 rfl (by kernel_rfl) ?_)
  refine (prepare2 s x hx _ (h.keep T0.below) hM).mono ?_
  rintro e w1 ⟨s', rfl, A1, hb1⟩
  have T1 := T0.keep hb1
  have b0 := T0.lt
  have b1 := T1.lt
  have T2 := T1.rowX s'
  have A2 := A1.setRow (g := w.heap.size + 1) (by omega) (wc s')
  have C1 := C0.keep hb1
  have C2 := C1.setRow_far (g' := w.heap.size + 1) (by omega) (wc s')
  have hs1 : (((w.alloc (Obj.cells (ccW c) 24)).alloc (Obj.cells (wc s) 63)).alloc (Obj.cells (wc wz) 63)).heap.size ≤ w1.heap.size := hb1.size
  have hlen := reads_len A1.l2.reads
  have hyl := hy.l2
  have HLEN := Lib.hid hlen
  have hlt : decide (c.bg ≤ (s'.l2.len : Int)) = true := by simp; omega
  clear hlen C0 T0 hb1
  go_wp2_with (refine wpList_store_row rfl 63 _ _ rfl (w.heap.size + 1) (wc s') rfl rfl _ _ (by exact T1.X) (by kernel_rfl) (by kernel_rfl) (by kernel_rfl) ?_)
  obtain ⟨w2, hw2⟩ : ∃ w2, w2 = w1.setRow (w.heap.size + 1) (wc s') := ⟨_, rfl⟩
  rw [← hw2] at T2 A2 C2 ⊢
  clear hw2
  have hs2 := T2.lt
  have hc2 := C2.lt
  have x2 := T2.X.cells
  have c2 := C2.cells
  have eLs := eL s'
  have HTG := Lib.hid A1.l2.1
  clear eL
  refine wp_region_grown (by kernel_rfl) (by kernel_rfl) ?_
  have hg := @gcell
  repeat (go_big_quiet_step (fail))
  refine wpQuiet_nil ?_
  rintro w3 ⟨⟨_, hb3⟩, rfl⟩
  clear hg x2 c2
  have T3 := T2.keep hb3
  have A3 := A2.keep hb3
  have hs3 := T3.lt
  have b3 := hb3.size
  have x3 := T3.X.cells
  have T5 := T3
  have T6 := T5.rowZ s'
  go_wp2_with (first | (refine wpList_load_row rfl 63 _ rfl (w.heap.size + 1) rfl _ (wc s') (0, 0) _ (by exact T3.X) Try.underlying63 rfl (by kernel_rfl) ?_) | (refine wpList_store_row rfl 63 _ _ rfl (w.heap.size + 1 + 1) (wc s') rfl rfl _ _ (by exact T3.Z) (by kernel_rfl) (by kernel_rfl) (by kernel_rfl) ?_))
  refine bodyPost_ret (v := .tuple #[wv s', .bool false]) ?_ rfl ⟨_, rfl, ?_, T6.below⟩
  · exact Rw.results_cell_slot (p := 6) (q := 7) (ty := 63) Try.results38 _ _ (w.heap.size + 1 + 1) 63 _ (0, 0) _ rfl T6.Z Try.underlying63 rfl (by kernel_rfl)
  · exact ((A3.setRow (g := w.heap.size + 1 + 1) (by omega) _).liesF).base (by omega)
/-- bag.Put as a function of data. -/
def putB (m : Int) (x : St) (b : Int) : St × Bool :=
  if tagOf x % 3 = 0 then (if ((prep0 x).l0.length : Int) < m then ({ prep0 x with l0 := (prep0 x).l0 ++ [b] }, true) else (prep0 x, false))
  else if tagOf x % 3 = 1 then (if ((prep1 x).l1.length : Int) < m then ({ prep1 x with l1 := (prep1 x).l1 ++ [b] }, true) else (prep1 x, false))
  else (if ((prep2 x).l2.length : Int) < m then ({ prep2 x with l2 := (prep2 x).l2 ++ [b] }, true) else (prep2 x, false))
theorem few_prep0 {x : St} {n m : Nat} (h : Few n x) (hm : n + n ≤ m) : Few m (prep0 x) := by
  have := h.rk; have := h.l0; have := h.l1; have := h.l2; have := h.hl; have := h.rd
  unfold prep0
  split
  · exact ⟨by omega, by omega, by omega, by omega, by omega, by omega⟩
  · exact ⟨by simp; omega, by simp <;> omega, by simp <;> omega, by simp <;> omega, by simp; omega, by simp; omega⟩
theorem few_prep1 {x : St} {n m : Nat} (h : Few n x) (hm : n + n ≤ m) : Few m (prep1 x) := by
  have := h.rk; have := h.l0; have := h.l1; have := h.l2; have := h.hl; have := h.rd
  unfold prep1
  split
  · exact ⟨by omega, by omega, by omega, by omega, by omega, by omega⟩
  · exact ⟨by simp; omega, by simp <;> omega, by simp <;> omega, by simp <;> omega, by simp; omega, by simp; omega⟩
theorem few_prep2 {x : St} {n m : Nat} (h : Few n x) (hm : n + n ≤ m) : Few m (prep2 x) := by
  have := h.rk; have := h.l0; have := h.l1; have := h.l2; have := h.hl; have := h.rd
  unfold prep2
  split
  · exact ⟨by omega, by omega, by omega, by omega, by omega, by omega⟩
  · exact ⟨by simp; omega, by simp <;> omega, by simp <;> omega, by simp <;> omega, by simp; omega, by simp; omega⟩
theorem bagPut (c : Cfg) (s : Wk) (x : St) (hx : Few 400 x) (b : Int) (w : World) (h : Lies w s x) :
    Calls Try.prog 38 #[cv c, wv s, .int .i64 b] w fun e w' => ∃ s', e = .returned (.tuple #[wv s', .bool (putB c.bg x b).2]) ∧ LiesF w.heap.size w' s' (putB c.bg x b).1 ∧ Below w.heap.size w w' := by
  have hx9 := hx.mono (show 400 ≤ 900 by omega)
  have ht := (tag_range x).1
  unfold putB
  by_cases h0 : tagOf x % 3 = 0
  · rw [if_pos h0]
    by_cases hm : ((prep0 x).l0.length : Int) < c.bg
    · rw [if_pos hm]; exact bagPut0_room c s x hx9 (few_prep0 hx (by omega)) b w h h0 hm
    · rw [if_neg hm]; exact bagPut0_full c s x hx9 (few_prep0 hx (by omega)) b w h h0 hm
  · rw [if_neg h0]
    by_cases h1 : tagOf x % 3 = 1
    · rw [if_pos h1]
      by_cases hm : ((prep1 x).l1.length : Int) < c.bg
      · rw [if_pos hm]; exact bagPut1_room c s x hx9 (few_prep1 hx (by omega)) b w h h1 hm
      · rw [if_neg hm]; exact bagPut1_full c s x hx9 (few_prep1 hx (by omega)) b w h h1 hm
    · rw [if_neg h1]
      have h2 : tagOf x % 3 = 2 := by omega
      by_cases hm : ((prep2 x).l2.length : Int) < c.bg
      · rw [if_pos hm]; exact bagPut2_room c s x hx9 (few_prep2 hx (by omega)) b w h h2 hm
      · rw [if_neg hm]; exact bagPut2_full c s x hx9 (few_prep2 hx (by omega)) b w h h2 hm
end Go.Proofs.Ytkplkhcboobfaaa.Wo
