/- The example of layer 13 (made by genaw13.py). -/
import Derived.Test.YtgpdkagmacpghaaGreatStps
import Derived.Test.YtgpdkagmacpghaaGreatBegins
import Derived.Test.YtgpdkagmacpghaaGreatMemFirstWalk
import Derived.Test.YtgpdkagmacpghaaGreatSameTrue
import Derived.Test.YtgpdkagmacpghaaGreatRef04
import Derived.Test.YtgpdkagmacpghaaGreatGreat
namespace Go.Proofs.YtgpdkagmacpghaaGreat.Me
open Go Go.RowKit Go.ChangeMaps Go.Proofs.YtgpdkagmacpghaaGreat.Gro Go.Proofs.YtgpdkagmacpghaaGreat.Own Go.Proofs.YtgpdkagmacpghaaGreat.Wd Go.Proofs.YtgpdkagmacpghaaGreat.Ap Go.Proofs.YtgpdkagmacpghaaGreat.Pl Go.Proofs.YtgpdkagmacpghaaGreat.Wo Go.Proofs.YtgpdkagmacpghaaGreat.Mr
set_option linter.unusedVariables false
set_option linter.unusedSimpArgs false
theorem fIdle (s : Wk) {b : Bool} (hb : (s.p.ln == 0) = b) (w : World) : Calls Tryz.prog 39 #[wv s] w fun e w' => e = .returned (.bool b) ∧ Below w.heap.size w w' := by
  have f0 : ∀ s : Wk, (wc s)[0]? = some (.int .i64 s.p.ln) := fun _ => rfl
  have X0 := Bk.new w (wc s) 34
  have hb0 : Below w.heap.size w (w.alloc (.cells (wc s) 34)) := (Below.refl _ _).alloc (Nat.le_refl _) _
  obtain ⟨v0, hv0⟩ : ∃ u, u = w.alloc (.cells (wc s) 34) := ⟨_, rfl⟩
  rw [← hv0] at X0 hb0
  have x0 := X0.cells 0
  rw [f0] at x0
  have l0 := X0.lt
  rw [hv0] at x0 l0
  go_enter Tryz.func39, Tryz.ntmps39
  go_wp2
  go_ret
  exact ⟨rfl, hv0 ▸ hb0⟩
theorem build_c13 (w : World) : (Instr.build 24 #[(0, .int .i64 1), (1, .int .i64 1), (2, .int .i64 1), (3, .int .i64 1), (4, .int .i64 1), (6, .int .i64 1), (7, .int .u64 1)]).run Tryz.prog w = .ok (cv c13) w := run_build w _ _ _ (by kernel_rfl)
theorem build_none13 (w : World) : (Instr.build 34 #[]).run Tryz.prog w = .ok (wv wz) w := run_build w _ _ _ (by kernel_rfl)
theorem build_op13 (w : World) : (Instr.build 26 #[(0, .int .i64 3), (2, .int .u64 7)]).run Tryz.prog w = .ok (opV 3 0 7 0 false 0 0) w := run_build w _ _ _ (by kernel_rfl)
theorem lies_none (P : Nat → Prop) (w : World) : LiesP P w wz zS := ⟨rfl, ⟨Reads.nil _ _, .inl rfl⟩, ⟨Reads.nil _ _, .inl rfl⟩, ⟨Reads.nil _ _, .inl rfl⟩, ⟨Reads.nil _ _, .inl rfl⟩, ⟨Reads.nil _ _, .inl rfl⟩, ⟨Reads.nil _ _, .inl rfl⟩⟩
theorem beg13 : beginS c13 zS 3 0 7 0 false 0 0 0 = (⟨{ pz with ln := 1, o0 := 3, o2 := 7 }, [], [], [], [], [], []⟩ : St) := by kernel_rfl
set_option maxRecDepth 100000 in
set_option maxHeartbeats 16000000 in
theorem awake13 (w : World) : Calls Tryz.prog 8 #[] w fun e w' => e = .returned (.bool true) ∧ Below w.heap.size w w' := by
  have hb0 := build_c13
  have hb1 := build_none13
  have hb2 := build_op13
  have HN := Lib.hid (newMem_ok c13 c13_wf c13_ok)
  have C0 := Bk.new w (ccM c13) 24
  have hw0 : Below w.heap.size w (w.alloc (.cells (ccM c13) 24)) := (Below.refl _ _).alloc (Nat.le_refl _) _
  go_enter Tryz.func8, Tryz.ntmps8
  go_wp2_with (refine wpList_load_row rfl 24 _ rfl w.heap.size rfl _ (ccM c13) (0, 0) _ (by exact C0) Tryz.underlying24 rfl (by kernel_rfl) ?_)
  refine (HN.out _).mono ?_
  rintro e w1 ⟨g, gl, cap, rfl, M1, hbb⟩
  have C1 := C0.keep hbb
  have hw1 := hw0.trans (hbb.mono hw0.size)
  have g0 := M1.g0
  have gl0 := M1.gl0
  have m1 := M1.lt
  simp only [World.size_alloc] at g0 gl0
  rw [first13] at M1
  clear hbb hw0 C0
  have HBG := Lib.hid (fBegin (P := fun _ => True) c13 c13_wf (w := w1) (s := wz) (x := zS) (fun _ _ => trivial) (lies_none _ _) (few13 _ _) 3 0 7 0 false 0 0 0 (by decide))
  rw [beg13] at HBG
  go_wp2_with (refine wpList_load_row rfl 24 _ rfl w.heap.size rfl _ (ccM c13) (0, 0) _ (by exact C1) Tryz.underlying24 rfl (by kernel_rfl) ?_)
  refine HBG.out.mono ?_
  rintro e w5 ⟨s0, rfl, A5, hb5⟩
  have M5 := M1.keep hb5
  have hw5 := hw1.trans (hb5.mono hw1.size)
  have Z5 := Bk.new w5 (wc wz) 34
  have X6 := boxed_bk w5 s0
  have bb := boxed_below w5 s0
  have M6 := M5.keep bb
  have A6 := (A5.keep bb).lies
  have hw6 := hw5.trans (bb.mono hw5.size)
  have lt5 := M5.lt
  have lx6 := X6.lt
  have sz5 := hw5.size
  obtain ⟨w6, hw6'⟩ : ∃ u, u = (w5.alloc (.cells (wc wz) 34)).setRow w5.heap.size (wc s0) := ⟨_, rfl⟩
  rw [← hw6'] at X6 M6 hw6 lx6 A6
  clear bb hb5 M5 M1 A5 hw1 hw5 HBG C1 hb0 hb1 hb2
  go_wp2_with (first | ((with_reducible refine wpList_alloc_wz rfl rfl ?_)) | (refine wpList_store_row rfl 34 _ _ rfl (w5.heap.size) (wc s0) rfl rfl _ _ (by exact Z5) (by kernel_rfl) (by kernel_rfl) (by kernel_rfl) ?_); rw [← hw6']; clear hw6' Z5)
  obtain ⟨gx, hgx⟩ : ∃ u, u = w5.heap.size := ⟨_, rfl⟩
  rw [← hgx] at X6 lx6 lt5 sz5 ⊢
  clear hgx
  refine wp_loop_rounds 14 ?_
  rw [rounds_succ]
  have HI1 := Lib.hid (fIdle s0 (b := false) (by rw [A6.p]; rfl))
  go_wp2_with (refine wpList_load_row_w rfl 34 _ rfl (gx) rfl _ (wc s0) (0, 0) _ (by exact X6) Tryz.underlying34 rfl (by kernel_rfl) ?_)
  refine (HI1.out _).mono ?_
  rintro e z1 ⟨rfl, hbz1⟩
  have Xz1 := X6.keep hbz1
  have Mz1 := M6.keep hbz1
  have Az1 := A6.keep hbz1
  have hwz1 := hw6.trans (hbz1.mono hw6.size)
  have lz1 := Xz1.lt
  obtain ⟨a1, hs1⟩ := ex13_0 Mz1 Az1
  have HS1 := Lib.hid hs1
  clear hs1 HI1 hbz1 X6 M6 hw6 A6
  go_wp2_with (refine wpList_load_row rfl 34 _ rfl (gx) rfl _ (wc s0) (0, 0) _ (by exact Xz1) Tryz.underlying34 rfl (by kernel_rfl) ?_)
  refine HS1.out.mono ?_
  rintro e u1 ⟨t1, rfl, A1, N1, T1⟩
  have Xu1 := T1.bk Xz1 (by omega) (by omega)
  have hu1 := hwz1.trans (T1.below (base := w.heap.size) (by omega) (by omega) hwz1.size)
  have Y1 := Xu1.setRow (wc t1)
  have Q1 := N1.apart (g' := gx) (gl' := gx) ((Touch.refl gx gx u1).setRow (wc t1)) (by omega) (by omega) (by omega) (by omega)
  have Ay1 := A1.setRow (g := gx) (by omega) (wc t1)
  have Al1 := Ay1.lies
  have hy1 := below_setRow hu1 (show w.heap.size ≤ gx by omega) (wc t1)
  obtain ⟨y1, hy1'⟩ : ∃ u, u = u1.setRow gx (wc t1) := ⟨_, rfl⟩
  rw [← hy1'] at Y1 Q1 Al1 hy1
  clear HS1 A1 Ay1 N1 T1 hu1 Xz1 Mz1 hwz1 Az1
  go_wp2_with ((refine wpList_store_row rfl 34 _ _ rfl (gx) (wc t1) rfl rfl _ _ (by exact Xu1) (by kernel_rfl) (by kernel_rfl) (by kernel_rfl) ?_); rw [← hy1']; clear hy1' Xu1)
  rw [rounds_succ]
  have HI2 := Lib.hid (fIdle t1 (b := false) (by rw [Al1.p]; rfl))
  go_wp2_with (refine wpList_load_row_w rfl 34 _ rfl (gx) rfl _ (wc t1) (0, 0) _ (by exact Y1) Tryz.underlying34 rfl (by kernel_rfl) ?_)
  refine (HI2.out _).mono ?_
  rintro e z2 ⟨rfl, hbz2⟩
  have Xz2 := Y1.keep hbz2
  have Mz2 := Q1.keep hbz2
  have Az2 := Al1.keep hbz2
  have hwz2 := hy1.trans (hbz2.mono hy1.size)
  have lz2 := Xz2.lt
  obtain ⟨a2, hs2⟩ := ex13_1 Mz2 Az2
  have HS2 := Lib.hid hs2
  clear hs2 HI2 hbz2 Y1 Q1 hy1 Al1
  go_wp2_with (refine wpList_load_row rfl 34 _ rfl (gx) rfl _ (wc t1) (0, 0) _ (by exact Xz2) Tryz.underlying34 rfl (by kernel_rfl) ?_)
  refine HS2.out.mono ?_
  rintro e u2 ⟨t2, rfl, A2, N2, T2⟩
  have Xu2 := T2.bk Xz2 (by omega) (by omega)
  have hu2 := hwz2.trans (T2.below (base := w.heap.size) (by omega) (by omega) hwz2.size)
  have Y2 := Xu2.setRow (wc t2)
  have Q2 := N2.apart (g' := gx) (gl' := gx) ((Touch.refl gx gx u2).setRow (wc t2)) (by omega) (by omega) (by omega) (by omega)
  have Ay2 := A2.setRow (g := gx) (by omega) (wc t2)
  have Al2 := Ay2.lies
  have hy2 := below_setRow hu2 (show w.heap.size ≤ gx by omega) (wc t2)
  obtain ⟨y2, hy2'⟩ : ∃ u, u = u2.setRow gx (wc t2) := ⟨_, rfl⟩
  rw [← hy2'] at Y2 Q2 Al2 hy2
  clear HS2 A2 Ay2 N2 T2 hu2 Xz2 Mz2 hwz2 Az2
  go_wp2_with ((refine wpList_store_row rfl 34 _ _ rfl (gx) (wc t2) rfl rfl _ _ (by exact Xu2) (by kernel_rfl) (by kernel_rfl) (by kernel_rfl) ?_); rw [← hy2']; clear hy2' Xu2)
  rw [rounds_succ]
  have HI3 := Lib.hid (fIdle t2 (b := false) (by rw [Al2.p]; rfl))
  go_wp2_with (refine wpList_load_row_w rfl 34 _ rfl (gx) rfl _ (wc t2) (0, 0) _ (by exact Y2) Tryz.underlying34 rfl (by kernel_rfl) ?_)
  refine (HI3.out _).mono ?_
  rintro e z3 ⟨rfl, hbz3⟩
  have Xz3 := Y2.keep hbz3
  have Mz3 := Q2.keep hbz3
  have Az3 := Al2.keep hbz3
  have hwz3 := hy2.trans (hbz3.mono hy2.size)
  have lz3 := Xz3.lt
  obtain ⟨a3, hs3⟩ := ex13_2 Mz3 Az3
  have HS3 := Lib.hid hs3
  clear hs3 HI3 hbz3 Y2 Q2 hy2 Al2
  go_wp2_with (refine wpList_load_row rfl 34 _ rfl (gx) rfl _ (wc t2) (0, 0) _ (by exact Xz3) Tryz.underlying34 rfl (by kernel_rfl) ?_)
  refine HS3.out.mono ?_
  rintro e u3 ⟨t3, rfl, A3, N3, T3⟩
  have Xu3 := T3.bk Xz3 (by omega) (by omega)
  have hu3 := hwz3.trans (T3.below (base := w.heap.size) (by omega) (by omega) hwz3.size)
  have Y3 := Xu3.setRow (wc t3)
  have Q3 := N3.apart (g' := gx) (gl' := gx) ((Touch.refl gx gx u3).setRow (wc t3)) (by omega) (by omega) (by omega) (by omega)
  have Ay3 := A3.setRow (g := gx) (by omega) (wc t3)
  have Al3 := Ay3.lies
  have hy3 := below_setRow hu3 (show w.heap.size ≤ gx by omega) (wc t3)
  obtain ⟨y3, hy3'⟩ : ∃ u, u = u3.setRow gx (wc t3) := ⟨_, rfl⟩
  rw [← hy3'] at Y3 Q3 Al3 hy3
  clear HS3 A3 Ay3 N3 T3 hu3 Xz3 Mz3 hwz3 Az3
  go_wp2_with ((refine wpList_store_row rfl 34 _ _ rfl (gx) (wc t3) rfl rfl _ _ (by exact Xu3) (by kernel_rfl) (by kernel_rfl) (by kernel_rfl) ?_); rw [← hy3']; clear hy3' Xu3)
  rw [rounds_succ]
  have HI4 := Lib.hid (fIdle t3 (b := false) (by rw [Al3.p]; rfl))
  go_wp2_with (refine wpList_load_row_w rfl 34 _ rfl (gx) rfl _ (wc t3) (0, 0) _ (by exact Y3) Tryz.underlying34 rfl (by kernel_rfl) ?_)
  refine (HI4.out _).mono ?_
  rintro e z4 ⟨rfl, hbz4⟩
  have Xz4 := Y3.keep hbz4
  have Mz4 := Q3.keep hbz4
  have Az4 := Al3.keep hbz4
  have hwz4 := hy3.trans (hbz4.mono hy3.size)
  have lz4 := Xz4.lt
  obtain ⟨a4, hs4⟩ := ex13_3 Mz4 Az4
  have HS4 := Lib.hid hs4
  clear hs4 HI4 hbz4 Y3 Q3 hy3 Al3
  go_wp2_with (refine wpList_load_row rfl 34 _ rfl (gx) rfl _ (wc t3) (0, 0) _ (by exact Xz4) Tryz.underlying34 rfl (by kernel_rfl) ?_)
  refine HS4.out.mono ?_
  rintro e u4 ⟨t4, rfl, A4, N4, T4⟩
  have Xu4 := T4.bk Xz4 (by omega) (by omega)
  have hu4 := hwz4.trans (T4.below (base := w.heap.size) (by omega) (by omega) hwz4.size)
  have Y4 := Xu4.setRow (wc t4)
  have Q4 := N4.apart (g' := gx) (gl' := gx) ((Touch.refl gx gx u4).setRow (wc t4)) (by omega) (by omega) (by omega) (by omega)
  have Ay4 := A4.setRow (g := gx) (by omega) (wc t4)
  have Al4 := Ay4.lies
  have hy4 := below_setRow hu4 (show w.heap.size ≤ gx by omega) (wc t4)
  obtain ⟨y4, hy4'⟩ : ∃ u, u = u4.setRow gx (wc t4) := ⟨_, rfl⟩
  rw [← hy4'] at Y4 Q4 Al4 hy4
  clear HS4 A4 Ay4 N4 T4 hu4 Xz4 Mz4 hwz4 Az4
  go_wp2_with ((refine wpList_store_row rfl 34 _ _ rfl (gx) (wc t4) rfl rfl _ _ (by exact Xu4) (by kernel_rfl) (by kernel_rfl) (by kernel_rfl) ?_); rw [← hy4']; clear hy4' Xu4)
  rw [rounds_succ]
  have HI5 := Lib.hid (fIdle t4 (b := false) (by rw [Al4.p]; rfl))
  go_wp2_with (refine wpList_load_row_w rfl 34 _ rfl (gx) rfl _ (wc t4) (0, 0) _ (by exact Y4) Tryz.underlying34 rfl (by kernel_rfl) ?_)
  refine (HI5.out _).mono ?_
  rintro e z5 ⟨rfl, hbz5⟩
  have Xz5 := Y4.keep hbz5
  have Mz5 := Q4.keep hbz5
  have Az5 := Al4.keep hbz5
  have hwz5 := hy4.trans (hbz5.mono hy4.size)
  have lz5 := Xz5.lt
  obtain ⟨a5, hs5⟩ := ex13_4 Mz5 Az5
  have HS5 := Lib.hid hs5
  clear hs5 HI5 hbz5 Y4 Q4 hy4 Al4
  go_wp2_with (refine wpList_load_row rfl 34 _ rfl (gx) rfl _ (wc t4) (0, 0) _ (by exact Xz5) Tryz.underlying34 rfl (by kernel_rfl) ?_)
  refine HS5.out.mono ?_
  rintro e u5 ⟨t5, rfl, A5, N5, T5⟩
  have Xu5 := T5.bk Xz5 (by omega) (by omega)
  have hu5 := hwz5.trans (T5.below (base := w.heap.size) (by omega) (by omega) hwz5.size)
  have Y5 := Xu5.setRow (wc t5)
  have Q5 := N5.apart (g' := gx) (gl' := gx) ((Touch.refl gx gx u5).setRow (wc t5)) (by omega) (by omega) (by omega) (by omega)
  have Ay5 := A5.setRow (g := gx) (by omega) (wc t5)
  have Al5 := Ay5.lies
  have hy5 := below_setRow hu5 (show w.heap.size ≤ gx by omega) (wc t5)
  obtain ⟨y5, hy5'⟩ : ∃ u, u = u5.setRow gx (wc t5) := ⟨_, rfl⟩
  rw [← hy5'] at Y5 Q5 Al5 hy5
  clear HS5 A5 Ay5 N5 T5 hu5 Xz5 Mz5 hwz5 Az5
  go_wp2_with ((refine wpList_store_row rfl 34 _ _ rfl (gx) (wc t5) rfl rfl _ _ (by exact Xu5) (by kernel_rfl) (by kernel_rfl) (by kernel_rfl) ?_); rw [← hy5']; clear hy5' Xu5)
  rw [rounds_succ]
  have HI6 := Lib.hid (fIdle t5 (b := false) (by rw [Al5.p]; rfl))
  go_wp2_with (refine wpList_load_row_w rfl 34 _ rfl (gx) rfl _ (wc t5) (0, 0) _ (by exact Y5) Tryz.underlying34 rfl (by kernel_rfl) ?_)
  refine (HI6.out _).mono ?_
  rintro e z6 ⟨rfl, hbz6⟩
  have Xz6 := Y5.keep hbz6
  have Mz6 := Q5.keep hbz6
  have Az6 := Al5.keep hbz6
  have hwz6 := hy5.trans (hbz6.mono hy5.size)
  have lz6 := Xz6.lt
  obtain ⟨a6, hs6⟩ := ex13_5 Mz6 Az6
  have HS6 := Lib.hid hs6
  clear hs6 HI6 hbz6 Y5 Q5 hy5 Al5
  go_wp2_with (refine wpList_load_row rfl 34 _ rfl (gx) rfl _ (wc t5) (0, 0) _ (by exact Xz6) Tryz.underlying34 rfl (by kernel_rfl) ?_)
  refine HS6.out.mono ?_
  rintro e u6 ⟨t6, rfl, A6, N6, T6⟩
  have Xu6 := T6.bk Xz6 (by omega) (by omega)
  have hu6 := hwz6.trans (T6.below (base := w.heap.size) (by omega) (by omega) hwz6.size)
  have Y6 := Xu6.setRow (wc t6)
  have Q6 := N6.apart (g' := gx) (gl' := gx) ((Touch.refl gx gx u6).setRow (wc t6)) (by omega) (by omega) (by omega) (by omega)
  have Ay6 := A6.setRow (g := gx) (by omega) (wc t6)
  have Al6 := Ay6.lies
  have hy6 := below_setRow hu6 (show w.heap.size ≤ gx by omega) (wc t6)
  obtain ⟨y6, hy6'⟩ : ∃ u, u = u6.setRow gx (wc t6) := ⟨_, rfl⟩
  rw [← hy6'] at Y6 Q6 Al6 hy6
  clear HS6 A6 Ay6 N6 T6 hu6 Xz6 Mz6 hwz6 Az6
  go_wp2_with ((refine wpList_store_row rfl 34 _ _ rfl (gx) (wc t6) rfl rfl _ _ (by exact Xu6) (by kernel_rfl) (by kernel_rfl) (by kernel_rfl) ?_); rw [← hy6']; clear hy6' Xu6)
  rw [rounds_succ]
  have HI7 := Lib.hid (fIdle t6 (b := false) (by rw [Al6.p]; rfl))
  go_wp2_with (refine wpList_load_row_w rfl 34 _ rfl (gx) rfl _ (wc t6) (0, 0) _ (by exact Y6) Tryz.underlying34 rfl (by kernel_rfl) ?_)
  refine (HI7.out _).mono ?_
  rintro e z7 ⟨rfl, hbz7⟩
  have Xz7 := Y6.keep hbz7
  have Mz7 := Q6.keep hbz7
  have Az7 := Al6.keep hbz7
  have hwz7 := hy6.trans (hbz7.mono hy6.size)
  have lz7 := Xz7.lt
  obtain ⟨a7, hs7⟩ := ex13_6 Mz7 Az7
  have HS7 := Lib.hid hs7
  clear hs7 HI7 hbz7 Y6 Q6 hy6 Al6
  go_wp2_with (refine wpList_load_row rfl 34 _ rfl (gx) rfl _ (wc t6) (0, 0) _ (by exact Xz7) Tryz.underlying34 rfl (by kernel_rfl) ?_)
  refine HS7.out.mono ?_
  rintro e u7 ⟨t7, rfl, A7, N7, T7⟩
  have Xu7 := T7.bk Xz7 (by omega) (by omega)
  have hu7 := hwz7.trans (T7.below (base := w.heap.size) (by omega) (by omega) hwz7.size)
  have Y7 := Xu7.setRow (wc t7)
  have Q7 := N7.apart (g' := gx) (gl' := gx) ((Touch.refl gx gx u7).setRow (wc t7)) (by omega) (by omega) (by omega) (by omega)
  have Ay7 := A7.setRow (g := gx) (by omega) (wc t7)
  have Al7 := Ay7.lies
  have hy7 := below_setRow hu7 (show w.heap.size ≤ gx by omega) (wc t7)
  obtain ⟨y7, hy7'⟩ : ∃ u, u = u7.setRow gx (wc t7) := ⟨_, rfl⟩
  rw [← hy7'] at Y7 Q7 Al7 hy7
  clear HS7 A7 Ay7 N7 T7 hu7 Xz7 Mz7 hwz7 Az7
  go_wp2_with ((refine wpList_store_row rfl 34 _ _ rfl (gx) (wc t7) rfl rfl _ _ (by exact Xu7) (by kernel_rfl) (by kernel_rfl) (by kernel_rfl) ?_); rw [← hy7']; clear hy7' Xu7)
  rw [rounds_succ]
  have HI8 := Lib.hid (fIdle t7 (b := false) (by rw [Al7.p]; rfl))
  go_wp2_with (refine wpList_load_row_w rfl 34 _ rfl (gx) rfl _ (wc t7) (0, 0) _ (by exact Y7) Tryz.underlying34 rfl (by kernel_rfl) ?_)
  refine (HI8.out _).mono ?_
  rintro e z8 ⟨rfl, hbz8⟩
  have Xz8 := Y7.keep hbz8
  have Mz8 := Q7.keep hbz8
  have Az8 := Al7.keep hbz8
  have hwz8 := hy7.trans (hbz8.mono hy7.size)
  have lz8 := Xz8.lt
  obtain ⟨a8, hs8⟩ := ex13_7 Mz8 Az8
  have HS8 := Lib.hid hs8
  clear hs8 HI8 hbz8 Y7 Q7 hy7 Al7
  go_wp2_with (refine wpList_load_row rfl 34 _ rfl (gx) rfl _ (wc t7) (0, 0) _ (by exact Xz8) Tryz.underlying34 rfl (by kernel_rfl) ?_)
  refine HS8.out.mono ?_
  rintro e u8 ⟨t8, rfl, A8, N8, T8⟩
  have Xu8 := T8.bk Xz8 (by omega) (by omega)
  have hu8 := hwz8.trans (T8.below (base := w.heap.size) (by omega) (by omega) hwz8.size)
  have Y8 := Xu8.setRow (wc t8)
  have Q8 := N8.apart (g' := gx) (gl' := gx) ((Touch.refl gx gx u8).setRow (wc t8)) (by omega) (by omega) (by omega) (by omega)
  have Ay8 := A8.setRow (g := gx) (by omega) (wc t8)
  have Al8 := Ay8.lies
  have hy8 := below_setRow hu8 (show w.heap.size ≤ gx by omega) (wc t8)
  obtain ⟨y8, hy8'⟩ : ∃ u, u = u8.setRow gx (wc t8) := ⟨_, rfl⟩
  rw [← hy8'] at Y8 Q8 Al8 hy8
  clear HS8 A8 Ay8 N8 T8 hu8 Xz8 Mz8 hwz8 Az8
  go_wp2_with ((refine wpList_store_row rfl 34 _ _ rfl (gx) (wc t8) rfl rfl _ _ (by exact Xu8) (by kernel_rfl) (by kernel_rfl) (by kernel_rfl) ?_); rw [← hy8']; clear hy8' Xu8)
  rw [rounds_succ]
  have HI9 := Lib.hid (fIdle t8 (b := false) (by rw [Al8.p]; rfl))
  go_wp2_with (refine wpList_load_row_w rfl 34 _ rfl (gx) rfl _ (wc t8) (0, 0) _ (by exact Y8) Tryz.underlying34 rfl (by kernel_rfl) ?_)
  refine (HI9.out _).mono ?_
  rintro e z9 ⟨rfl, hbz9⟩
  have Xz9 := Y8.keep hbz9
  have Mz9 := Q8.keep hbz9
  have Az9 := Al8.keep hbz9
  have hwz9 := hy8.trans (hbz9.mono hy8.size)
  have lz9 := Xz9.lt
  obtain ⟨a9, hs9⟩ := ex13_8 Mz9 Az9
  have HS9 := Lib.hid hs9
  clear hs9 HI9 hbz9 Y8 Q8 hy8 Al8
  go_wp2_with (refine wpList_load_row rfl 34 _ rfl (gx) rfl _ (wc t8) (0, 0) _ (by exact Xz9) Tryz.underlying34 rfl (by kernel_rfl) ?_)
  refine HS9.out.mono ?_
  rintro e u9 ⟨t9, rfl, A9, N9, T9⟩
  have Xu9 := T9.bk Xz9 (by omega) (by omega)
  have hu9 := hwz9.trans (T9.below (base := w.heap.size) (by omega) (by omega) hwz9.size)
  have Y9 := Xu9.setRow (wc t9)
  have Q9 := N9.apart (g' := gx) (gl' := gx) ((Touch.refl gx gx u9).setRow (wc t9)) (by omega) (by omega) (by omega) (by omega)
  have Ay9 := A9.setRow (g := gx) (by omega) (wc t9)
  have Al9 := Ay9.lies
  have hy9 := below_setRow hu9 (show w.heap.size ≤ gx by omega) (wc t9)
  obtain ⟨y9, hy9'⟩ : ∃ u, u = u9.setRow gx (wc t9) := ⟨_, rfl⟩
  rw [← hy9'] at Y9 Q9 Al9 hy9
  clear HS9 A9 Ay9 N9 T9 hu9 Xz9 Mz9 hwz9 Az9
  go_wp2_with ((refine wpList_store_row rfl 34 _ _ rfl (gx) (wc t9) rfl rfl _ _ (by exact Xu9) (by kernel_rfl) (by kernel_rfl) (by kernel_rfl) ?_); rw [← hy9']; clear hy9' Xu9)
  rw [rounds_succ]
  have HI10 := Lib.hid (fIdle t9 (b := false) (by rw [Al9.p]; rfl))
  go_wp2_with (refine wpList_load_row_w rfl 34 _ rfl (gx) rfl _ (wc t9) (0, 0) _ (by exact Y9) Tryz.underlying34 rfl (by kernel_rfl) ?_)
  refine (HI10.out _).mono ?_
  rintro e z10 ⟨rfl, hbz10⟩
  have Xz10 := Y9.keep hbz10
  have Mz10 := Q9.keep hbz10
  have Az10 := Al9.keep hbz10
  have hwz10 := hy9.trans (hbz10.mono hy9.size)
  have lz10 := Xz10.lt
  obtain ⟨a10, hs10⟩ := ex13_9 Mz10 Az10
  have HS10 := Lib.hid hs10
  clear hs10 HI10 hbz10 Y9 Q9 hy9 Al9
  go_wp2_with (refine wpList_load_row rfl 34 _ rfl (gx) rfl _ (wc t9) (0, 0) _ (by exact Xz10) Tryz.underlying34 rfl (by kernel_rfl) ?_)
  refine HS10.out.mono ?_
  rintro e u10 ⟨t10, rfl, A10, N10, T10⟩
  have Xu10 := T10.bk Xz10 (by omega) (by omega)
  have hu10 := hwz10.trans (T10.below (base := w.heap.size) (by omega) (by omega) hwz10.size)
  have Y10 := Xu10.setRow (wc t10)
  have Q10 := N10.apart (g' := gx) (gl' := gx) ((Touch.refl gx gx u10).setRow (wc t10)) (by omega) (by omega) (by omega) (by omega)
  have Ay10 := A10.setRow (g := gx) (by omega) (wc t10)
  have Al10 := Ay10.lies
  have hy10 := below_setRow hu10 (show w.heap.size ≤ gx by omega) (wc t10)
  obtain ⟨y10, hy10'⟩ : ∃ u, u = u10.setRow gx (wc t10) := ⟨_, rfl⟩
  rw [← hy10'] at Y10 Q10 Al10 hy10
  clear HS10 A10 Ay10 N10 T10 hu10 Xz10 Mz10 hwz10 Az10
  go_wp2_with ((refine wpList_store_row rfl 34 _ _ rfl (gx) (wc t10) rfl rfl _ _ (by exact Xu10) (by kernel_rfl) (by kernel_rfl) (by kernel_rfl) ?_); rw [← hy10']; clear hy10' Xu10)
  rw [rounds_succ]
  have HI11 := Lib.hid (fIdle t10 (b := false) (by rw [Al10.p]; rfl))
  go_wp2_with (refine wpList_load_row_w rfl 34 _ rfl (gx) rfl _ (wc t10) (0, 0) _ (by exact Y10) Tryz.underlying34 rfl (by kernel_rfl) ?_)
  refine (HI11.out _).mono ?_
  rintro e z11 ⟨rfl, hbz11⟩
  have Xz11 := Y10.keep hbz11
  have Mz11 := Q10.keep hbz11
  have Az11 := Al10.keep hbz11
  have hwz11 := hy10.trans (hbz11.mono hy10.size)
  have lz11 := Xz11.lt
  obtain ⟨a11, hs11⟩ := ex13_10 Mz11 Az11
  have HS11 := Lib.hid hs11
  clear hs11 HI11 hbz11 Y10 Q10 hy10 Al10
  go_wp2_with (refine wpList_load_row rfl 34 _ rfl (gx) rfl _ (wc t10) (0, 0) _ (by exact Xz11) Tryz.underlying34 rfl (by kernel_rfl) ?_)
  refine HS11.out.mono ?_
  rintro e u11 ⟨t11, rfl, A11, N11, T11⟩
  have Xu11 := T11.bk Xz11 (by omega) (by omega)
  have hu11 := hwz11.trans (T11.below (base := w.heap.size) (by omega) (by omega) hwz11.size)
  have Y11 := Xu11.setRow (wc t11)
  have Q11 := N11.apart (g' := gx) (gl' := gx) ((Touch.refl gx gx u11).setRow (wc t11)) (by omega) (by omega) (by omega) (by omega)
  have Ay11 := A11.setRow (g := gx) (by omega) (wc t11)
  have Al11 := Ay11.lies
  have hy11 := below_setRow hu11 (show w.heap.size ≤ gx by omega) (wc t11)
  obtain ⟨y11, hy11'⟩ : ∃ u, u = u11.setRow gx (wc t11) := ⟨_, rfl⟩
  rw [← hy11'] at Y11 Q11 Al11 hy11
  clear HS11 A11 Ay11 N11 T11 hu11 Xz11 Mz11 hwz11 Az11
  go_wp2_with ((refine wpList_store_row rfl 34 _ _ rfl (gx) (wc t11) rfl rfl _ _ (by exact Xu11) (by kernel_rfl) (by kernel_rfl) (by kernel_rfl) ?_); rw [← hy11']; clear hy11' Xu11)
  rw [rounds_succ]
  have HI12 := Lib.hid (fIdle t11 (b := false) (by rw [Al11.p]; rfl))
  go_wp2_with (refine wpList_load_row_w rfl 34 _ rfl (gx) rfl _ (wc t11) (0, 0) _ (by exact Y11) Tryz.underlying34 rfl (by kernel_rfl) ?_)
  refine (HI12.out _).mono ?_
  rintro e z12 ⟨rfl, hbz12⟩
  have Xz12 := Y11.keep hbz12
  have Mz12 := Q11.keep hbz12
  have Az12 := Al11.keep hbz12
  have hwz12 := hy11.trans (hbz12.mono hy11.size)
  have lz12 := Xz12.lt
  obtain ⟨a12, hs12⟩ := ex13_11 Mz12 Az12
  have HS12 := Lib.hid hs12
  clear hs12 HI12 hbz12 Y11 Q11 hy11 Al11
  go_wp2_with (refine wpList_load_row rfl 34 _ rfl (gx) rfl _ (wc t11) (0, 0) _ (by exact Xz12) Tryz.underlying34 rfl (by kernel_rfl) ?_)
  refine HS12.out.mono ?_
  rintro e u12 ⟨t12, rfl, A12, N12, T12⟩
  have Xu12 := T12.bk Xz12 (by omega) (by omega)
  have hu12 := hwz12.trans (T12.below (base := w.heap.size) (by omega) (by omega) hwz12.size)
  have Y12 := Xu12.setRow (wc t12)
  have Q12 := N12.apart (g' := gx) (gl' := gx) ((Touch.refl gx gx u12).setRow (wc t12)) (by omega) (by omega) (by omega) (by omega)
  have Ay12 := A12.setRow (g := gx) (by omega) (wc t12)
  have Al12 := Ay12.lies
  have hy12 := below_setRow hu12 (show w.heap.size ≤ gx by omega) (wc t12)
  obtain ⟨y12, hy12'⟩ : ∃ u, u = u12.setRow gx (wc t12) := ⟨_, rfl⟩
  rw [← hy12'] at Y12 Q12 Al12 hy12
  clear HS12 A12 Ay12 N12 T12 hu12 Xz12 Mz12 hwz12 Az12
  go_wp2_with ((refine wpList_store_row rfl 34 _ _ rfl (gx) (wc t12) rfl rfl _ _ (by exact Xu12) (by kernel_rfl) (by kernel_rfl) (by kernel_rfl) ?_); rw [← hy12']; clear hy12' Xu12)
  rw [rounds_succ]
  have HI13 := Lib.hid (fIdle t12 (b := false) (by rw [Al12.p]; rfl))
  go_wp2_with (refine wpList_load_row_w rfl 34 _ rfl (gx) rfl _ (wc t12) (0, 0) _ (by exact Y12) Tryz.underlying34 rfl (by kernel_rfl) ?_)
  refine (HI13.out _).mono ?_
  rintro e z13 ⟨rfl, hbz13⟩
  have Xz13 := Y12.keep hbz13
  have Mz13 := Q12.keep hbz13
  have Az13 := Al12.keep hbz13
  have hwz13 := hy12.trans (hbz13.mono hy12.size)
  have lz13 := Xz13.lt
  obtain ⟨a13, hs13⟩ := ex13_12 Mz13 Az13
  have HS13 := Lib.hid hs13
  clear hs13 HI13 hbz13 Y12 Q12 hy12 Al12
  go_wp2_with (refine wpList_load_row rfl 34 _ rfl (gx) rfl _ (wc t12) (0, 0) _ (by exact Xz13) Tryz.underlying34 rfl (by kernel_rfl) ?_)
  refine HS13.out.mono ?_
  rintro e u13 ⟨t13, rfl, A13, N13, T13⟩
  have Xu13 := T13.bk Xz13 (by omega) (by omega)
  have hu13 := hwz13.trans (T13.below (base := w.heap.size) (by omega) (by omega) hwz13.size)
  have Y13 := Xu13.setRow (wc t13)
  have Q13 := N13.apart (g' := gx) (gl' := gx) ((Touch.refl gx gx u13).setRow (wc t13)) (by omega) (by omega) (by omega) (by omega)
  have Ay13 := A13.setRow (g := gx) (by omega) (wc t13)
  have Al13 := Ay13.lies
  have hy13 := below_setRow hu13 (show w.heap.size ≤ gx by omega) (wc t13)
  obtain ⟨y13, hy13'⟩ : ∃ u, u = u13.setRow gx (wc t13) := ⟨_, rfl⟩
  rw [← hy13'] at Y13 Q13 Al13 hy13
  clear HS13 A13 Ay13 N13 T13 hu13 Xz13 Mz13 hwz13 Az13
  go_wp2_with ((refine wpList_store_row rfl 34 _ _ rfl (gx) (wc t13) rfl rfl _ _ (by exact Xu13) (by kernel_rfl) (by kernel_rfl) (by kernel_rfl) ?_); rw [← hy13']; clear hy13' Xu13)
  rw [rounds_succ]
  have HI := Lib.hid (fIdle t13 (b := true) (by rw [Al13.p]; rfl))
  go_wp2_with (refine wpList_load_row_w rfl 34 _ rfl (gx) rfl _ (wc t13) (0, 0) _ (by exact Y13) Tryz.underlying34 rfl (by kernel_rfl) ?_)
  refine (HI.out _).mono ?_
  rintro e z ⟨rfl, hbz⟩
  have Yz := Y13.keep hbz
  have hwz := hy13.trans (hbz.mono hy13.size)
  have x31 : z.cell? ⟨gx, 31, none⟩ = some (.int .i64 0) := by rw [Yz.cells, show (wc t13)[31]? = some (.int .i64 t13.p.rt) from rfl, Al13.p]; rfl
  have x30 : z.cell? ⟨gx, 30, none⟩ = some (.int .u64 65537) := by rw [Yz.cells, show (wc t13)[30]? = some (.int .u64 t13.p.t) from rfl, Al13.p]
  have lz := Yz.lt
  clear HI Al13 Y13 Yz
  go_wp2
  go_ret
  exact ⟨rfl, hwz⟩
end Go.Proofs.YtgpdkagmacpghaaGreat.Me

/- The law WorkBegins (made by genwb.py). -/
namespace Go.Proofs.YtgpdkagmacpghaaGreat.Me
open Go Go.RowKit Go.ChangeMaps Go.Proofs.YtgpdkagmacpghaaGreat.Gro Go.Proofs.YtgpdkagmacpghaaGreat.Own Go.Proofs.YtgpdkagmacpghaaGreat.Wd Go.Proofs.YtgpdkagmacpghaaGreat.Ap Go.Proofs.YtgpdkagmacpghaaGreat.Pl Go.Proofs.YtgpdkagmacpghaaGreat.Wo Go.Proofs.YtgpdkagmacpghaaGreat.Mr
set_option linter.unusedVariables false
set_option linter.unusedSimpArgs false
section
variable {P : Program} {ops : Array Oper} {S : World → Prop} {a : Act} {o : Oper}
theorem yields_rowW (hw : Region.wanted o (yielded ops a.tmps) = true) (ty : TypeId) (x : Operand) (ho : o.op = .load ty x) (g : Nat) (hx : a.eval x = .pointer (some ⟨g, 0, none⟩)) (cs : Array Value) (t : TypeId) (d : TypeDesc)
    (hC : ∀ w, S w → Bk w g cs t) (hu : P.underlying ty = some d) (hd : (match d with | .struct _ | .array _ _ => true | _ => false) = true) (hi : (P.info? ty).map (·.size) = some cs.size) : YieldsIf P ops S o (.agg cs) a := by
  refine Or.inl ⟨hw, fun w hw => ?_⟩
  unfold execOp
  simp only [ho, hx, Instr.loadAt, Instr.sureAddr, Sem.run_bind, Sem.run_pure, Result.andThen_ok, run_loadVar_row w g t ty cs (0, 0) d (hC w hw) hu hd hi]
end
set_option maxRecDepth 100000 in
set_option maxHeartbeats 16000000 in
theorem workBegins_great (c : Cfg) (hf : c.Wf) (s : Wk) (x : St) (ok oa ob oc : Int) (od : Bool) (oe of tv : Int) (ht : 0 ≤ tv ∧ tv < 18446744073709551616) (w : World) (h : Lies w s x) (hx : ¬ Few 40 x) : Calls Tryz.prog 3 #[cv c, wv s, opV ok oa ob oc od oe of, .int .u64 tv] w fun e w' => e = .returned (.bool true) ∧ Below w.heap.size w w' := by
  have h1 : (w.alloc (.cells (ccM c) 24)).heap.size = w.heap.size + 1 := by simp
  have h2 : ((w.alloc (.cells (ccM c) 24)).alloc (.cells (wc s) 34)).heap.size = w.heap.size + 2 := by simp
  have X0 := Bk.new (w.alloc (.cells (ccM c) 24)) (wc s) 34
  rw [h1] at X0
  have O0 := Bk.new ((w.alloc (.cells (ccM c) 24)).alloc (.cells (wc s) 34)) #[.int .i64 ok, .int .u64 oa, .int .u64 ob, .int .i64 oc, .bool od, .int .i64 oe, .int .i64 of] 26
  rw [h2] at O0
  have XX := X0.alloc (.cells #[.int .i64 ok, .int .u64 oa, .int .u64 ob, .int .i64 oc, .bool od, .int .i64 oe, .int .i64 of] 26)
  have CC := ((Bk.new w (ccM c) 24).alloc (.cells (wc s) 34)).alloc (.cells #[.int .i64 ok, .int .u64 oa, .int .u64 ob, .int .i64 oc, .bool od, .int .i64 oe, .int .i64 of] 26)
  have bl0 : Below w.heap.size w (((w.alloc (.cells (ccM c) 24)).alloc (.cells (wc s) 34)).alloc (.cells #[.int .i64 ok, .int .u64 oa, .int .u64 ob, .int .i64 oc, .bool od, .int .i64 oe, .int .i64 of] 26)) := (((Below.refl _ _).alloc (Nat.le_refl _) _).alloc (by omega) _).alloc (by omega) _
  clear X0 h1 h2
  go_enter Tryz.func3, Tryz.ntmps3
  go_wp2_with fail
  refine (awake13 _).mono ?_
  rintro en w1 ⟨rfl, hb1⟩
  have X1 := XX.keep hb1
  have C1 := CC.keep hb1
  have O1 := O0.keep hb1
  have B1 := bl0.trans (hb1.mono bl0.size)
  have A1 := h.keep B1
  clear XX CC O0 bl0 hb1
  go_wp2_with (refine wpList_load_row rfl 34 _ rfl (w.heap.size + 1) rfl _ (wc s) (0, 0) _ (by exact X1) Tryz.underlying34 rfl (by kernel_rfl) ?_)
  refine (great_yes s x _ A1 hx).mono ?_
  rintro en w2 ⟨rfl, hb2⟩
  have B2 := B1.trans (hb2.mono B1.size)
  go_wp2
  go_ret
  exact ⟨rfl, B2⟩
theorem toP {w : World} {s : Wk} {x : St} (h : Lies w s x) : LiesP (fun _ => True) w s x := ⟨h.p, ⟨h.rk, .inr fun _ _ => trivial⟩, ⟨h.l0, .inr fun _ _ => trivial⟩, ⟨h.l1, .inr fun _ _ => trivial⟩, ⟨h.l2, .inr fun _ _ => trivial⟩, ⟨h.hl, .inr fun _ _ => trivial⟩, ⟨h.rd, .inr fun _ _ => trivial⟩⟩
set_option maxRecDepth 100000 in
set_option maxHeartbeats 16000000 in
theorem workBegins_few (c : Cfg) (hf : c.Wf) (s : Wk) (x : St) (ok oa ob oc : Int) (od : Bool) (oe of tv : Int) (ht : 0 ≤ tv ∧ tv < 18446744073709551616) (w : World) (h : Lies w s x) (hx : Few 40 x) : Calls Tryz.prog 3 #[cv c, wv s, opV ok oa ob oc od oe of, .int .u64 tv] w fun e w' => e = .returned (.bool true) ∧ Below w.heap.size w w' := by
  have hx9 := hx.mono (show 40 ≤ 900 by omega)
  have h1 : (w.alloc (.cells (ccM c) 24)).heap.size = w.heap.size + 1 := by simp
  have h2 : ((w.alloc (.cells (ccM c) 24)).alloc (.cells (wc s) 34)).heap.size = w.heap.size + 2 := by simp
  have X0 := Bk.new (w.alloc (.cells (ccM c) 24)) (wc s) 34
  rw [h1] at X0
  have O0 := Bk.new ((w.alloc (.cells (ccM c) 24)).alloc (.cells (wc s) 34)) #[.int .i64 ok, .int .u64 oa, .int .u64 ob, .int .i64 oc, .bool od, .int .i64 oe, .int .i64 of] 26
  rw [h2] at O0
  have XX := X0.alloc (.cells #[.int .i64 ok, .int .u64 oa, .int .u64 ob, .int .i64 oc, .bool od, .int .i64 oe, .int .i64 of] 26)
  have CC := ((Bk.new w (ccM c) 24).alloc (.cells (wc s) 34)).alloc (.cells #[.int .i64 ok, .int .u64 oa, .int .u64 ob, .int .i64 oc, .bool od, .int .i64 oe, .int .i64 of] 26)
  have bl0 : Below w.heap.size w (((w.alloc (.cells (ccM c) 24)).alloc (.cells (wc s) 34)).alloc (.cells #[.int .i64 ok, .int .u64 oa, .int .u64 ob, .int .i64 oc, .bool od, .int .i64 oe, .int .i64 of] 26)) := (((Below.refl _ _).alloc (Nat.le_refl _) _).alloc (by omega) _).alloc (by omega) _
  clear X0 h1 h2
  go_enter Tryz.func3, Tryz.ntmps3
  go_wp2_with fail
  refine (awake13 _).mono ?_
  rintro en w1 ⟨rfl, hb1⟩
  have X1 := XX.keep hb1
  have C1 := CC.keep hb1
  have O1 := O0.keep hb1
  have B1 := bl0.trans (hb1.mono bl0.size)
  have A1 := h.keep B1
  clear XX CC O0 bl0 hb1
  go_wp2_with (refine wpList_load_row rfl 34 _ rfl (w.heap.size + 1) rfl _ (wc s) (0, 0) _ (by exact X1) Tryz.underlying34 rfl (by kernel_rfl) ?_)
  refine (great_no s x _ A1 hx).mono ?_
  rintro en w2 ⟨rfl, hb2⟩
  have X2 := X1.keep hb2
  have C2 := C1.keep hb2
  have O2 := O1.keep hb2
  have A2 := A1.keep hb2
  have B2 := B1.trans (hb2.mono B1.size)
  clear X1 C1 O1 A1 B1 hb2
  go_wp2_with (refine wpList_load_row rfl 34 _ rfl (w.heap.size + 1) rfl _ (wc s) (0, 0) _ (by exact X2) Tryz.underlying34 rfl (by kernel_rfl) ?_)
  refine (refCopy s x hx9 _ A2).mono ?_
  rintro en w3 ⟨s4, rfl, L4, hb3⟩
  have bb := boxed_below w3 s4
  have Y5 := boxed_bk w3 s4
  have Z3 := Bk.new w3 (wc wz) 34
  have X5 := (X2.keep hb3).keep bb
  have C5 := (C2.keep hb3).keep bb
  have O5 := (O2.keep hb3).keep bb
  have A5 := (A2.keep hb3).keep bb
  have A4 := (L4.keep bb).lies
  have B3 := B2.trans (hb3.mono B2.size)
  have B5 := B3.trans (bb.mono B3.size)
  obtain ⟨w5, hw5⟩ : ∃ u, u = (w3.alloc (.cells (wc wz) 34)).setRow w3.heap.size (wc s4) := ⟨_, rfl⟩
  rw [← hw5] at X5 C5 O5 A5 A4 B5 Y5
  clear X2 C2 O2 A2 B2 hb3 L4 bb B3
  go_wp2_with (first | ((with_reducible refine wpList_alloc_wz rfl rfl ?_)) | ((refine wpList_store_row rfl 34 _ _ rfl (w3.heap.size) (wc s4) rfl rfl _ _ (by exact Z3) (by kernel_rfl) (by kernel_rfl) (by kernel_rfl) ?_); rw [← hw5]; clear hw5 Z3))
  obtain ⟨g9, hg9⟩ : ∃ u, u = w3.heap.size := ⟨_, rfl⟩
  rw [← hg9] at Y5 ⊢
  clear hg9
  have hS0 : Below w5.heap.size w5 w5.drew := Below.drew (Below.refl _ _)
  refine wp_region_held_drew (S := fun w' => Below w5.heap.size w5 w') (by kernel_rfl) hS0 (fun hHeld => ?_)
  clear hS0
  generalize w5.drew = z0 at *
  refine wpAnyH_take (i := 0) (oi := _) (v := .agg (ccM c)) rfl (by kernel_rfl) (by kernel_rfl) (by kernel_rfl) (fun _ _ _ h => h) (yields_rowW rfl 24 _ rfl (w.heap.size) rfl (ccM c) 24 _ (fun w' hw' => Bk.keep C5 hw') Tryz.underlying24 rfl (by kernel_rfl)) hHeld ?_
  try simp only [Act.put, List.getElem_toArray, List.getElem_cons_succ, List.getElem_cons_zero, List.setIfInBounds_toArray, List.set_cons_succ, List.set_cons_zero]
  refine wpAnyH_take (i := 1) (oi := _) (v := .agg (wc s)) rfl (by kernel_rfl) (by kernel_rfl) (by kernel_rfl) (fun _ _ _ h => h) (yields_rowW rfl 34 _ rfl (w.heap.size + 1) rfl (wc s) 34 _ (fun w' hw' => Bk.keep X5 hw') Tryz.underlying34 rfl (by kernel_rfl)) hHeld ?_
  try simp only [Act.put, List.getElem_toArray, List.getElem_cons_succ, List.getElem_cons_zero, List.setIfInBounds_toArray, List.set_cons_succ, List.set_cons_zero]
  refine wpAnyH_take (i := 2) (oi := _) (v := .agg #[.int .i64 ok, .int .u64 oa, .int .u64 ob, .int .i64 oc, .bool od, .int .i64 oe, .int .i64 of]) rfl (by kernel_rfl) (by kernel_rfl) (by kernel_rfl) (fun _ _ _ h => h) (yields_rowW rfl 26 _ rfl (w.heap.size + 2) rfl #[.int .i64 ok, .int .u64 oa, .int .u64 ob, .int .i64 oc, .bool od, .int .i64 oe, .int .i64 of] 26 _ (fun w' hw' => Bk.keep O5 hw') Tryz.underlying26 rfl (by kernel_rfl)) hHeld ?_
  try simp only [Act.put, List.getElem_toArray, List.getElem_cons_succ, List.getElem_cons_zero, List.setIfInBounds_toArray, List.set_cons_succ, List.set_cons_zero]
  refine wpAnyH_take (i := 3) (oi := _) (v := .int .u64 tv) rfl (by kernel_rfl) (by kernel_rfl) (by kernel_rfl) (fun _ _ _ h => h) (Or.inl ⟨by rfl, fun w' hSw => by go_simp⟩) hHeld ?_
  try simp only [Act.put, List.getElem_toArray, List.getElem_cons_succ, List.getElem_cons_zero, List.setIfInBounds_toArray, List.set_cons_succ, List.set_cons_zero]
  refine wpAnyH_take (i := 5) (oi := _) (v := .agg (ccM c)) rfl (by kernel_rfl) (by kernel_rfl) (by kernel_rfl) (fun _ _ _ h => h) (yields_rowW rfl 24 _ rfl (w.heap.size) rfl (ccM c) 24 _ (fun w' hw' => Bk.keep C5 hw') Tryz.underlying24 rfl (by kernel_rfl)) hHeld ?_
  try simp only [Act.put, List.getElem_toArray, List.getElem_cons_succ, List.getElem_cons_zero, List.setIfInBounds_toArray, List.set_cons_succ, List.set_cons_zero]
  refine wpAnyH_take (i := 6) (oi := _) (v := .agg (wc s4)) rfl (by kernel_rfl) (by kernel_rfl) (by kernel_rfl) (fun _ _ _ h => h) (yields_rowW rfl 34 _ rfl (g9) rfl (wc s4) 34 _ (fun w' hw' => Bk.keep Y5 hw') Tryz.underlying34 rfl (by kernel_rfl)) hHeld ?_
  try simp only [Act.put, List.getElem_toArray, List.getElem_cons_succ, List.getElem_cons_zero, List.setIfInBounds_toArray, List.set_cons_succ, List.set_cons_zero]
  refine wpAnyH_take (i := 7) (oi := _) (v := .agg #[.int .i64 ok, .int .u64 oa, .int .u64 ob, .int .i64 oc, .bool od, .int .i64 oe, .int .i64 of]) rfl (by kernel_rfl) (by kernel_rfl) (by kernel_rfl) (fun _ _ _ h => h) (yields_rowW rfl 26 _ rfl (w.heap.size + 2) rfl #[.int .i64 ok, .int .u64 oa, .int .u64 ob, .int .i64 oc, .bool od, .int .i64 oe, .int .i64 of] 26 _ (fun w' hw' => Bk.keep O5 hw') Tryz.underlying26 rfl (by kernel_rfl)) hHeld ?_
  try simp only [Act.put, List.getElem_toArray, List.getElem_cons_succ, List.getElem_cons_zero, List.setIfInBounds_toArray, List.set_cons_succ, List.set_cons_zero]
  refine wpAnyH_take (i := 8) (oi := _) (v := .int .u64 tv) rfl (by kernel_rfl) (by kernel_rfl) (by kernel_rfl) (fun _ _ _ h => h) (Or.inl ⟨by rfl, fun w' hSw => by go_simp⟩) hHeld ?_
  try simp only [Act.put, List.getElem_toArray, List.getElem_cons_succ, List.getElem_cons_zero, List.setIfInBounds_toArray, List.set_cons_succ, List.set_cons_zero]
  refine wpAnyH_ready (rs := [4]) (by kernel_rfl) (by simp) ?_
  refine AllReadyH.cons (o := _) rfl (fun K hK => ?_) AllReadyH.nil
  go_simp
  refine (fBegin (P := fun _ => True) c hf (fun _ _ => trivial) (toP (A5.keep hHeld)) hx9 ok oa ob oc od oe of tv ht).mono ?_
  rintro e z1 ⟨s6, rfl, L6, hb⟩
  have hHeld' := hHeld.trans (hb.mono hHeld.size)
  refine hK.out _ _ hHeld' (fun hHeld => ?_)
  clear hK K hHeld' hb
  try simp only [Act.put, List.getElem_toArray, List.getElem_cons_succ, List.getElem_cons_zero, List.setIfInBounds_toArray, List.set_cons_succ, List.set_cons_zero]
  refine wpAnyH_ready (rs := [9]) (by kernel_rfl) (by simp) ?_
  refine AllReadyH.cons (o := _) rfl (fun K hK => ?_) AllReadyH.nil
  go_simp
  refine (rBegin (P := fun _ => True) c hf (fun _ _ => trivial) (toP (A4.keep hHeld)) hx9 ok oa ob oc od oe of tv ht).mono ?_
  rintro e z2 ⟨s7, rfl, L7, hb⟩
  have L6 := L6.keep hb
  have hHeld' := hHeld.trans (hb.mono hHeld.size)
  refine hK.out _ _ hHeld' (fun hHeld => ?_)
  clear hK K hHeld' hb
  try simp only [Act.put, List.getElem_toArray, List.getElem_cons_succ, List.getElem_cons_zero, List.setIfInBounds_toArray, List.set_cons_succ, List.set_cons_zero]
  refine wpAnyH_ready (rs := [10]) (by kernel_rfl) (by simp) ?_
  refine AllReadyH.cons (o := _) rfl (fun K hK => ?_) AllReadyH.nil
  go_simp
  refine (refSame L6.lies L7.lies).mono ?_
  rintro e z3 ⟨rfl, hb⟩
  have hHeld' := hHeld.trans (hb.mono hHeld.size)
  refine hK.out _ _ hHeld' (fun hHeld => ?_)
  clear hK K hHeld' hb
  try simp only [Act.put, List.getElem_toArray, List.getElem_cons_succ, List.getElem_cons_zero, List.setIfInBounds_toArray, List.set_cons_succ, List.set_cons_zero]
  refine wpAnyH_take (i := 11) (oi := _) (v := .bool true) rfl (by kernel_rfl) (by kernel_rfl) (by kernel_rfl) (fun _ _ _ h => h) (Or.inl ⟨by rfl, fun w' hSw => by go_simp⟩) hHeld ?_
  try simp only [Act.put, List.getElem_toArray, List.getElem_cons_succ, List.getElem_cons_zero, List.setIfInBounds_toArray, List.set_cons_succ, List.set_cons_zero]
  refine wpAnyH_take (i := 12) (oi := _) (v := .agg (wc s)) rfl (by kernel_rfl) (by kernel_rfl) (by kernel_rfl) (fun _ _ _ h => h) (yields_rowW rfl 34 _ rfl (w.heap.size + 1) rfl (wc s) 34 _ (fun w' hw' => Bk.keep X5 hw') Tryz.underlying34 rfl (by kernel_rfl)) hHeld ?_
  try simp only [Act.put, List.getElem_toArray, List.getElem_cons_succ, List.getElem_cons_zero, List.setIfInBounds_toArray, List.set_cons_succ, List.set_cons_zero]
  refine wpAnyH_take (i := 13) (oi := _) (v := .agg (wc s4)) rfl (by kernel_rfl) (by kernel_rfl) (by kernel_rfl) (fun _ _ _ h => h) (yields_rowW rfl 34 _ rfl (g9) rfl (wc s4) 34 _ (fun w' hw' => Bk.keep Y5 hw') Tryz.underlying34 rfl (by kernel_rfl)) hHeld ?_
  try simp only [Act.put, List.getElem_toArray, List.getElem_cons_succ, List.getElem_cons_zero, List.setIfInBounds_toArray, List.set_cons_succ, List.set_cons_zero]
  refine wpAnyH_ready (rs := [14]) (by kernel_rfl) (by simp) ?_
  refine AllReadyH.cons (o := _) rfl (fun K hK => ?_) AllReadyH.nil
  go_simp
  refine (refSame (A5.keep hHeld) (A4.keep hHeld)).mono ?_
  rintro e z4 ⟨rfl, hb⟩
  have hHeld' := hHeld.trans (hb.mono hHeld.size)
  refine hK.out _ _ hHeld' (fun hHeld => ?_)
  clear hK K hHeld' hb
  try simp only [Act.put, List.getElem_toArray, List.getElem_cons_succ, List.getElem_cons_zero, List.setIfInBounds_toArray, List.set_cons_succ, List.set_cons_zero]
  refine wpAnyH_take (i := 15) (oi := _) (v := .bool true) rfl (by kernel_rfl) (by kernel_rfl) (by kernel_rfl) (fun _ _ _ h => h) (Or.inl ⟨by rfl, fun w' hSw => by go_simp⟩) hHeld ?_
  try simp only [Act.put, List.getElem_toArray, List.getElem_cons_succ, List.getElem_cons_zero, List.setIfInBounds_toArray, List.set_cons_succ, List.set_cons_zero]
  refine wpAnyH_take (i := 16) (oi := _) (v := .bool true) rfl (by kernel_rfl) (by kernel_rfl) (by kernel_rfl) (fun _ _ _ h => h) (Or.inl ⟨by rfl, fun w' hSw => by go_simp⟩) hHeld ?_
  try simp only [Act.put, List.getElem_toArray, List.getElem_cons_succ, List.getElem_cons_zero, List.setIfInBounds_toArray, List.set_cons_succ, List.set_cons_zero]
  refine wpAnyH_done (by kernel_rfl) ?_ _
  have B9 := B5.trans (hHeld.mono B5.size)
  go_wp2
  go_ret
  exact ⟨rfl, B9⟩
theorem workBegins (c : Cfg) (hf : c.Wf) (s : Wk) (x : St) (ok oa ob oc : Int) (od : Bool) (oe of tv : Int) (ht : 0 ≤ tv ∧ tv < 18446744073709551616) (w : World) (h : Lies w s x) : Calls Tryz.prog 3 #[cv c, wv s, opV ok oa ob oc od oe of, .int .u64 tv] w fun e w' => e = .returned (.bool true) ∧ Below w.heap.size w w' := by
  by_cases hx : Few 40 x
  · exact workBegins_few c hf s x ok oa ob oc od oe of tv ht w h hx
  · exact workBegins_great c hf s x ok oa ob oc od oe of tv ht w h hx
end Go.Proofs.YtgpdkagmacpghaaGreat.Me
