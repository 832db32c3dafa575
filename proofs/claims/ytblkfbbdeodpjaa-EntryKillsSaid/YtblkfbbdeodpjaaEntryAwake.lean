/- The example of layer 11 (made by genaw11.py). -/
import Derived.Test.YtblkfbbdeodpjaaEntryLine
import Derived.Test.YtblkfbbdeodpjaaEntryLive
import Derived.Test.YtblkfbbdeodpjaaStackAwake
namespace Go.Proofs.Ytblkfbbdeodpjaa.Me
open Go Go.RowKit Go.Proofs.Ytblkfbbdeodpjaa.Gro Go.Proofs.Ytblkfbbdeodpjaa.Own Go.Proofs.Ytblkfbbdeodpjaa.Wd Go.Proofs.Ytblkfbbdeodpjaa.Ap Go.Proofs.Ytblkfbbdeodpjaa.Pl Go.Proofs.Ytblkfbbdeodpjaa.Wo
set_option linter.unusedVariables false
set_option linter.unusedSimpArgs false
abbrev c11 : Cfg := ⟨1, 1, 8, 1, 2, 0, 1, 1⟩
theorem c11_wf : c11.Wf := ⟨by decide, by decide⟩
theorem c11_ok : Ok c11 := chk_ok.1 (by decide)
theorem build_c11 (w : World) : (Instr.build 24 #[(0, .int .i64 1), (1, .int .i64 1), (2, .int .i64 8), (3, .int .i64 1), (4, .int .i64 2), (6, .int .i64 1), (7, .int .u64 1)]).run Try.prog w = .ok (cv c11) w := run_build w _ _ _ (by kernel_rfl)
abbrev p110 : Pl := { pz with b := 6, ln := 20 }
abbrev p111 : Pl := { pz with b := 6, v := 1, h := 1, ln := 21 }
abbrev p112 : Pl := { pz with b := 6, v := 1, h := 1, n := 2, ln := 22 }
abbrev p113 : Pl := { pz with b := 6, v := 1, h := 1, n := 2, i := 1, ln := 40 }
abbrev p114 : Pl := { pz with b := 6, v := 1, h := 1, n := 2, i := 1, g := 1, ln := 41 }
abbrev p115 : Pl := { pz with b := 0, v := 1, h := 1, n := 2, i := 0, g := 1, t := 65537, ln := 0 }
abbrev s110 : Wk := { wz with p := p110 }
theorem build_s110 (w : World) : (Instr.build 46 #[(0, .int .i64 20), (7, .int .i64 6)]).run Try.prog w = .ok (wv s110) w := run_build w _ _ _ (by kernel_rfl)
def L110 : List Int := [2, 0, 1, 0, 0, 1048576, 2, 1048576, 0, 0, 0, 0, 0, 0, 0, 0, 0, 0, 0, 0, 0, 0, 0, 0, 0]
def L111 : List Int := [2, 0, 4294967298, 0, 0, 1048576, 2, 1048576, 0, 0, 0, 0, 0, 0, 0, 0, 0, 0, 0, 0, 0, 0, 0, 0, 0]
def L112 : List Int := [2, 0, 4294967298, 0, 0, 1048673, 2, 1048576, 0, 0, 0, 0, 0, 0, 0, 0, 0, 0, 0, 0, 0, 0, 0, 0, 0]
theorem first11 : firstL c11 = L110 := by decide
theorem wr110 : WR L110 := by unfold WR L110; decide
theorem wr111 : WR L111 := by unfold WR L111; decide
theorem wr112 : WR L112 := by unfold WR L112; decide
theorem run11a (a : Acc) : (entryLn c11 a L110 p110).fin = ⟨(entryLn c11 a L110 p110).fin.a, L110, p111, 0, true⟩ := by kernel_rfl
theorem run11b (a : Acc) : (entryLn c11 a L110 p111).fin = ⟨(entryLn c11 a L110 p111).fin.a, L110, p112, 0, true⟩ := by kernel_rfl
theorem run11c (a : Acc) : (entryLn c11 a L110 p112).fin = ⟨(entryLn c11 a L110 p112).fin.a, L111, p113, 0, true⟩ := by kernel_rfl
theorem run11d (a : Acc) : (entryLn c11 a L111 p113).fin = ⟨(entryLn c11 a L111 p113).fin.a, L111, p114, 0, true⟩ := by kernel_rfl
theorem run11e (a : Acc) : (entryLn c11 a L111 p114).fin = ⟨(entryLn c11 a L111 p114).fin.a, L112, p115, 1, true⟩ := by kernel_rfl
theorem tk11 : Pk.tk 0 1 = 65537 := by decide
theorem lv11 : lvI c11 L112 65537 = 5 ∧ lvB c11 L112 65537 = true := by decide
theorem pr11 {p : Pl} (h : p.ep = 0 ∧ p.u = 0 ∧ 0 ≤ p.g ∧ p.g ≤ 9 ∧ 0 ≤ p.t ∧ p.t ≤ 99999 ∧ 0 ≤ p.h ∧ p.h ≤ 9 ∧ 0 ≤ p.n ∧ p.n ≤ 9 ∧ 0 ≤ p.v ∧ p.v ≤ 9) : PR p := by
  constructor <;> omega
theorem step11a {B : Nat} {w : World} {g gl cap : Nat} {a : Acc} {s : Wk} (M : MemAt B w g c11 a gl cap L110) (h : Lies w s { zS with p := p110 }) : ∃ a', Calls Try.prog 37 #[.pointer (some ⟨g, 0, none⟩), wv s] w (GPost B g gl cap c11 ⟨a', L110, p111, 0, true⟩ { zS with p := p110 } w) := by
  have := entryStepAny M c11_wf (by decide) wr110 s _ (few_z6 _) h (pr11 (by decide))
  rw [run11a] at this
  exact ⟨_, this⟩
theorem step11b {B : Nat} {w : World} {g gl cap : Nat} {a : Acc} {s : Wk} (M : MemAt B w g c11 a gl cap L110) (h : Lies w s { zS with p := p111 }) : ∃ a', Calls Try.prog 37 #[.pointer (some ⟨g, 0, none⟩), wv s] w (GPost B g gl cap c11 ⟨a', L110, p112, 0, true⟩ { zS with p := p111 } w) := by
  have := entryStepAny M c11_wf (by decide) wr110 s _ (few_z6 _) h (pr11 (by decide))
  rw [run11b] at this
  exact ⟨_, this⟩
theorem step11c {B : Nat} {w : World} {g gl cap : Nat} {a : Acc} {s : Wk} (M : MemAt B w g c11 a gl cap L110) (h : Lies w s { zS with p := p112 }) : ∃ a', Calls Try.prog 37 #[.pointer (some ⟨g, 0, none⟩), wv s] w (GPost B g gl cap c11 ⟨a', L111, p113, 0, true⟩ { zS with p := p112 } w) := by
  have := entryStepAny M c11_wf (by decide) wr110 s _ (few_z6 _) h (pr11 (by decide))
  rw [run11c] at this
  exact ⟨_, this⟩
theorem step11d {B : Nat} {w : World} {g gl cap : Nat} {a : Acc} {s : Wk} (M : MemAt B w g c11 a gl cap L111) (h : Lies w s { zS with p := p113 }) : ∃ a', Calls Try.prog 37 #[.pointer (some ⟨g, 0, none⟩), wv s] w (GPost B g gl cap c11 ⟨a', L111, p114, 0, true⟩ { zS with p := p113 } w) := by
  have := entryStepAny M c11_wf (by decide) wr111 s _ (few_z6 _) h (pr11 (by decide))
  rw [run11d] at this
  exact ⟨_, this⟩
theorem step11e {B : Nat} {w : World} {g gl cap : Nat} {a : Acc} {s : Wk} (M : MemAt B w g c11 a gl cap L111) (h : Lies w s { zS with p := p114 }) : ∃ a', Calls Try.prog 37 #[.pointer (some ⟨g, 0, none⟩), wv s] w (GPost B g gl cap c11 ⟨a', L112, p115, 1, true⟩ { zS with p := p114 } w) := by
  have := entryStepAny M c11_wf (by decide) wr111 s _ (few_z6 _) h (pr11 (by decide))
  rw [run11e] at this
  exact ⟨_, this⟩
set_option maxRecDepth 100000 in
set_option maxHeartbeats 16000000 in
theorem awake11 (w : World) : Calls Try.prog 36 #[] w fun e w' => e = .returned (.bool true) ∧ Below w.heap.size w w' := by
  have hb0 := build_c11
  have hbs := build_s110
  have hn := newMem_ok c11 c11_wf c11_ok
  rw [first11] at hn
  have HN := Lib.hid hn
  have HTK := Lib.hid (fun w => tk11 ▸ Pk.rticket 0 1 (by omega) (by omega) w)
  clear hn
  go_enter Try.func36, Try.ntmps36
  go_wp2_with fail
  refine (HN.out _).mono ?_
  rintro e w1 ⟨g, gl, cap, rfl, M1, hb1⟩
  have Z1 := Bk.new w1 (wc wz) 46
  have X2 := boxed_bk w1 s110
  have bb2 := boxed_below w1 s110
  have M2 := M1.keep bb2
  have hw2 := hb1.trans (bb2.mono hb1.size)
  have lt1 := M1.lt
  have lx2 := X2.lt
  have sz1 := hb1.size
  have g0 := M1.g0
  have gl0 := M1.gl0
  obtain ⟨w2, hw2'⟩ : ∃ u, u = (w1.alloc (.cells (wc wz) 46)).setRow w1.heap.size (wc s110) := ⟨_, rfl⟩
  rw [← hw2'] at X2 M2 hw2 lx2
  clear bb2 hb1 M1
  go_wp2_with (first | ((with_reducible refine wpList_alloc_wz rfl rfl ?_)) | (refine wpList_store_row rfl 46 _ _ rfl (w1.heap.size) (wc s110) rfl rfl _ _ (by exact Z1) (by kernel_rfl) (by kernel_rfl) (by kernel_rfl) ?_); rw [← hw2']; clear hw2' Z1)
  obtain ⟨gx, hgx⟩ : ∃ u, u = w1.heap.size := ⟨_, rfl⟩
  rw [← hgx] at X2 lx2 lt1 sz1 ⊢
  clear hgx
  refine wp_loop_rounds 6 ?_
  rw [rounds_succ]
  obtain ⟨a1, hs1⟩ := step11a M2 (lies_z6 _ _)
  have HS1 := Lib.hid hs1
  clear hs1
  go_wp2_with (refine wpList_load_row rfl 46 _ rfl (gx) rfl _ (wc s110) (0, 0) _ (by exact X2) Try.underlying46 rfl (by kernel_rfl) ?_)
  refine HS1.out.mono ?_
  rintro e u1 ⟨t1, rfl, A1, N1, T1⟩
  have Xu1 := T1.bk X2 (by omega) (by omega)
  have hu1 := hw2.trans (T1.below (base := w.heap.size) (by omega) (by omega) hw2.size)
  have su1 := T1.size
  have Y1 := Xu1.setRow (wc t1)
  have Q1 := N1.apart (g' := gx) (gl' := gx) ((Touch.refl gx gx u1).setRow (wc t1)) (by omega) (by omega) (by omega) (by omega)
  have Ay1 := A1.setRow (g := gx) (by omega) (wc t1)
  have hy1 := below_setRow hu1 (show w.heap.size ≤ gx by omega) (wc t1)
  obtain ⟨y1, hy1'⟩ : ∃ u, u = u1.setRow gx (wc t1) := ⟨_, rfl⟩
  have sy1 : u1.heap.size = y1.heap.size := by rw [hy1']; simp
  rw [← hy1'] at Y1 Q1 Ay1 hy1
  clear HS1 A1 N1 T1 hu1 X2 M2 hw2
  go_wp2_with ((refine wpList_store_row rfl 46 _ _ rfl (gx) (wc t1) rfl rfl _ _ (by exact Xu1) (by kernel_rfl) (by kernel_rfl) (by kernel_rfl) ?_); rw [← hy1']; clear hy1' Xu1)
  rw [rounds_succ]
  obtain ⟨a2, hs2⟩ := step11b Q1 Ay1.lies
  have HS2 := Lib.hid hs2
  clear hs2
  go_wp2_with (refine wpList_load_row rfl 46 _ rfl (gx) rfl _ (wc t1) (0, 0) _ (by exact Y1) Try.underlying46 rfl (by kernel_rfl) ?_)
  refine HS2.out.mono ?_
  rintro e u2 ⟨t2, rfl, A2, N2, T2⟩
  have Xu2 := T2.bk Y1 (by omega) (by omega)
  have hu2 := hy1.trans (T2.below (base := w.heap.size) (by omega) (by omega) hy1.size)
  have su2 := T2.size
  have Y2 := Xu2.setRow (wc t2)
  have Q2 := N2.apart (g' := gx) (gl' := gx) ((Touch.refl gx gx u2).setRow (wc t2)) (by omega) (by omega) (by omega) (by omega)
  have Ay2 := A2.setRow (g := gx) (by omega) (wc t2)
  have hy2 := below_setRow hu2 (show w.heap.size ≤ gx by omega) (wc t2)
  obtain ⟨y2, hy2'⟩ : ∃ u, u = u2.setRow gx (wc t2) := ⟨_, rfl⟩
  have sy2 : u2.heap.size = y2.heap.size := by rw [hy2']; simp
  rw [← hy2'] at Y2 Q2 Ay2 hy2
  clear HS2 A2 N2 T2 hu2 Y1 Q1 hy1
  go_wp2_with ((refine wpList_store_row rfl 46 _ _ rfl (gx) (wc t2) rfl rfl _ _ (by exact Xu2) (by kernel_rfl) (by kernel_rfl) (by kernel_rfl) ?_); rw [← hy2']; clear hy2' Xu2)
  rw [rounds_succ]
  obtain ⟨a3, hs3⟩ := step11c Q2 Ay2.lies
  have HS3 := Lib.hid hs3
  clear hs3
  go_wp2_with (refine wpList_load_row rfl 46 _ rfl (gx) rfl _ (wc t2) (0, 0) _ (by exact Y2) Try.underlying46 rfl (by kernel_rfl) ?_)
  refine HS3.out.mono ?_
  rintro e u3 ⟨t3, rfl, A3, N3, T3⟩
  have Xu3 := T3.bk Y2 (by omega) (by omega)
  have hu3 := hy2.trans (T3.below (base := w.heap.size) (by omega) (by omega) hy2.size)
  have su3 := T3.size
  have Y3 := Xu3.setRow (wc t3)
  have Q3 := N3.apart (g' := gx) (gl' := gx) ((Touch.refl gx gx u3).setRow (wc t3)) (by omega) (by omega) (by omega) (by omega)
  have Ay3 := A3.setRow (g := gx) (by omega) (wc t3)
  have hy3 := below_setRow hu3 (show w.heap.size ≤ gx by omega) (wc t3)
  obtain ⟨y3, hy3'⟩ : ∃ u, u = u3.setRow gx (wc t3) := ⟨_, rfl⟩
  have sy3 : u3.heap.size = y3.heap.size := by rw [hy3']; simp
  rw [← hy3'] at Y3 Q3 Ay3 hy3
  clear HS3 A3 N3 T3 hu3 Y2 Q2 hy2
  go_wp2_with ((refine wpList_store_row rfl 46 _ _ rfl (gx) (wc t3) rfl rfl _ _ (by exact Xu3) (by kernel_rfl) (by kernel_rfl) (by kernel_rfl) ?_); rw [← hy3']; clear hy3' Xu3)
  rw [rounds_succ]
  obtain ⟨a4, hs4⟩ := step11d Q3 Ay3.lies
  have HS4 := Lib.hid hs4
  clear hs4
  go_wp2_with (refine wpList_load_row rfl 46 _ rfl (gx) rfl _ (wc t3) (0, 0) _ (by exact Y3) Try.underlying46 rfl (by kernel_rfl) ?_)
  refine HS4.out.mono ?_
  rintro e u4 ⟨t4, rfl, A4, N4, T4⟩
  have Xu4 := T4.bk Y3 (by omega) (by omega)
  have hu4 := hy3.trans (T4.below (base := w.heap.size) (by omega) (by omega) hy3.size)
  have su4 := T4.size
  have Y4 := Xu4.setRow (wc t4)
  have Q4 := N4.apart (g' := gx) (gl' := gx) ((Touch.refl gx gx u4).setRow (wc t4)) (by omega) (by omega) (by omega) (by omega)
  have Ay4 := A4.setRow (g := gx) (by omega) (wc t4)
  have hy4 := below_setRow hu4 (show w.heap.size ≤ gx by omega) (wc t4)
  obtain ⟨y4, hy4'⟩ : ∃ u, u = u4.setRow gx (wc t4) := ⟨_, rfl⟩
  have sy4 : u4.heap.size = y4.heap.size := by rw [hy4']; simp
  rw [← hy4'] at Y4 Q4 Ay4 hy4
  clear HS4 A4 N4 T4 hu4 Y3 Q3 hy3
  go_wp2_with ((refine wpList_store_row rfl 46 _ _ rfl (gx) (wc t4) rfl rfl _ _ (by exact Xu4) (by kernel_rfl) (by kernel_rfl) (by kernel_rfl) ?_); rw [← hy4']; clear hy4' Xu4)
  rw [rounds_succ]
  obtain ⟨a5, hs5⟩ := step11e Q4 Ay4.lies
  have HS5 := Lib.hid hs5
  clear hs5
  go_wp2_with (refine wpList_load_row rfl 46 _ rfl (gx) rfl _ (wc t4) (0, 0) _ (by exact Y4) Try.underlying46 rfl (by kernel_rfl) ?_)
  refine HS5.out.mono ?_
  rintro e u5 ⟨t5, rfl, A5, N5, T5⟩
  have Xu5 := T5.bk Y4 (by omega) (by omega)
  have hu5 := hy4.trans (T5.below (base := w.heap.size) (by omega) (by omega) hy4.size)
  have su5 := T5.size
  have Y5 := Xu5.setRow (wc t5)
  have Q5 := N5.apart (g' := gx) (gl' := gx) ((Touch.refl gx gx u5).setRow (wc t5)) (by omega) (by omega) (by omega) (by omega)
  have Ay5 := A5.setRow (g := gx) (by omega) (wc t5)
  have hy5 := below_setRow hu5 (show w.heap.size ≤ gx by omega) (wc t5)
  obtain ⟨y5, hy5'⟩ : ∃ u, u = u5.setRow gx (wc t5) := ⟨_, rfl⟩
  have sy5 : u5.heap.size = y5.heap.size := by rw [hy5']; simp
  rw [← hy5'] at Y5 Q5 Ay5 hy5
  clear HS5 A5 N5 T5 hu5 Y4 Q4 hy4
  go_wp2_with ((refine wpList_store_row rfl 46 _ _ rfl (gx) (wc t5) rfl rfl _ _ (by exact Xu5) (by kernel_rfl) (by kernel_rfl) (by kernel_rfl) ?_); rw [← hy5']; clear hy5' Xu5)
  have hp5 := Ay5.p
  have f30 : (wc t5)[30]? = some (.int .u64 65537) := by
    have : (wc t5)[30]? = some (.int .u64 t5.p.t) := rfl
    rw [this, hp5]
  have szq := hy5.size
  have lx5 := Y5.lt
  clear hp5 Ay5 Ay4 Ay3 Ay2 Ay1
  rw [rounds_succ]
  go_wp2
  have hS0 : Below y5.heap.size y5 y5.drew := Below.drew (Below.refl _ _)
  refine wp_region_held_drew (S := fun w' => Below y5.heap.size y5 w') (by kernel_rfl) hS0 (fun hHeld => ?_)
  generalize y5.drew = z0 at *
  refine wpAnyH_take (i := 0) (oi := _) (v := .pointer (some ⟨g, 0, none⟩)) rfl (by kernel_rfl) (by kernel_rfl) (by kernel_rfl) (fun _ _ _ h => h) (Or.inl ⟨by rfl, fun w' hSw => by go_simp⟩) hHeld ?_
  try simp only [Act.put, List.getElem_toArray, List.getElem_cons_succ, List.getElem_cons_zero, List.setIfInBounds_toArray, List.set_cons_succ, List.set_cons_zero]
  refine wpAnyH_take (i := 1) (oi := _) (v := .pointer (some ⟨g, 0, none⟩)) rfl (by kernel_rfl) (by kernel_rfl) (by kernel_rfl) (fun _ _ _ h => h) (Or.inl ⟨by rfl, fun w' hSw => by go_simp⟩) hHeld ?_
  try simp only [Act.put, List.getElem_toArray, List.getElem_cons_succ, List.getElem_cons_zero, List.setIfInBounds_toArray, List.set_cons_succ, List.set_cons_zero]
  refine wpAnyH_take (i := 2) (oi := _) (v := .pointer (some ⟨g, 0, none⟩)) rfl (by kernel_rfl) (by kernel_rfl) (by kernel_rfl) (fun _ _ _ h => h) (Or.inl ⟨by rfl, fun w' hSw => by go_simp⟩) hHeld ?_
  try simp only [Act.put, List.getElem_toArray, List.getElem_cons_succ, List.getElem_cons_zero, List.setIfInBounds_toArray, List.set_cons_succ, List.set_cons_zero]
  refine wpAnyH_take (i := 3) (oi := _) (v := .pointer (some ⟨g, 0, none⟩)) rfl (by kernel_rfl) (by kernel_rfl) (by kernel_rfl) (fun _ _ _ h => h) (Or.inl ⟨by rfl, fun w' hSw => by go_simp⟩) hHeld ?_
  try simp only [Act.put, List.getElem_toArray, List.getElem_cons_succ, List.getElem_cons_zero, List.setIfInBounds_toArray, List.set_cons_succ, List.set_cons_zero]
  refine wpAnyH_take (i := 4) (oi := _) (v := cv c11) rfl (by kernel_rfl) (by kernel_rfl) (by kernel_rfl) (fun _ _ _ h => h) (Or.inl ⟨by rfl, fun w' hSw => by have xx := (Q5.keep hSw).B.cells; go_simp⟩) hHeld ?_
  try simp only [Act.put, List.getElem_toArray, List.getElem_cons_succ, List.getElem_cons_zero, List.setIfInBounds_toArray, List.set_cons_succ, List.set_cons_zero]
  refine wpAnyH_take (i := 5) (oi := _) (v := .pointer (some ⟨g, 0, none⟩)) rfl (by kernel_rfl) (by kernel_rfl) (by kernel_rfl) (fun _ _ _ h => h) (Or.inl ⟨by rfl, fun w' hSw => by go_simp⟩) hHeld ?_
  try simp only [Act.put, List.getElem_toArray, List.getElem_cons_succ, List.getElem_cons_zero, List.setIfInBounds_toArray, List.set_cons_succ, List.set_cons_zero]
  refine wpAnyH_take (i := 7) (oi := _) (v := .pointer (some ⟨gx, 30, none⟩)) rfl (by kernel_rfl) (by kernel_rfl) (by kernel_rfl) (fun _ _ _ h => h) (Or.inl ⟨by rfl, fun w' hSw => by go_simp⟩) hHeld ?_
  try simp only [Act.put, List.getElem_toArray, List.getElem_cons_succ, List.getElem_cons_zero, List.setIfInBounds_toArray, List.set_cons_succ, List.set_cons_zero]
  refine wpAnyH_take (i := 8) (oi := _) (v := .int .u64 65537) rfl (by kernel_rfl) (by kernel_rfl) (by kernel_rfl) (fun _ _ _ h => h) (Or.inl ⟨by rfl, fun w' hSw => by have xx := (Y5.keep hSw).cells; go_simp⟩) hHeld ?_
  try simp only [Act.put, List.getElem_toArray, List.getElem_cons_succ, List.getElem_cons_zero, List.setIfInBounds_toArray, List.set_cons_succ, List.set_cons_zero]
  refine wpAnyH_ready (rs := [6]) (by kernel_rfl) (by simp) ?_
  refine AllReadyH.cons (o := _) rfl (fun K hK => ?_) AllReadyH.nil
  go_simp
  refine (all_in (Q5.keep hHeld) (by decide)).mono ?_
  rintro e z1 ⟨y1', rfl, hy1', hb⟩
  have hHeld' := hHeld.trans (hb.mono hHeld.size)
  refine hK.out _ _ hHeld' (fun hHeld => ?_)
  clear hK K hHeld'
  try simp only [Act.put, List.getElem_toArray, List.getElem_cons_succ, List.getElem_cons_zero, List.setIfInBounds_toArray, List.set_cons_succ, List.set_cons_zero]
  have rd1 := Reads.of_own hy1' rfl
  clear hb hy1'
  have hin := eLive c11 c11_wf rd1 wr112 65537 (by omega)
  unfold LvPost at hin
  rw [lv11.1, lv11.2] at hin
  have HIN := Lib.hid hin
  clear hin rd1
  refine wpAnyH_ready (rs := [9]) (by kernel_rfl) (by simp) ?_
  refine AllReadyH.cons (o := _) rfl (fun K hK => ?_) AllReadyH.nil
  go_simp
  refine (HIN.out).mono ?_
  rintro e z2 ⟨rfl, hb⟩
  have hHeld' := hHeld.trans (hb.mono hHeld.size)
  refine hK.out _ _ hHeld' (fun hHeld => ?_)
  clear hK K hHeld'
  try simp only [Act.put, List.getElem_toArray, List.getElem_cons_succ, List.getElem_cons_zero, List.setIfInBounds_toArray, List.set_cons_succ, List.set_cons_zero]
  clear hb
  refine wpAnyH_take (i := 10) (oi := _) (v := .tuple #[.int .i64 5, .bool true]) rfl (by kernel_rfl) (by kernel_rfl) (by kernel_rfl) (fun _ _ _ h => h) (Or.inl ⟨by rfl, fun w' hSw => by go_simp⟩) hHeld ?_
  try simp only [Act.put, List.getElem_toArray, List.getElem_cons_succ, List.getElem_cons_zero, List.setIfInBounds_toArray, List.set_cons_succ, List.set_cons_zero]
  refine wpAnyH_take (i := 11) (oi := _) (v := .int .i64 5) rfl (by kernel_rfl) (by kernel_rfl) (by kernel_rfl) (fun _ _ _ h => h) (Or.inl ⟨by rfl, fun w' hSw => by go_simp⟩) hHeld ?_
  try simp only [Act.put, List.getElem_toArray, List.getElem_cons_succ, List.getElem_cons_zero, List.setIfInBounds_toArray, List.set_cons_succ, List.set_cons_zero]
  refine wpAnyH_take (i := 12) (oi := _) (v := .bool true) rfl (by kernel_rfl) (by kernel_rfl) (by kernel_rfl) (fun _ _ _ h => h) (Or.inl ⟨by rfl, fun w' hSw => by go_simp⟩) hHeld ?_
  try simp only [Act.put, List.getElem_toArray, List.getElem_cons_succ, List.getElem_cons_zero, List.setIfInBounds_toArray, List.set_cons_succ, List.set_cons_zero]
  refine wpAnyH_take (i := 13) (oi := _) (v := .int .i64 5) rfl (by kernel_rfl) (by kernel_rfl) (by kernel_rfl) (fun _ _ _ h => h) (Or.inl ⟨by rfl, fun w' hSw => by go_simp⟩) hHeld ?_
  try simp only [Act.put, List.getElem_toArray, List.getElem_cons_succ, List.getElem_cons_zero, List.setIfInBounds_toArray, List.set_cons_succ, List.set_cons_zero]
  refine wpAnyH_take (i := 14) (oi := _) (v := .bool true) rfl (by kernel_rfl) (by kernel_rfl) (by kernel_rfl) (fun _ _ _ h => h) (Or.inl ⟨by rfl, fun w' hSw => by go_simp⟩) hHeld ?_
  try simp only [Act.put, List.getElem_toArray, List.getElem_cons_succ, List.getElem_cons_zero, List.setIfInBounds_toArray, List.set_cons_succ, List.set_cons_zero]
  refine wpAnyH_done (by kernel_rfl) ?_ _
  have hw9 := hy5.trans (hHeld.mono hy5.size)
  have X9 := Y5.keep hHeld
  have x9 := X9.cells
  have l9 := X9.lt
  clear hHeld hS0
  go_wp2
  refine wp_region_grown (by kernel_rfl) (by kernel_rfl) ?_
  have hg := @gcell
  repeat (go_big_quiet_step (exact grown_same (HTK.out _)))
  refine wpQuiet_nil ?_
  rintro w10 ⟨⟨_, hb10⟩, rfl⟩
  clear hg
  have hw10 := hw9.trans (hb10.mono hw9.size)
  go_wp2
  go_ret
  exact ⟨rfl, hw10⟩
end Go.Proofs.Ytblkfbbdeodpjaa.Me
