/- The steps of the reference of layer 7 (made by genep.py). -/
import Derived.Test.YticgpikpefgldaaEpochFn
import Derived.Test.YticgpikpefgldaaRefStep
namespace Go.Proofs.Yticgpikpefgldaa.Me
open Go Go.RowKit Go.Proofs.Yticgpikpefgldaa.Gro Go.Proofs.Yticgpikpefgldaa.Own Go.Proofs.Yticgpikpefgldaa.Wd Go.Proofs.Yticgpikpefgldaa.Ap Go.Proofs.Yticgpikpefgldaa.Pl Go.Proofs.Yticgpikpefgldaa.Wo
set_option linter.unusedVariables false
set_option linter.unusedSimpArgs false
set_option maxRecDepth 10000 in
set_option maxHeartbeats 4000000 in
theorem rep1 {B : Nat} {w : World} {g gl cap : Nat} {c : Cfg} {a : Acc} {L : List Int} (M : RefMem B w g c a gl cap L) (s : Wk) (hm : L.length ≤ 1000) (hL : WR L) (hf : c.Wf) (wk : Int) (hl : s.p.ln = 1) : Calls Try.prog 26 #[.pointer (some ⟨g, 0, none⟩), .int .i64 wk, wv s] w (RPost B g gl cap c ⟨acc L 1 0 0 0, L, { s.p with ep := ldV L 0, ln := 2 }, 0, true⟩ s w) := by
  have f0 : ∀ s : Wk, (wc s)[0]? = some (.int .i64 s.p.ln) := fun _ => rfl
  have f9 : ∀ s : Wk, (wc s)[9]? = some (.int .u64 s.p.ep) := fun _ => rfl
  have t1 : (s.p.ln == 1) = true := by simp [hl]
  have H0 := RX.start M s
  have hba := build_acc0
  have x0 := H0.X.cells
  have c9 : ((w.alloc (.cells (wc s) 34)).alloc (.cells (wc wz) 34)).cell? ⟨g, 9, none⟩ = some (.int .i64 a.kd) := H0.M.B.cells 9
  have c10 : ((w.alloc (.cells (wc s) 34)).alloc (.cells (wc wz) 34)).cell? ⟨g, 10, none⟩ = some (.int .i64 a.at_) := H0.M.B.cells 10
  have c11 : ((w.alloc (.cells (wc s) 34)).alloc (.cells (wc wz) 34)).cell? ⟨g, 11, none⟩ = some (.int .u64 a.x) := H0.M.B.cells 11
  have c12 : ((w.alloc (.cells (wc s) 34)).alloc (.cells (wc wz) 34)).cell? ⟨g, 12, none⟩ = some (.int .u64 a.y) := H0.M.B.cells 12
  have c13 : ((w.alloc (.cells (wc s) 34)).alloc (.cells (wc wz) 34)).cell? ⟨g, 13, none⟩ = some (.int .u64 a.old) := H0.M.B.cells 13
  obtain ⟨w1, hw1⟩ : ∃ u, u = (w.alloc (.cells (wc s) 34)).alloc (.cells (wc wz) 34) := ⟨_, rfl⟩
  rw [← hw1] at H0 x0 c9 c10 c11 c12 c13
  have ZA := Bk.new w1 #[.int .i64 0, .int .i64 0, .int .u64 0, .int .u64 0, .int .u64 0] 48
  have ZB := ZA.setRow #[.int .i64 a.kd, .int .i64 a.at_, .int .u64 a.x, .int .u64 a.y, .int .u64 a.old]
  have bA : Below w1.heap.size w1 ((w1.alloc (.cells #[.int .i64 0, .int .i64 0, .int .u64 0, .int .u64 0, .int .u64 0] 48)).setRow w1.heap.size #[.int .i64 a.kd, .int .i64 a.at_, .int .u64 a.x, .int .u64 a.y, .int .u64 a.old]) := below_setRow ((Below.refl _ _).alloc (Nat.le_refl _) _) (Nat.le_refl _) _
  have H1 := H0.keep bA
  have sA := bA.size
  have lg0 := H0.M.lt
  obtain ⟨w2, hw2⟩ : ∃ u, u = (w1.alloc (.cells #[.int .i64 0, .int .i64 0, .int .u64 0, .int .u64 0, .int .u64 0] 48)).setRow w1.heap.size #[.int .i64 a.kd, .int .i64 a.at_, .int .u64 a.x, .int .u64 a.y, .int .u64 a.old] := ⟨_, rfl⟩
  rw [← hw2] at H1 ZB sA
  have H2 := H1.wipe
  have ZC := ZB.setRow_far (g' := g) (by omega) (rc c a0 ⟨some ⟨gl, 0, none⟩, L.length, cap⟩)
  obtain ⟨w3, hw3⟩ : ∃ u, u = w2.setRow g (rc c a0 ⟨some ⟨gl, 0, none⟩, L.length, cap⟩) := ⟨_, rfl⟩
  rw [← hw3] at H2 ZC
  have x2 := H2.X.cells
  have HW1 := Lib.hid hw1
  have HW2 := Lib.hid hw2
  have HW3 := Lib.hid hw3
  clear hl hw1 hw2 hw3 bA
  go_enter Try.func26, Try.ntmps26
  go_wp2_with (first | ((with_reducible refine wpList_alloc_wz rfl rfl ?_); rw [← HW1.out]; clear HW1) | ((with_reducible refine wpList_alloc_acc rfl rfl ?_)) | ((refine wpList_store_row rfl 48 _ _ rfl w1.heap.size #[.int .i64 a.kd, .int .i64 a.at_, .int .u64 a.x, .int .u64 a.y, .int .u64 a.old] rfl rfl _ _ (by exact ZA) (by kernel_rfl) (by kernel_rfl) (by kernel_rfl) ?_); rw [← HW2.out]; clear HW2 ZA c9 c10 c11 c12 c13 x0) | ((with_reducible refine Sub.wpList_store_sub rfl 48 _ _ rfl g 9 #[.int .i64 0, .int .i64 0, .int .u64 0, .int .u64 0, .int .u64 0] ?_ ?_ 50 (rc c a ⟨some ⟨gl, 0, none⟩, L.length, cap⟩) (rc c a0 ⟨some ⟨gl, 0, none⟩, L.length, cap⟩) ?_ ?_ ?_ ?_ ?_ ?_); exact rfl; exact rfl; exact H1.M.B; kernel_rfl; exact Nat.le_of_ble_eq_true (by kernel_rfl); kernel_rfl; kernel_rfl; rw [← HW3.out]; clear HW3 H1 H0 ZB sA))
  refine (rload_any H2.M hm 0).mono ?_
  rintro en w4 ⟨rfl, M4, T4⟩
  have H4 := H2.mem M4 T4
  obtain ⟨v0, hv0⟩ : ∃ v, v = ldV L 0 := ⟨_, rfl⟩
  simp only [← hv0]
  have HV := Lib.hid hv0
  clear hv0 x2 M4 T4 H2
  have H5 := H4.set (s' := { s with p := { s.p with ep := v0 } }) 9 (.int .u64 v0) rfl
  have xw4 := H4.X.cells
  have zw4 := H4.X.frozen
  have ew4_9 : (w4.cell? ⟨w.heap.size, 9, none⟩).isSome = true := by rw [xw4, f9]; rfl
  have H6 := H5.set (s' := { s with p := { s.p with ep := v0, ln := 2 } }) 0 (.int .i64 2) rfl
  have y6 : ((w4.setCell ⟨w.heap.size, 9, none⟩ (.int .u64 v0)).cell? ⟨w.heap.size, 0, none⟩).isSome = true := by rw [H5.X.cells, f0]; rfl
  go_wp2_with (first | (refine wpList_load_row rfl 34 _ rfl w.heap.size rfl _ (wc ({ s with p := { s.p with ep := v0, ln := 2 } } : Wk)) (0, 0) _ (by exact H6.X) Try.underlying34 rfl (by kernel_rfl) ?_) | (refine wpList_store_row rfl 34 _ _ rfl (w.heap.size + 1) (wc ({ s with p := { s.p with ep := v0, ln := 2 } } : Wk)) rfl rfl _ _ (by exact H6.Z) (by kernel_rfl) (by kernel_rfl) (by kernel_rfl) ?_))
  have ZF := H6.Z.setRow (wc ({ s with p := { s.p with ep := v0, ln := 2 } } : Wk))
  refine bodyPost_ret (v := .tuple #[wv ({ s with p := { s.p with ep := v0, ln := 2 } } : Wk), .int .i64 0, .bool true]) ?_ rfl ?_
  · exact Rw.results_cell_slot2 (p := 6) (q := 7) (r := 8) (ty := 34) Try.results26 _ _ (w.heap.size + 1) 34 _ (0, 0) _ rfl ZF Try.underlying34 rfl (by kernel_rfl)
  · have e1 := HV.out
    subst e1
    exact ⟨rfl, H6.fin _⟩
theorem run_alloc_acc (w : World) : (Instr.alloc 48 true (.tuple #[])).run Try.prog w = .ok (.pointer (some ⟨w.heap.size, 0, none⟩)) (w.alloc (.cells #[.int .i64 0, .int .i64 0, .int .u64 0, .int .u64 0, .int .u64 0] 48)) := by kernel_rfl
theorem wpList_alloc_acc {ops : Array Oper} {rest : List Oper} {o : Oper} {a : Act} {w : World} {Q : Exit → Act → World → Prop} (hg : o.guard = none) (ho : o.op = .alloc 48)
    (h : wpList Try.prog ops Q rest (a.put o.dst (.pointer (some ⟨w.heap.size, 0, none⟩))) (w.alloc (.cells #[.int .i64 0, .int .i64 0, .int .u64 0, .int .u64 0, .int .u64 0] 48))) : wpList Try.prog ops Q (o :: rest) a w := by
  refine wpList_plain hg fun K hK => ?_
  unfold Oper.wp
  simp [execOp, ho, run_alloc_acc, Result.andThen]
  exact hK _ _ h
theorem rAnnounce {B : Nat} {w : World} {g gl cap : Nat} {c : Cfg} {a : Acc} {L : List Int} (M : RefMem B w g c a gl cap L) (hf : c.Wf) (i : Int) : Calls Try.prog 73 #[.pointer (some ⟨g, 0, none⟩), .int .i64 i] w fun e w' => e = .returned (.int .i64 (aAnn c i)) ∧ Below w.heap.size w w' := by
  have HA := Lib.hid (fun w => (refAt_all c i 0).1 ▸ refAt_walk c hf (1, i, 0) w)
  have x := M.B.cells
  go_enter Try.func73, Try.ntmps73
  go_wp2_with fail
  refine (HA.out _).mono ?_
  rintro e w1 ⟨rfl, hb⟩
  go_wp2
  go_ret
  exact ⟨rfl, hb⟩
set_option maxRecDepth 10000 in
set_option maxHeartbeats 4000000 in
theorem rep2 {B : Nat} {w : World} {g gl cap : Nat} {c : Cfg} {a : Acc} {L : List Int} (M : RefMem B w g c a gl cap L) (s : Wk) (hm : L.length ≤ 1000) (hL : WR L) (hf : c.Wf) (wk : Int) (he : 0 ≤ s.p.ep ∧ s.p.ep < 18446744073709551616) (hl : s.p.ln = 2) : Calls Try.prog 26 #[.pointer (some ⟨g, 0, none⟩), .int .i64 wk, wv s] w (RPost B g gl cap c ⟨acc L 2 (aAnn c wk) (Pk.an s.p.ep true) 0, stL L (aAnn c wk) (Pk.an s.p.ep true), { s.p with ln := 3 }, 0, true⟩ s w) := by
  have HRA := Lib.hid (fun w => Pk.rannounce s.p.ep true he.1 he.2 w)
  clear he
  have f0 : ∀ s : Wk, (wc s)[0]? = some (.int .i64 s.p.ln) := fun _ => rfl
  have f9 : ∀ s : Wk, (wc s)[9]? = some (.int .u64 s.p.ep) := fun _ => rfl
  have t1 : (s.p.ln == 1) = false := by simp [hl]
  have t2 : (s.p.ln == 2) = true := by simp [hl]
  have H0 := RX.start M s
  have hba := build_acc0
  have x0 := H0.X.cells
  have c9 : ((w.alloc (.cells (wc s) 34)).alloc (.cells (wc wz) 34)).cell? ⟨g, 9, none⟩ = some (.int .i64 a.kd) := H0.M.B.cells 9
  have c10 : ((w.alloc (.cells (wc s) 34)).alloc (.cells (wc wz) 34)).cell? ⟨g, 10, none⟩ = some (.int .i64 a.at_) := H0.M.B.cells 10
  have c11 : ((w.alloc (.cells (wc s) 34)).alloc (.cells (wc wz) 34)).cell? ⟨g, 11, none⟩ = some (.int .u64 a.x) := H0.M.B.cells 11
  have c12 : ((w.alloc (.cells (wc s) 34)).alloc (.cells (wc wz) 34)).cell? ⟨g, 12, none⟩ = some (.int .u64 a.y) := H0.M.B.cells 12
  have c13 : ((w.alloc (.cells (wc s) 34)).alloc (.cells (wc wz) 34)).cell? ⟨g, 13, none⟩ = some (.int .u64 a.old) := H0.M.B.cells 13
  obtain ⟨w1, hw1⟩ : ∃ u, u = (w.alloc (.cells (wc s) 34)).alloc (.cells (wc wz) 34) := ⟨_, rfl⟩
  rw [← hw1] at H0 x0 c9 c10 c11 c12 c13
  have ZA := Bk.new w1 #[.int .i64 0, .int .i64 0, .int .u64 0, .int .u64 0, .int .u64 0] 48
  have ZB := ZA.setRow #[.int .i64 a.kd, .int .i64 a.at_, .int .u64 a.x, .int .u64 a.y, .int .u64 a.old]
  have bA : Below w1.heap.size w1 ((w1.alloc (.cells #[.int .i64 0, .int .i64 0, .int .u64 0, .int .u64 0, .int .u64 0] 48)).setRow w1.heap.size #[.int .i64 a.kd, .int .i64 a.at_, .int .u64 a.x, .int .u64 a.y, .int .u64 a.old]) := below_setRow ((Below.refl _ _).alloc (Nat.le_refl _) _) (Nat.le_refl _) _
  have H1 := H0.keep bA
  have sA := bA.size
  have lg0 := H0.M.lt
  obtain ⟨w2, hw2⟩ : ∃ u, u = (w1.alloc (.cells #[.int .i64 0, .int .i64 0, .int .u64 0, .int .u64 0, .int .u64 0] 48)).setRow w1.heap.size #[.int .i64 a.kd, .int .i64 a.at_, .int .u64 a.x, .int .u64 a.y, .int .u64 a.old] := ⟨_, rfl⟩
  rw [← hw2] at H1 ZB sA
  have H2 := H1.wipe
  have ZC := ZB.setRow_far (g' := g) (by omega) (rc c a0 ⟨some ⟨gl, 0, none⟩, L.length, cap⟩)
  obtain ⟨w3, hw3⟩ : ∃ u, u = w2.setRow g (rc c a0 ⟨some ⟨gl, 0, none⟩, L.length, cap⟩) := ⟨_, rfl⟩
  rw [← hw3] at H2 ZC
  have x2 := H2.X.cells
  have HW1 := Lib.hid hw1
  have HW2 := Lib.hid hw2
  have HW3 := Lib.hid hw3
  clear hl hw1 hw2 hw3 bA
  go_enter Try.func26, Try.ntmps26
  go_wp2_with (first | ((with_reducible refine wpList_alloc_wz rfl rfl ?_); rw [← HW1.out]; clear HW1) | ((with_reducible refine wpList_alloc_acc rfl rfl ?_)) | ((refine wpList_store_row rfl 48 _ _ rfl w1.heap.size #[.int .i64 a.kd, .int .i64 a.at_, .int .u64 a.x, .int .u64 a.y, .int .u64 a.old] rfl rfl _ _ (by exact ZA) (by kernel_rfl) (by kernel_rfl) (by kernel_rfl) ?_); rw [← HW2.out]; clear HW2 ZA c9 c10 c11 c12 c13 x0) | ((with_reducible refine Sub.wpList_store_sub rfl 48 _ _ rfl g 9 #[.int .i64 0, .int .i64 0, .int .u64 0, .int .u64 0, .int .u64 0] ?_ ?_ 50 (rc c a ⟨some ⟨gl, 0, none⟩, L.length, cap⟩) (rc c a0 ⟨some ⟨gl, 0, none⟩, L.length, cap⟩) ?_ ?_ ?_ ?_ ?_ ?_); exact rfl; exact rfl; exact H1.M.B; kernel_rfl; exact Nat.le_of_ble_eq_true (by kernel_rfl); kernel_rfl; kernel_rfl; rw [← HW3.out]; clear HW3 H1 H0 ZB sA))
  have HAN := Lib.hid (fun (n : Gr w3) => rAnnounce (H2.M.keep n.2) hf wk)
  have lx2 := H2.lt
  have lg2 := H2.M.lt.1
  refine wp_region_grown_tail 7 (by kernel_rfl) (by kernel_rfl) ?_
  simp only [List.take_succ_cons, List.take_zero, List.drop_succ_cons, List.drop_zero]
  have hg := @gcell
  repeat (go_big_quiet_step (first | exact grown_of (HAN.out _) | exact grown_same (HRA.out _)))
  refine wpQuiet_nil ?_
  rintro w4 ⟨⟨_, hb4⟩, rfl⟩
  clear hg
  have H4 := H2.keep hb4
  clear x2 lx2 lg2 HAN H2 hb4
  go_wp2_with fail
  refine (rstore_any H4.M hm _ _).mono ?_
  rintro en w5 ⟨rfl, M5, T5⟩
  have H5 := H4.mem M5 T5
  clear H4 M5 T5
  have H6 := H5.set (s' := { s with p := { s.p with ln := 3 } }) 0 (.int .i64 3) rfl
  have xw5 := H5.X.cells
  have zw5 := H5.X.frozen
  have ew5_0 : (w5.cell? ⟨w.heap.size, 0, none⟩).isSome = true := by rw [xw5, f0]; rfl
  go_wp2_with (first | (refine wpList_load_row rfl 34 _ rfl w.heap.size rfl _ (wc ({ s with p := { s.p with ln := 3 } } : Wk)) (0, 0) _ (by exact H6.X) Try.underlying34 rfl (by kernel_rfl) ?_) | (refine wpList_store_row rfl 34 _ _ rfl (w.heap.size + 1) (wc ({ s with p := { s.p with ln := 3 } } : Wk)) rfl rfl _ _ (by exact H6.Z) (by kernel_rfl) (by kernel_rfl) (by kernel_rfl) ?_))
  have ZF := H6.Z.setRow (wc ({ s with p := { s.p with ln := 3 } } : Wk))
  refine bodyPost_ret (v := .tuple #[wv ({ s with p := { s.p with ln := 3 } } : Wk), .int .i64 0, .bool true]) ?_ rfl ?_
  · exact Rw.results_cell_slot2 (p := 6) (q := 7) (r := 8) (ty := 34) Try.results26 _ _ (w.heap.size + 1) 34 _ (0, 0) _ rfl ZF Try.underlying34 rfl (by kernel_rfl)
  · exact ⟨rfl, H6.fin _⟩
set_option maxRecDepth 10000 in
set_option maxHeartbeats 4000000 in
theorem rep90 {B : Nat} {w : World} {g gl cap : Nat} {c : Cfg} {a : Acc} {L : List Int} (M : RefMem B w g c a gl cap L) (s : Wk) (hm : L.length ≤ 1000) (hL : WR L) (hf : c.Wf) (wk : Int) (he : 0 ≤ s.p.ep ∧ s.p.ep < 18446744073709551616) (hl : s.p.ln = 90) : Calls Try.prog 26 #[.pointer (some ⟨g, 0, none⟩), .int .i64 wk, wv s] w (RPost B g gl cap c ⟨acc L 2 (aAnn c wk) (Pk.an s.p.ep false) 0, stL L (aAnn c wk) (Pk.an s.p.ep false), { s.p with ln := 0 }, 1, true⟩ s w) := by
  have HRA := Lib.hid (fun w => Pk.rannounce s.p.ep false he.1 he.2 w)
  clear he
  have f0 : ∀ s : Wk, (wc s)[0]? = some (.int .i64 s.p.ln) := fun _ => rfl
  have f9 : ∀ s : Wk, (wc s)[9]? = some (.int .u64 s.p.ep) := fun _ => rfl
  have t1 : (s.p.ln == 1) = false := by simp [hl]
  have t2 : (s.p.ln == 2) = false := by simp [hl]
  have t3 : (s.p.ln == 3) = false := by simp [hl]
  have t70 : (s.p.ln == 70) = false := by simp [hl]
  have t71 : (s.p.ln == 71) = false := by simp [hl]
  have t72 : (s.p.ln == 72) = false := by simp [hl]
  have t90 : (s.p.ln == 90) = true := by simp [hl]
  have H0 := RX.start M s
  have hba := build_acc0
  have x0 := H0.X.cells
  have c9 : ((w.alloc (.cells (wc s) 34)).alloc (.cells (wc wz) 34)).cell? ⟨g, 9, none⟩ = some (.int .i64 a.kd) := H0.M.B.cells 9
  have c10 : ((w.alloc (.cells (wc s) 34)).alloc (.cells (wc wz) 34)).cell? ⟨g, 10, none⟩ = some (.int .i64 a.at_) := H0.M.B.cells 10
  have c11 : ((w.alloc (.cells (wc s) 34)).alloc (.cells (wc wz) 34)).cell? ⟨g, 11, none⟩ = some (.int .u64 a.x) := H0.M.B.cells 11
  have c12 : ((w.alloc (.cells (wc s) 34)).alloc (.cells (wc wz) 34)).cell? ⟨g, 12, none⟩ = some (.int .u64 a.y) := H0.M.B.cells 12
  have c13 : ((w.alloc (.cells (wc s) 34)).alloc (.cells (wc wz) 34)).cell? ⟨g, 13, none⟩ = some (.int .u64 a.old) := H0.M.B.cells 13
  obtain ⟨w1, hw1⟩ : ∃ u, u = (w.alloc (.cells (wc s) 34)).alloc (.cells (wc wz) 34) := ⟨_, rfl⟩
  rw [← hw1] at H0 x0 c9 c10 c11 c12 c13
  have ZA := Bk.new w1 #[.int .i64 0, .int .i64 0, .int .u64 0, .int .u64 0, .int .u64 0] 48
  have ZB := ZA.setRow #[.int .i64 a.kd, .int .i64 a.at_, .int .u64 a.x, .int .u64 a.y, .int .u64 a.old]
  have bA : Below w1.heap.size w1 ((w1.alloc (.cells #[.int .i64 0, .int .i64 0, .int .u64 0, .int .u64 0, .int .u64 0] 48)).setRow w1.heap.size #[.int .i64 a.kd, .int .i64 a.at_, .int .u64 a.x, .int .u64 a.y, .int .u64 a.old]) := below_setRow ((Below.refl _ _).alloc (Nat.le_refl _) _) (Nat.le_refl _) _
  have H1 := H0.keep bA
  have sA := bA.size
  have lg0 := H0.M.lt
  obtain ⟨w2, hw2⟩ : ∃ u, u = (w1.alloc (.cells #[.int .i64 0, .int .i64 0, .int .u64 0, .int .u64 0, .int .u64 0] 48)).setRow w1.heap.size #[.int .i64 a.kd, .int .i64 a.at_, .int .u64 a.x, .int .u64 a.y, .int .u64 a.old] := ⟨_, rfl⟩
  rw [← hw2] at H1 ZB sA
  have H2 := H1.wipe
  have ZC := ZB.setRow_far (g' := g) (by omega) (rc c a0 ⟨some ⟨gl, 0, none⟩, L.length, cap⟩)
  obtain ⟨w3, hw3⟩ : ∃ u, u = w2.setRow g (rc c a0 ⟨some ⟨gl, 0, none⟩, L.length, cap⟩) := ⟨_, rfl⟩
  rw [← hw3] at H2 ZC
  have x2 := H2.X.cells
  have HW1 := Lib.hid hw1
  have HW2 := Lib.hid hw2
  have HW3 := Lib.hid hw3
  clear hl hw1 hw2 hw3 bA
  go_enter Try.func26, Try.ntmps26
  go_wp2_with (first | ((with_reducible refine wpList_alloc_wz rfl rfl ?_); rw [← HW1.out]; clear HW1) | ((with_reducible refine wpList_alloc_acc rfl rfl ?_)) | ((refine wpList_store_row rfl 48 _ _ rfl w1.heap.size #[.int .i64 a.kd, .int .i64 a.at_, .int .u64 a.x, .int .u64 a.y, .int .u64 a.old] rfl rfl _ _ (by exact ZA) (by kernel_rfl) (by kernel_rfl) (by kernel_rfl) ?_); rw [← HW2.out]; clear HW2 ZA c9 c10 c11 c12 c13 x0) | ((with_reducible refine Sub.wpList_store_sub rfl 48 _ _ rfl g 9 #[.int .i64 0, .int .i64 0, .int .u64 0, .int .u64 0, .int .u64 0] ?_ ?_ 50 (rc c a ⟨some ⟨gl, 0, none⟩, L.length, cap⟩) (rc c a0 ⟨some ⟨gl, 0, none⟩, L.length, cap⟩) ?_ ?_ ?_ ?_ ?_ ?_); exact rfl; exact rfl; exact H1.M.B; kernel_rfl; exact Nat.le_of_ble_eq_true (by kernel_rfl); kernel_rfl; kernel_rfl; rw [← HW3.out]; clear HW3 H1 H0 ZB sA))
  have HAN := Lib.hid (fun (n : Gr w3) => rAnnounce (H2.M.keep n.2) hf wk)
  have lx2 := H2.lt
  have lg2 := H2.M.lt.1
  refine wp_region_grown_tail 7 (by kernel_rfl) (by kernel_rfl) ?_
  simp only [List.take_succ_cons, List.take_zero, List.drop_succ_cons, List.drop_zero]
  have hg := @gcell
  repeat (go_big_quiet_step (first | exact grown_of (HAN.out _) | exact grown_same (HRA.out _)))
  refine wpQuiet_nil ?_
  rintro w4 ⟨⟨_, hb4⟩, rfl⟩
  clear hg
  have H4 := H2.keep hb4
  clear x2 lx2 lg2 HAN H2 hb4
  go_wp2_with fail
  refine (rstore_any H4.M hm _ _).mono ?_
  rintro en w5 ⟨rfl, M5, T5⟩
  have H5 := H4.mem M5 T5
  clear H4 M5 T5
  have H6 := H5.set (s' := { s with p := { s.p with ln := 0 } }) 0 (.int .i64 0) rfl
  have xw5 := H5.X.cells
  have zw5 := H5.X.frozen
  have ew5_0 : (w5.cell? ⟨w.heap.size, 0, none⟩).isSome = true := by rw [xw5, f0]; rfl
  go_wp2_with (first | (refine wpList_load_row rfl 34 _ rfl w.heap.size rfl _ (wc ({ s with p := { s.p with ln := 0 } } : Wk)) (0, 0) _ (by exact H6.X) Try.underlying34 rfl (by kernel_rfl) ?_) | (refine wpList_store_row rfl 34 _ _ rfl (w.heap.size + 1) (wc ({ s with p := { s.p with ln := 0 } } : Wk)) rfl rfl _ _ (by exact H6.Z) (by kernel_rfl) (by kernel_rfl) (by kernel_rfl) ?_))
  have ZF := H6.Z.setRow (wc ({ s with p := { s.p with ln := 0 } } : Wk))
  refine bodyPost_ret (v := .tuple #[wv ({ s with p := { s.p with ln := 0 } } : Wk), .int .i64 1, .bool true]) ?_ rfl ?_
  · exact Rw.results_cell_slot2 (p := 6) (q := 7) (r := 8) (ty := 34) Try.results26 _ _ (w.heap.size + 1) 34 _ (0, 0) _ rfl ZF Try.underlying34 rfl (by kernel_rfl)
  · exact ⟨rfl, H6.fin _⟩
set_option maxRecDepth 10000 in
set_option maxHeartbeats 4000000 in
theorem rep3y {B : Nat} {w : World} {g gl cap : Nat} {c : Cfg} {a : Acc} {L : List Int} (M : RefMem B w g c a gl cap L) (s : Wk) (hm : L.length ≤ 1000) (hL : WR L) (hf : c.Wf) (wk : Int) (hl : s.p.ln = 3) (he : ldV L 0 = s.p.ep) : Calls Try.prog 26 #[.pointer (some ⟨g, 0, none⟩), .int .i64 wk, wv s] w (RPost B g gl cap c ⟨acc L 1 0 0 0, L, { s.p with ln := 0 }, 1, true⟩ s w) := by
  have HE := Lib.hid he
  clear he
  have f0 : ∀ s : Wk, (wc s)[0]? = some (.int .i64 s.p.ln) := fun _ => rfl
  have f9 : ∀ s : Wk, (wc s)[9]? = some (.int .u64 s.p.ep) := fun _ => rfl
  have t1 : (s.p.ln == 1) = false := by simp [hl]
  have t2 : (s.p.ln == 2) = false := by simp [hl]
  have t3 : (s.p.ln == 3) = true := by simp [hl]
  have H0 := RX.start M s
  have hba := build_acc0
  have x0 := H0.X.cells
  have c9 : ((w.alloc (.cells (wc s) 34)).alloc (.cells (wc wz) 34)).cell? ⟨g, 9, none⟩ = some (.int .i64 a.kd) := H0.M.B.cells 9
  have c10 : ((w.alloc (.cells (wc s) 34)).alloc (.cells (wc wz) 34)).cell? ⟨g, 10, none⟩ = some (.int .i64 a.at_) := H0.M.B.cells 10
  have c11 : ((w.alloc (.cells (wc s) 34)).alloc (.cells (wc wz) 34)).cell? ⟨g, 11, none⟩ = some (.int .u64 a.x) := H0.M.B.cells 11
  have c12 : ((w.alloc (.cells (wc s) 34)).alloc (.cells (wc wz) 34)).cell? ⟨g, 12, none⟩ = some (.int .u64 a.y) := H0.M.B.cells 12
  have c13 : ((w.alloc (.cells (wc s) 34)).alloc (.cells (wc wz) 34)).cell? ⟨g, 13, none⟩ = some (.int .u64 a.old) := H0.M.B.cells 13
  obtain ⟨w1, hw1⟩ : ∃ u, u = (w.alloc (.cells (wc s) 34)).alloc (.cells (wc wz) 34) := ⟨_, rfl⟩
  rw [← hw1] at H0 x0 c9 c10 c11 c12 c13
  have ZA := Bk.new w1 #[.int .i64 0, .int .i64 0, .int .u64 0, .int .u64 0, .int .u64 0] 48
  have ZB := ZA.setRow #[.int .i64 a.kd, .int .i64 a.at_, .int .u64 a.x, .int .u64 a.y, .int .u64 a.old]
  have bA : Below w1.heap.size w1 ((w1.alloc (.cells #[.int .i64 0, .int .i64 0, .int .u64 0, .int .u64 0, .int .u64 0] 48)).setRow w1.heap.size #[.int .i64 a.kd, .int .i64 a.at_, .int .u64 a.x, .int .u64 a.y, .int .u64 a.old]) := below_setRow ((Below.refl _ _).alloc (Nat.le_refl _) _) (Nat.le_refl _) _
  have H1 := H0.keep bA
  have sA := bA.size
  have lg0 := H0.M.lt
  obtain ⟨w2, hw2⟩ : ∃ u, u = (w1.alloc (.cells #[.int .i64 0, .int .i64 0, .int .u64 0, .int .u64 0, .int .u64 0] 48)).setRow w1.heap.size #[.int .i64 a.kd, .int .i64 a.at_, .int .u64 a.x, .int .u64 a.y, .int .u64 a.old] := ⟨_, rfl⟩
  rw [← hw2] at H1 ZB sA
  have H2 := H1.wipe
  have ZC := ZB.setRow_far (g' := g) (by omega) (rc c a0 ⟨some ⟨gl, 0, none⟩, L.length, cap⟩)
  obtain ⟨w3, hw3⟩ : ∃ u, u = w2.setRow g (rc c a0 ⟨some ⟨gl, 0, none⟩, L.length, cap⟩) := ⟨_, rfl⟩
  rw [← hw3] at H2 ZC
  have x2 := H2.X.cells
  have HW1 := Lib.hid hw1
  have HW2 := Lib.hid hw2
  have HW3 := Lib.hid hw3
  clear hl hw1 hw2 hw3 bA
  go_enter Try.func26, Try.ntmps26
  go_wp2_with (first | ((with_reducible refine wpList_alloc_wz rfl rfl ?_); rw [← HW1.out]; clear HW1) | ((with_reducible refine wpList_alloc_acc rfl rfl ?_)) | ((refine wpList_store_row rfl 48 _ _ rfl w1.heap.size #[.int .i64 a.kd, .int .i64 a.at_, .int .u64 a.x, .int .u64 a.y, .int .u64 a.old] rfl rfl _ _ (by exact ZA) (by kernel_rfl) (by kernel_rfl) (by kernel_rfl) ?_); rw [← HW2.out]; clear HW2 ZA c9 c10 c11 c12 c13 x0) | ((with_reducible refine Sub.wpList_store_sub rfl 48 _ _ rfl g 9 #[.int .i64 0, .int .i64 0, .int .u64 0, .int .u64 0, .int .u64 0] ?_ ?_ 50 (rc c a ⟨some ⟨gl, 0, none⟩, L.length, cap⟩) (rc c a0 ⟨some ⟨gl, 0, none⟩, L.length, cap⟩) ?_ ?_ ?_ ?_ ?_ ?_); exact rfl; exact rfl; exact H1.M.B; kernel_rfl; exact Nat.le_of_ble_eq_true (by kernel_rfl); kernel_rfl; kernel_rfl; rw [← HW3.out]; clear HW3 H1 H0 ZB sA))
  refine (rload_any H2.M hm 0).mono ?_
  rintro en w4 ⟨rfl, M4, T4⟩
  have H4 := H2.mem M4 T4
  obtain ⟨v0, hv0⟩ : ∃ v, v = ldV L 0 := ⟨_, rfl⟩
  simp only [← hv0]
  rw [← hv0] at HE
  have HV := Lib.hid hv0
  clear hv0 x2 M4 T4 H2
  have te : (v0 == s.p.ep) = true := by have := HE.out; simp [this]
  have H5 := H4.set (s' := { s with p := { s.p with ln := 2 } }) 0 (.int .i64 2) rfl
  have xw4 := H4.X.cells
  have zw4 := H4.X.frozen
  have ew4_0 : (w4.cell? ⟨w.heap.size, 0, none⟩).isSome = true := by rw [xw4, f0]; rfl
  have H6 := H5.set (s' := { s with p := { s.p with ln := 0 } }) 0 (.int .i64 0) rfl
  have y6 : ((w4.setCell ⟨w.heap.size, 0, none⟩ (.int .i64 2)).cell? ⟨w.heap.size, 0, none⟩).isSome = true := by rw [H5.X.cells, f0]; rfl
  have H7 := H6.set (s' := { s with p := { s.p with ep := v0, ln := 0 } }) 9 (.int .u64 v0) rfl
  have y7 : (((w4.setCell ⟨w.heap.size, 0, none⟩ (.int .i64 2)).setCell ⟨w.heap.size, 0, none⟩ (.int .i64 0)).cell? ⟨w.heap.size, 9, none⟩).isSome = true := by rw [H6.X.cells, f9]; rfl
  go_wp2_with (first | (refine wpList_load_row rfl 34 _ rfl w.heap.size rfl _ (wc ({ s with p := { s.p with ep := v0, ln := 0 } } : Wk)) (0, 0) _ (by exact H7.X) Try.underlying34 rfl (by kernel_rfl) ?_) | (refine wpList_store_row rfl 34 _ _ rfl (w.heap.size + 1) (wc ({ s with p := { s.p with ep := v0, ln := 0 } } : Wk)) rfl rfl _ _ (by exact H7.Z) (by kernel_rfl) (by kernel_rfl) (by kernel_rfl) ?_))
  have ZF := H7.Z.setRow (wc ({ s with p := { s.p with ep := v0, ln := 0 } } : Wk))
  refine bodyPost_ret (v := .tuple #[wv ({ s with p := { s.p with ep := v0, ln := 0 } } : Wk), .int .i64 1, .bool true]) ?_ rfl ?_
  · exact Rw.results_cell_slot2 (p := 6) (q := 7) (r := 8) (ty := 34) Try.results26 _ _ (w.heap.size + 1) 34 _ (0, 0) _ rfl ZF Try.underlying34 rfl (by kernel_rfl)
  · have e2 : ({ s with p := { s.p with ep := v0, ln := 0 } } : Wk) = { s with p := { s.p with ln := 0 } } := by rw [HE.out]
    rw [e2]
    have e1 := HV.out
    exact ⟨rfl, H7.fin _⟩
set_option maxRecDepth 10000 in
set_option maxHeartbeats 4000000 in
theorem rep3n {B : Nat} {w : World} {g gl cap : Nat} {c : Cfg} {a : Acc} {L : List Int} (M : RefMem B w g c a gl cap L) (s : Wk) (hm : L.length ≤ 1000) (hL : WR L) (hf : c.Wf) (wk : Int) (hl : s.p.ln = 3) (he : ldV L 0 ≠ s.p.ep) : Calls Try.prog 26 #[.pointer (some ⟨g, 0, none⟩), .int .i64 wk, wv s] w (RPost B g gl cap c ⟨acc L 1 0 0 0, L, { s.p with ep := ldV L 0, ln := 2 }, 0, true⟩ s w) := by
  have HE := Lib.hid he
  clear he
  have f0 : ∀ s : Wk, (wc s)[0]? = some (.int .i64 s.p.ln) := fun _ => rfl
  have f9 : ∀ s : Wk, (wc s)[9]? = some (.int .u64 s.p.ep) := fun _ => rfl
  have t1 : (s.p.ln == 1) = false := by simp [hl]
  have t2 : (s.p.ln == 2) = false := by simp [hl]
  have t3 : (s.p.ln == 3) = true := by simp [hl]
  have H0 := RX.start M s
  have hba := build_acc0
  have x0 := H0.X.cells
  have c9 : ((w.alloc (.cells (wc s) 34)).alloc (.cells (wc wz) 34)).cell? ⟨g, 9, none⟩ = some (.int .i64 a.kd) := H0.M.B.cells 9
  have c10 : ((w.alloc (.cells (wc s) 34)).alloc (.cells (wc wz) 34)).cell? ⟨g, 10, none⟩ = some (.int .i64 a.at_) := H0.M.B.cells 10
  have c11 : ((w.alloc (.cells (wc s) 34)).alloc (.cells (wc wz) 34)).cell? ⟨g, 11, none⟩ = some (.int .u64 a.x) := H0.M.B.cells 11
  have c12 : ((w.alloc (.cells (wc s) 34)).alloc (.cells (wc wz) 34)).cell? ⟨g, 12, none⟩ = some (.int .u64 a.y) := H0.M.B.cells 12
  have c13 : ((w.alloc (.cells (wc s) 34)).alloc (.cells (wc wz) 34)).cell? ⟨g, 13, none⟩ = some (.int .u64 a.old) := H0.M.B.cells 13
  obtain ⟨w1, hw1⟩ : ∃ u, u = (w.alloc (.cells (wc s) 34)).alloc (.cells (wc wz) 34) := ⟨_, rfl⟩
  rw [← hw1] at H0 x0 c9 c10 c11 c12 c13
  have ZA := Bk.new w1 #[.int .i64 0, .int .i64 0, .int .u64 0, .int .u64 0, .int .u64 0] 48
  have ZB := ZA.setRow #[.int .i64 a.kd, .int .i64 a.at_, .int .u64 a.x, .int .u64 a.y, .int .u64 a.old]
  have bA : Below w1.heap.size w1 ((w1.alloc (.cells #[.int .i64 0, .int .i64 0, .int .u64 0, .int .u64 0, .int .u64 0] 48)).setRow w1.heap.size #[.int .i64 a.kd, .int .i64 a.at_, .int .u64 a.x, .int .u64 a.y, .int .u64 a.old]) := below_setRow ((Below.refl _ _).alloc (Nat.le_refl _) _) (Nat.le_refl _) _
  have H1 := H0.keep bA
  have sA := bA.size
  have lg0 := H0.M.lt
  obtain ⟨w2, hw2⟩ : ∃ u, u = (w1.alloc (.cells #[.int .i64 0, .int .i64 0, .int .u64 0, .int .u64 0, .int .u64 0] 48)).setRow w1.heap.size #[.int .i64 a.kd, .int .i64 a.at_, .int .u64 a.x, .int .u64 a.y, .int .u64 a.old] := ⟨_, rfl⟩
  rw [← hw2] at H1 ZB sA
  have H2 := H1.wipe
  have ZC := ZB.setRow_far (g' := g) (by omega) (rc c a0 ⟨some ⟨gl, 0, none⟩, L.length, cap⟩)
  obtain ⟨w3, hw3⟩ : ∃ u, u = w2.setRow g (rc c a0 ⟨some ⟨gl, 0, none⟩, L.length, cap⟩) := ⟨_, rfl⟩
  rw [← hw3] at H2 ZC
  have x2 := H2.X.cells
  have HW1 := Lib.hid hw1
  have HW2 := Lib.hid hw2
  have HW3 := Lib.hid hw3
  clear hl hw1 hw2 hw3 bA
  go_enter Try.func26, Try.ntmps26
  go_wp2_with (first | ((with_reducible refine wpList_alloc_wz rfl rfl ?_); rw [← HW1.out]; clear HW1) | ((with_reducible refine wpList_alloc_acc rfl rfl ?_)) | ((refine wpList_store_row rfl 48 _ _ rfl w1.heap.size #[.int .i64 a.kd, .int .i64 a.at_, .int .u64 a.x, .int .u64 a.y, .int .u64 a.old] rfl rfl _ _ (by exact ZA) (by kernel_rfl) (by kernel_rfl) (by kernel_rfl) ?_); rw [← HW2.out]; clear HW2 ZA c9 c10 c11 c12 c13 x0) | ((with_reducible refine Sub.wpList_store_sub rfl 48 _ _ rfl g 9 #[.int .i64 0, .int .i64 0, .int .u64 0, .int .u64 0, .int .u64 0] ?_ ?_ 50 (rc c a ⟨some ⟨gl, 0, none⟩, L.length, cap⟩) (rc c a0 ⟨some ⟨gl, 0, none⟩, L.length, cap⟩) ?_ ?_ ?_ ?_ ?_ ?_); exact rfl; exact rfl; exact H1.M.B; kernel_rfl; exact Nat.le_of_ble_eq_true (by kernel_rfl); kernel_rfl; kernel_rfl; rw [← HW3.out]; clear HW3 H1 H0 ZB sA))
  refine (rload_any H2.M hm 0).mono ?_
  rintro en w4 ⟨rfl, M4, T4⟩
  have H4 := H2.mem M4 T4
  obtain ⟨v0, hv0⟩ : ∃ v, v = ldV L 0 := ⟨_, rfl⟩
  simp only [← hv0]
  rw [← hv0] at HE
  have HV := Lib.hid hv0
  clear hv0 x2 M4 T4 H2
  have te : (v0 == s.p.ep) = false := by have := HE.out; simp [this]
  have H5 := H4.set (s' := { s with p := { s.p with ln := 2 } }) 0 (.int .i64 2) rfl
  have xw4 := H4.X.cells
  have zw4 := H4.X.frozen
  have ew4_0 : (w4.cell? ⟨w.heap.size, 0, none⟩).isSome = true := by rw [xw4, f0]; rfl
  have H7 := H5.set (s' := { s with p := { s.p with ep := v0, ln := 2 } }) 9 (.int .u64 v0) rfl
  have y7 : ((w4.setCell ⟨w.heap.size, 0, none⟩ (.int .i64 2)).cell? ⟨w.heap.size, 9, none⟩).isSome = true := by rw [H5.X.cells, f9]; rfl
  go_wp2_with (first | (refine wpList_load_row rfl 34 _ rfl w.heap.size rfl _ (wc ({ s with p := { s.p with ep := v0, ln := 2 } } : Wk)) (0, 0) _ (by exact H7.X) Try.underlying34 rfl (by kernel_rfl) ?_) | (refine wpList_store_row rfl 34 _ _ rfl (w.heap.size + 1) (wc ({ s with p := { s.p with ep := v0, ln := 2 } } : Wk)) rfl rfl _ _ (by exact H7.Z) (by kernel_rfl) (by kernel_rfl) (by kernel_rfl) ?_))
  have ZF := H7.Z.setRow (wc ({ s with p := { s.p with ep := v0, ln := 2 } } : Wk))
  refine bodyPost_ret (v := .tuple #[wv ({ s with p := { s.p with ep := v0, ln := 2 } } : Wk), .int .i64 0, .bool true]) ?_ rfl ?_
  · exact Rw.results_cell_slot2 (p := 6) (q := 7) (r := 8) (ty := 34) Try.results26 _ _ (w.heap.size + 1) 34 _ (0, 0) _ rfl ZF Try.underlying34 rfl (by kernel_rfl)
  · have e1 := HV.out
    subst e1
    exact ⟨rfl, H7.fin _⟩
set_option maxRecDepth 10000 in
set_option maxHeartbeats 4000000 in
theorem rep70 {B : Nat} {w : World} {g gl cap : Nat} {c : Cfg} {a : Acc} {L : List Int} (M : RefMem B w g c a gl cap L) (s : Wk) (hm : L.length ≤ 1000) (hL : WR L) (hf : c.Wf) (wk : Int) (hl : s.p.ln = 70) : Calls Try.prog 26 #[.pointer (some ⟨g, 0, none⟩), .int .i64 wk, wv s] w (RPost B g gl cap c ⟨acc L 1 0 0 0, L, { s.p with v := ldV L 0, j := 0, ln := 71 }, 0, true⟩ s w) := by
  have f0 : ∀ s : Wk, (wc s)[0]? = some (.int .i64 s.p.ln) := fun _ => rfl
  have f25 : ∀ s : Wk, (wc s)[25]? = some (.int .u64 s.p.v) := fun _ => rfl
  have f28 : ∀ s : Wk, (wc s)[28]? = some (.int .i64 s.p.j) := fun _ => rfl
  have t1 : (s.p.ln == 1) = false := by simp [hl]
  have t2 : (s.p.ln == 2) = false := by simp [hl]
  have t3 : (s.p.ln == 3) = false := by simp [hl]
  have t70 : (s.p.ln == 70) = true := by simp [hl]
  have H0 := RX.start M s
  have hba := build_acc0
  have x0 := H0.X.cells
  have c9 : ((w.alloc (.cells (wc s) 34)).alloc (.cells (wc wz) 34)).cell? ⟨g, 9, none⟩ = some (.int .i64 a.kd) := H0.M.B.cells 9
  have c10 : ((w.alloc (.cells (wc s) 34)).alloc (.cells (wc wz) 34)).cell? ⟨g, 10, none⟩ = some (.int .i64 a.at_) := H0.M.B.cells 10
  have c11 : ((w.alloc (.cells (wc s) 34)).alloc (.cells (wc wz) 34)).cell? ⟨g, 11, none⟩ = some (.int .u64 a.x) := H0.M.B.cells 11
  have c12 : ((w.alloc (.cells (wc s) 34)).alloc (.cells (wc wz) 34)).cell? ⟨g, 12, none⟩ = some (.int .u64 a.y) := H0.M.B.cells 12
  have c13 : ((w.alloc (.cells (wc s) 34)).alloc (.cells (wc wz) 34)).cell? ⟨g, 13, none⟩ = some (.int .u64 a.old) := H0.M.B.cells 13
  obtain ⟨w1, hw1⟩ : ∃ u, u = (w.alloc (.cells (wc s) 34)).alloc (.cells (wc wz) 34) := ⟨_, rfl⟩
  rw [← hw1] at H0 x0 c9 c10 c11 c12 c13
  have ZA := Bk.new w1 #[.int .i64 0, .int .i64 0, .int .u64 0, .int .u64 0, .int .u64 0] 48
  have ZB := ZA.setRow #[.int .i64 a.kd, .int .i64 a.at_, .int .u64 a.x, .int .u64 a.y, .int .u64 a.old]
  have bA : Below w1.heap.size w1 ((w1.alloc (.cells #[.int .i64 0, .int .i64 0, .int .u64 0, .int .u64 0, .int .u64 0] 48)).setRow w1.heap.size #[.int .i64 a.kd, .int .i64 a.at_, .int .u64 a.x, .int .u64 a.y, .int .u64 a.old]) := below_setRow ((Below.refl _ _).alloc (Nat.le_refl _) _) (Nat.le_refl _) _
  have H1 := H0.keep bA
  have sA := bA.size
  have lg0 := H0.M.lt
  obtain ⟨w2, hw2⟩ : ∃ u, u = (w1.alloc (.cells #[.int .i64 0, .int .i64 0, .int .u64 0, .int .u64 0, .int .u64 0] 48)).setRow w1.heap.size #[.int .i64 a.kd, .int .i64 a.at_, .int .u64 a.x, .int .u64 a.y, .int .u64 a.old] := ⟨_, rfl⟩
  rw [← hw2] at H1 ZB sA
  have H2 := H1.wipe
  have ZC := ZB.setRow_far (g' := g) (by omega) (rc c a0 ⟨some ⟨gl, 0, none⟩, L.length, cap⟩)
  obtain ⟨w3, hw3⟩ : ∃ u, u = w2.setRow g (rc c a0 ⟨some ⟨gl, 0, none⟩, L.length, cap⟩) := ⟨_, rfl⟩
  rw [← hw3] at H2 ZC
  have x2 := H2.X.cells
  have HW1 := Lib.hid hw1
  have HW2 := Lib.hid hw2
  have HW3 := Lib.hid hw3
  clear hl hw1 hw2 hw3 bA
  go_enter Try.func26, Try.ntmps26
  go_wp2_with (first | ((with_reducible refine wpList_alloc_wz rfl rfl ?_); rw [← HW1.out]; clear HW1) | ((with_reducible refine wpList_alloc_acc rfl rfl ?_)) | ((refine wpList_store_row rfl 48 _ _ rfl w1.heap.size #[.int .i64 a.kd, .int .i64 a.at_, .int .u64 a.x, .int .u64 a.y, .int .u64 a.old] rfl rfl _ _ (by exact ZA) (by kernel_rfl) (by kernel_rfl) (by kernel_rfl) ?_); rw [← HW2.out]; clear HW2 ZA c9 c10 c11 c12 c13 x0) | ((with_reducible refine Sub.wpList_store_sub rfl 48 _ _ rfl g 9 #[.int .i64 0, .int .i64 0, .int .u64 0, .int .u64 0, .int .u64 0] ?_ ?_ 50 (rc c a ⟨some ⟨gl, 0, none⟩, L.length, cap⟩) (rc c a0 ⟨some ⟨gl, 0, none⟩, L.length, cap⟩) ?_ ?_ ?_ ?_ ?_ ?_); exact rfl; exact rfl; exact H1.M.B; kernel_rfl; exact Nat.le_of_ble_eq_true (by kernel_rfl); kernel_rfl; kernel_rfl; rw [← HW3.out]; clear HW3 H1 H0 ZB sA))
  refine (rload_any H2.M hm 0).mono ?_
  rintro en w4 ⟨rfl, M4, T4⟩
  have H4 := H2.mem M4 T4
  obtain ⟨v0, hv0⟩ : ∃ v, v = ldV L 0 := ⟨_, rfl⟩
  simp only [← hv0]
  have HV := Lib.hid hv0
  clear hv0 x2 M4 T4 H2
  have H5 := H4.set (s' := { s with p := { s.p with v := v0 } }) 25 (.int .u64 v0) rfl
  have xw4 := H4.X.cells
  have zw4 := H4.X.frozen
  have ew4_25 : (w4.cell? ⟨w.heap.size, 25, none⟩).isSome = true := by rw [xw4, f25]; rfl
  have H6 := H5.set (s' := { s with p := { s.p with v := v0, j := 0 } }) 28 (.int .i64 0) rfl
  have y6 : ((w4.setCell ⟨w.heap.size, 25, none⟩ (.int .u64 v0)).cell? ⟨w.heap.size, 28, none⟩).isSome = true := by rw [H5.X.cells, f28]; rfl
  have H7 := H6.set (s' := { s with p := { s.p with v := v0, j := 0, ln := 71 } }) 0 (.int .i64 71) rfl
  have y7 : (((w4.setCell ⟨w.heap.size, 25, none⟩ (.int .u64 v0)).setCell ⟨w.heap.size, 28, none⟩ (.int .i64 0)).cell? ⟨w.heap.size, 0, none⟩).isSome = true := by rw [H6.X.cells, f0]; rfl
  go_wp2_with (first | (refine wpList_load_row rfl 34 _ rfl w.heap.size rfl _ (wc ({ s with p := { s.p with v := v0, j := 0, ln := 71 } } : Wk)) (0, 0) _ (by exact H7.X) Try.underlying34 rfl (by kernel_rfl) ?_) | (refine wpList_store_row rfl 34 _ _ rfl (w.heap.size + 1) (wc ({ s with p := { s.p with v := v0, j := 0, ln := 71 } } : Wk)) rfl rfl _ _ (by exact H7.Z) (by kernel_rfl) (by kernel_rfl) (by kernel_rfl) ?_))
  have ZF := H7.Z.setRow (wc ({ s with p := { s.p with v := v0, j := 0, ln := 71 } } : Wk))
  refine bodyPost_ret (v := .tuple #[wv ({ s with p := { s.p with v := v0, j := 0, ln := 71 } } : Wk), .int .i64 0, .bool true]) ?_ rfl ?_
  · exact Rw.results_cell_slot2 (p := 6) (q := 7) (r := 8) (ty := 34) Try.results26 _ _ (w.heap.size + 1) 34 _ (0, 0) _ rfl ZF Try.underlying34 rfl (by kernel_rfl)
  · have e1 := HV.out
    subst e1
    exact ⟨rfl, H7.fin _⟩
set_option maxRecDepth 10000 in
set_option maxHeartbeats 4000000 in
theorem rep71a {B : Nat} {w : World} {g gl cap : Nat} {c : Cfg} {a : Acc} {L : List Int} (M : RefMem B w g c a gl cap L) (s : Wk) (hm : L.length ≤ 1000) (hL : WR L) (hf : c.Wf) (wk : Int) (hl : s.p.ln = 71) (ho : epOther (ldV L (aAnn c s.p.j)) s.p.v = true) : Calls Try.prog 26 #[.pointer (some ⟨g, 0, none⟩), .int .i64 wk, wv s] w (RPost B g gl cap c ⟨acc L 1 (aAnn c s.p.j) 0 0, L, { s.p with ln := 0 }, 2, true⟩ s w) := by
  have HO := Lib.hid ho
  have hv := ldV_wr hL (aAnn c s.p.j)
  clear ho
  have f0 : ∀ s : Wk, (wc s)[0]? = some (.int .i64 s.p.ln) := fun _ => rfl
  have f25 : ∀ s : Wk, (wc s)[25]? = some (.int .u64 s.p.v) := fun _ => rfl
  have f28 : ∀ s : Wk, (wc s)[28]? = some (.int .i64 s.p.j) := fun _ => rfl
  have t1 : (s.p.ln == 1) = false := by simp [hl]
  have t2 : (s.p.ln == 2) = false := by simp [hl]
  have t3 : (s.p.ln == 3) = false := by simp [hl]
  have t70 : (s.p.ln == 70) = false := by simp [hl]
  have t71 : (s.p.ln == 71) = true := by simp [hl]
  have H0 := RX.start M s
  have hba := build_acc0
  have x0 := H0.X.cells
  have c9 : ((w.alloc (.cells (wc s) 34)).alloc (.cells (wc wz) 34)).cell? ⟨g, 9, none⟩ = some (.int .i64 a.kd) := H0.M.B.cells 9
  have c10 : ((w.alloc (.cells (wc s) 34)).alloc (.cells (wc wz) 34)).cell? ⟨g, 10, none⟩ = some (.int .i64 a.at_) := H0.M.B.cells 10
  have c11 : ((w.alloc (.cells (wc s) 34)).alloc (.cells (wc wz) 34)).cell? ⟨g, 11, none⟩ = some (.int .u64 a.x) := H0.M.B.cells 11
  have c12 : ((w.alloc (.cells (wc s) 34)).alloc (.cells (wc wz) 34)).cell? ⟨g, 12, none⟩ = some (.int .u64 a.y) := H0.M.B.cells 12
  have c13 : ((w.alloc (.cells (wc s) 34)).alloc (.cells (wc wz) 34)).cell? ⟨g, 13, none⟩ = some (.int .u64 a.old) := H0.M.B.cells 13
  obtain ⟨w1, hw1⟩ : ∃ u, u = (w.alloc (.cells (wc s) 34)).alloc (.cells (wc wz) 34) := ⟨_, rfl⟩
  rw [← hw1] at H0 x0 c9 c10 c11 c12 c13
  have ZA := Bk.new w1 #[.int .i64 0, .int .i64 0, .int .u64 0, .int .u64 0, .int .u64 0] 48
  have ZB := ZA.setRow #[.int .i64 a.kd, .int .i64 a.at_, .int .u64 a.x, .int .u64 a.y, .int .u64 a.old]
  have bA : Below w1.heap.size w1 ((w1.alloc (.cells #[.int .i64 0, .int .i64 0, .int .u64 0, .int .u64 0, .int .u64 0] 48)).setRow w1.heap.size #[.int .i64 a.kd, .int .i64 a.at_, .int .u64 a.x, .int .u64 a.y, .int .u64 a.old]) := below_setRow ((Below.refl _ _).alloc (Nat.le_refl _) _) (Nat.le_refl _) _
  have H1 := H0.keep bA
  have sA := bA.size
  have lg0 := H0.M.lt
  obtain ⟨w2, hw2⟩ : ∃ u, u = (w1.alloc (.cells #[.int .i64 0, .int .i64 0, .int .u64 0, .int .u64 0, .int .u64 0] 48)).setRow w1.heap.size #[.int .i64 a.kd, .int .i64 a.at_, .int .u64 a.x, .int .u64 a.y, .int .u64 a.old] := ⟨_, rfl⟩
  rw [← hw2] at H1 ZB sA
  have H2 := H1.wipe
  have ZC := ZB.setRow_far (g' := g) (by omega) (rc c a0 ⟨some ⟨gl, 0, none⟩, L.length, cap⟩)
  obtain ⟨w3, hw3⟩ : ∃ u, u = w2.setRow g (rc c a0 ⟨some ⟨gl, 0, none⟩, L.length, cap⟩) := ⟨_, rfl⟩
  rw [← hw3] at H2 ZC
  have x2 := H2.X.cells
  have HW1 := Lib.hid hw1
  have HW2 := Lib.hid hw2
  have HW3 := Lib.hid hw3
  clear hl hw1 hw2 hw3 bA
  go_enter Try.func26, Try.ntmps26
  go_wp2_with (first | ((with_reducible refine wpList_alloc_wz rfl rfl ?_); rw [← HW1.out]; clear HW1) | ((with_reducible refine wpList_alloc_acc rfl rfl ?_)) | ((refine wpList_store_row rfl 48 _ _ rfl w1.heap.size #[.int .i64 a.kd, .int .i64 a.at_, .int .u64 a.x, .int .u64 a.y, .int .u64 a.old] rfl rfl _ _ (by exact ZA) (by kernel_rfl) (by kernel_rfl) (by kernel_rfl) ?_); rw [← HW2.out]; clear HW2 ZA c9 c10 c11 c12 c13 x0) | ((with_reducible refine Sub.wpList_store_sub rfl 48 _ _ rfl g 9 #[.int .i64 0, .int .i64 0, .int .u64 0, .int .u64 0, .int .u64 0] ?_ ?_ 50 (rc c a ⟨some ⟨gl, 0, none⟩, L.length, cap⟩) (rc c a0 ⟨some ⟨gl, 0, none⟩, L.length, cap⟩) ?_ ?_ ?_ ?_ ?_ ?_); exact rfl; exact rfl; exact H1.M.B; kernel_rfl; exact Nat.le_of_ble_eq_true (by kernel_rfl); kernel_rfl; kernel_rfl; rw [← HW3.out]; clear HW3 H1 H0 ZB sA))
  refine (rAnnounce H2.M hf s.p.j).mono ?_
  rintro en w4 ⟨rfl, hb4⟩
  have H4 := H2.keep hb4
  clear x2 H2 hb4
  go_wp2_with fail
  refine (rload_any H4.M hm _).mono ?_
  rintro en w5 ⟨rfl, M5, T5⟩
  have H5 := H4.mem M5 T5
  obtain ⟨v0, hv0⟩ : ∃ v, v = ldV L (aAnn c s.p.j) := ⟨_, rfl⟩
  simp only [← hv0]
  rw [← hv0] at hv HO
  have HV := Lib.hid hv0
  have x5 := H5.X.cells
  clear hv0 M5 T5 H4
  have ho := HO.out
  unfold epOther at ho
  simp only [Bool.and_eq_true, decide_eq_true_eq] at ho
  have b1 : (v0 % 2 == 1) = true := by simp [ho.1]
  have b2 : (v0 / 2 != s.p.v) = true := by simp [ho.2]
  clear ho x5
  have H6 := H5.set (s' := { s with p := { s.p with ln := 0 } }) 0 (.int .i64 0) rfl
  have xw5 := H5.X.cells
  have zw5 := H5.X.frozen
  have ew5_0 : (w5.cell? ⟨w.heap.size, 0, none⟩).isSome = true := by rw [xw5, f0]; rfl
  go_wp2_with (first | (refine wpList_load_row rfl 34 _ rfl w.heap.size rfl _ (wc ({ s with p := { s.p with ln := 0 } } : Wk)) (0, 0) _ (by exact H6.X) Try.underlying34 rfl (by kernel_rfl) ?_) | (refine wpList_store_row rfl 34 _ _ rfl (w.heap.size + 1) (wc ({ s with p := { s.p with ln := 0 } } : Wk)) rfl rfl _ _ (by exact H6.Z) (by kernel_rfl) (by kernel_rfl) (by kernel_rfl) ?_))
  have ZF := H6.Z.setRow (wc ({ s with p := { s.p with ln := 0 } } : Wk))
  refine bodyPost_ret (v := .tuple #[wv ({ s with p := { s.p with ln := 0 } } : Wk), .int .i64 2, .bool true]) ?_ rfl ?_
  · exact Rw.results_cell_slot2 (p := 6) (q := 7) (r := 8) (ty := 34) Try.results26 _ _ (w.heap.size + 1) 34 _ (0, 0) _ rfl ZF Try.underlying34 rfl (by kernel_rfl)
  · have e1 := HV.out
    subst e1
    exact ⟨rfl, H6.fin _⟩
set_option maxRecDepth 10000 in
set_option maxHeartbeats 4000000 in
theorem rep71b {B : Nat} {w : World} {g gl cap : Nat} {c : Cfg} {a : Acc} {L : List Int} (M : RefMem B w g c a gl cap L) (s : Wk) (hm : L.length ≤ 1000) (hL : WR L) (hf : c.Wf) (wk : Int) (hl : s.p.ln = 71) (ho : epOther (ldV L (aAnn c s.p.j)) s.p.v = false) (hj : wrap64 (c.ww - 1) ≤ s.p.j) : Calls Try.prog 26 #[.pointer (some ⟨g, 0, none⟩), .int .i64 wk, wv s] w (RPost B g gl cap c ⟨acc L 1 (aAnn c s.p.j) 0 0, L, { s.p with j := wrap64 (s.p.j + 1), ln := 72 }, 0, true⟩ s w) := by
  have HO := Lib.hid ho
  have hv := ldV_wr hL (aAnn c s.p.j)
  clear ho
  have hd : decide (wrap64 (c.ww - 1) ≤ s.p.j) = true := by simp [hj]
  have HLL := Lib.hid hl
  clear hj
  have f0 : ∀ s : Wk, (wc s)[0]? = some (.int .i64 s.p.ln) := fun _ => rfl
  have f25 : ∀ s : Wk, (wc s)[25]? = some (.int .u64 s.p.v) := fun _ => rfl
  have f28 : ∀ s : Wk, (wc s)[28]? = some (.int .i64 s.p.j) := fun _ => rfl
  have t1 : (s.p.ln == 1) = false := by simp [hl]
  have t2 : (s.p.ln == 2) = false := by simp [hl]
  have t3 : (s.p.ln == 3) = false := by simp [hl]
  have t70 : (s.p.ln == 70) = false := by simp [hl]
  have t71 : (s.p.ln == 71) = true := by simp [hl]
  have H0 := RX.start M s
  have hba := build_acc0
  have x0 := H0.X.cells
  have c9 : ((w.alloc (.cells (wc s) 34)).alloc (.cells (wc wz) 34)).cell? ⟨g, 9, none⟩ = some (.int .i64 a.kd) := H0.M.B.cells 9
  have c10 : ((w.alloc (.cells (wc s) 34)).alloc (.cells (wc wz) 34)).cell? ⟨g, 10, none⟩ = some (.int .i64 a.at_) := H0.M.B.cells 10
  have c11 : ((w.alloc (.cells (wc s) 34)).alloc (.cells (wc wz) 34)).cell? ⟨g, 11, none⟩ = some (.int .u64 a.x) := H0.M.B.cells 11
  have c12 : ((w.alloc (.cells (wc s) 34)).alloc (.cells (wc wz) 34)).cell? ⟨g, 12, none⟩ = some (.int .u64 a.y) := H0.M.B.cells 12
  have c13 : ((w.alloc (.cells (wc s) 34)).alloc (.cells (wc wz) 34)).cell? ⟨g, 13, none⟩ = some (.int .u64 a.old) := H0.M.B.cells 13
  obtain ⟨w1, hw1⟩ : ∃ u, u = (w.alloc (.cells (wc s) 34)).alloc (.cells (wc wz) 34) := ⟨_, rfl⟩
  rw [← hw1] at H0 x0 c9 c10 c11 c12 c13
  have ZA := Bk.new w1 #[.int .i64 0, .int .i64 0, .int .u64 0, .int .u64 0, .int .u64 0] 48
  have ZB := ZA.setRow #[.int .i64 a.kd, .int .i64 a.at_, .int .u64 a.x, .int .u64 a.y, .int .u64 a.old]
  have bA : Below w1.heap.size w1 ((w1.alloc (.cells #[.int .i64 0, .int .i64 0, .int .u64 0, .int .u64 0, .int .u64 0] 48)).setRow w1.heap.size #[.int .i64 a.kd, .int .i64 a.at_, .int .u64 a.x, .int .u64 a.y, .int .u64 a.old]) := below_setRow ((Below.refl _ _).alloc (Nat.le_refl _) _) (Nat.le_refl _) _
  have H1 := H0.keep bA
  have sA := bA.size
  have lg0 := H0.M.lt
  obtain ⟨w2, hw2⟩ : ∃ u, u = (w1.alloc (.cells #[.int .i64 0, .int .i64 0, .int .u64 0, .int .u64 0, .int .u64 0] 48)).setRow w1.heap.size #[.int .i64 a.kd, .int .i64 a.at_, .int .u64 a.x, .int .u64 a.y, .int .u64 a.old] := ⟨_, rfl⟩
  rw [← hw2] at H1 ZB sA
  have H2 := H1.wipe
  have ZC := ZB.setRow_far (g' := g) (by omega) (rc c a0 ⟨some ⟨gl, 0, none⟩, L.length, cap⟩)
  obtain ⟨w3, hw3⟩ : ∃ u, u = w2.setRow g (rc c a0 ⟨some ⟨gl, 0, none⟩, L.length, cap⟩) := ⟨_, rfl⟩
  rw [← hw3] at H2 ZC
  have x2 := H2.X.cells
  have HW1 := Lib.hid hw1
  have HW2 := Lib.hid hw2
  have HW3 := Lib.hid hw3
  clear hl hw1 hw2 hw3 bA
  go_enter Try.func26, Try.ntmps26
  go_wp2_with (first | ((with_reducible refine wpList_alloc_wz rfl rfl ?_); rw [← HW1.out]; clear HW1) | ((with_reducible refine wpList_alloc_acc rfl rfl ?_)) | ((refine wpList_store_row rfl 48 _ _ rfl w1.heap.size #[.int .i64 a.kd, .int .i64 a.at_, .int .u64 a.x, .int .u64 a.y, .int .u64 a.old] rfl rfl _ _ (by exact ZA) (by kernel_rfl) (by kernel_rfl) (by kernel_rfl) ?_); rw [← HW2.out]; clear HW2 ZA c9 c10 c11 c12 c13 x0) | ((with_reducible refine Sub.wpList_store_sub rfl 48 _ _ rfl g 9 #[.int .i64 0, .int .i64 0, .int .u64 0, .int .u64 0, .int .u64 0] ?_ ?_ 50 (rc c a ⟨some ⟨gl, 0, none⟩, L.length, cap⟩) (rc c a0 ⟨some ⟨gl, 0, none⟩, L.length, cap⟩) ?_ ?_ ?_ ?_ ?_ ?_); exact rfl; exact rfl; exact H1.M.B; kernel_rfl; exact Nat.le_of_ble_eq_true (by kernel_rfl); kernel_rfl; kernel_rfl; rw [← HW3.out]; clear HW3 H1 H0 ZB sA))
  refine (rAnnounce H2.M hf s.p.j).mono ?_
  rintro en w4 ⟨rfl, hb4⟩
  have H4 := H2.keep hb4
  clear x2 H2 hb4
  go_wp2_with fail
  refine (rload_any H4.M hm _).mono ?_
  rintro en w5 ⟨rfl, M5, T5⟩
  have H5 := H4.mem M5 T5
  obtain ⟨v0, hv0⟩ : ∃ v, v = ldV L (aAnn c s.p.j) := ⟨_, rfl⟩
  simp only [← hv0]
  rw [← hv0] at hv HO
  have HV := Lib.hid hv0
  have x5 := H5.X.cells
  clear hv0 M5 T5 H4
  by_cases hb : v0 % 2 = 1
  · have b1 : (v0 % 2 == 1) = true := by simp [hb]
    have b2 : (v0 / 2 != s.p.v) = false := by
      have ho := HO.out
      unfold epOther at ho
      rw [decide_eq_true hb, Bool.true_and] at ho
      simpa using ho
    clear hb
    go_wp2
    have m5 := H5.M.B.cells
    have lx5 := H5.lt
    have lg5 := H5.M.lt.1
    refine wp_region_grown (by kernel_rfl) (by kernel_rfl) ?_
    have hg := @gcell
    repeat (go_big_quiet_step (fail))
    refine wpQuiet_nil ?_
    rintro w6 ⟨⟨_, hb6⟩, rfl⟩
    clear hg
    have H6 := H5.keep hb6
    clear x5 m5 lx5 lg5 H5 hb6
    have H7 := H6.set (s' := { s with p := { s.p with ln := 72 } }) 0 (.int .i64 72) rfl
    have xw6 := H6.X.cells
    have zw6 := H6.X.frozen
    have ew6_0 : (w6.cell? ⟨w.heap.size, 0, none⟩).isSome = true := by rw [xw6, f0]; rfl
    have H8 := H7.set (s' := { s with p := { s.p with j := wrap64 (s.p.j + 1), ln := 72 } }) 28 (.int .i64 (wrap64 (s.p.j + 1))) rfl
    have y8 : ((w6.setCell ⟨w.heap.size, 0, none⟩ (.int .i64 72)).cell? ⟨w.heap.size, 28, none⟩).isSome = true := by rw [H7.X.cells, f28]; rfl
    go_wp2_with (first | (refine wpList_load_row rfl 34 _ rfl w.heap.size rfl _ (wc ({ s with p := { s.p with j := wrap64 (s.p.j + 1), ln := 72 } } : Wk)) (0, 0) _ (by exact H8.X) Try.underlying34 rfl (by kernel_rfl) ?_) | (refine wpList_store_row rfl 34 _ _ rfl (w.heap.size + 1) (wc ({ s with p := { s.p with j := wrap64 (s.p.j + 1), ln := 72 } } : Wk)) rfl rfl _ _ (by exact H8.Z) (by kernel_rfl) (by kernel_rfl) (by kernel_rfl) ?_))
    have ZF := H8.Z.setRow (wc ({ s with p := { s.p with j := wrap64 (s.p.j + 1), ln := 72 } } : Wk))
    refine bodyPost_ret (v := .tuple #[wv ({ s with p := { s.p with j := wrap64 (s.p.j + 1), ln := 72 } } : Wk), .int .i64 0, .bool true]) ?_ rfl ?_
    · exact Rw.results_cell_slot2 (p := 6) (q := 7) (r := 8) (ty := 34) Try.results26 _ _ (w.heap.size + 1) 34 _ (0, 0) _ rfl ZF Try.underlying34 rfl (by kernel_rfl)
    · have e1 := HV.out
      subst e1
      exact ⟨rfl, H8.fin _⟩
  · have b1 : (v0 % 2 == 1) = false := by simp [hb]
    clear hb
    go_wp2
    have m5 := H5.M.B.cells
    have lx5 := H5.lt
    have lg5 := H5.M.lt.1
    refine wp_region_grown (by kernel_rfl) (by kernel_rfl) ?_
    have hg := @gcell
    repeat (go_big_quiet_step (fail))
    refine wpQuiet_nil ?_
    rintro w6 ⟨⟨_, hb6⟩, rfl⟩
    clear hg
    have H6 := H5.keep hb6
    clear x5 m5 lx5 lg5 H5 hb6
    have H7 := H6.set (s' := { s with p := { s.p with ln := 72 } }) 0 (.int .i64 72) rfl
    have xw6 := H6.X.cells
    have zw6 := H6.X.frozen
    have ew6_0 : (w6.cell? ⟨w.heap.size, 0, none⟩).isSome = true := by rw [xw6, f0]; rfl
    have H8 := H7.set (s' := { s with p := { s.p with j := wrap64 (s.p.j + 1), ln := 72 } }) 28 (.int .i64 (wrap64 (s.p.j + 1))) rfl
    have y8 : ((w6.setCell ⟨w.heap.size, 0, none⟩ (.int .i64 72)).cell? ⟨w.heap.size, 28, none⟩).isSome = true := by rw [H7.X.cells, f28]; rfl
    go_wp2_with (first | (refine wpList_load_row rfl 34 _ rfl w.heap.size rfl _ (wc ({ s with p := { s.p with j := wrap64 (s.p.j + 1), ln := 72 } } : Wk)) (0, 0) _ (by exact H8.X) Try.underlying34 rfl (by kernel_rfl) ?_) | (refine wpList_store_row rfl 34 _ _ rfl (w.heap.size + 1) (wc ({ s with p := { s.p with j := wrap64 (s.p.j + 1), ln := 72 } } : Wk)) rfl rfl _ _ (by exact H8.Z) (by kernel_rfl) (by kernel_rfl) (by kernel_rfl) ?_))
    have ZF := H8.Z.setRow (wc ({ s with p := { s.p with j := wrap64 (s.p.j + 1), ln := 72 } } : Wk))
    refine bodyPost_ret (v := .tuple #[wv ({ s with p := { s.p with j := wrap64 (s.p.j + 1), ln := 72 } } : Wk), .int .i64 0, .bool true]) ?_ rfl ?_
    · exact Rw.results_cell_slot2 (p := 6) (q := 7) (r := 8) (ty := 34) Try.results26 _ _ (w.heap.size + 1) 34 _ (0, 0) _ rfl ZF Try.underlying34 rfl (by kernel_rfl)
    · have e1 := HV.out
      subst e1
      exact ⟨rfl, H8.fin _⟩
set_option maxRecDepth 10000 in
set_option maxHeartbeats 4000000 in
theorem rep71c {B : Nat} {w : World} {g gl cap : Nat} {c : Cfg} {a : Acc} {L : List Int} (M : RefMem B w g c a gl cap L) (s : Wk) (hm : L.length ≤ 1000) (hL : WR L) (hf : c.Wf) (wk : Int) (hl : s.p.ln = 71) (ho : epOther (ldV L (aAnn c s.p.j)) s.p.v = false) (hj : ¬ wrap64 (c.ww - 1) ≤ s.p.j) : Calls Try.prog 26 #[.pointer (some ⟨g, 0, none⟩), .int .i64 wk, wv s] w (RPost B g gl cap c ⟨acc L 1 (aAnn c s.p.j) 0 0, L, { s.p with j := wrap64 (s.p.j + 1), ln := 71 }, 0, true⟩ s w) := by
  have HO := Lib.hid ho
  have hv := ldV_wr hL (aAnn c s.p.j)
  clear ho
  have hd : decide (wrap64 (c.ww - 1) ≤ s.p.j) = false := by simp; omega
  have HLL := Lib.hid hl
  clear hj
  have f0 : ∀ s : Wk, (wc s)[0]? = some (.int .i64 s.p.ln) := fun _ => rfl
  have f25 : ∀ s : Wk, (wc s)[25]? = some (.int .u64 s.p.v) := fun _ => rfl
  have f28 : ∀ s : Wk, (wc s)[28]? = some (.int .i64 s.p.j) := fun _ => rfl
  have t1 : (s.p.ln == 1) = false := by simp [hl]
  have t2 : (s.p.ln == 2) = false := by simp [hl]
  have t3 : (s.p.ln == 3) = false := by simp [hl]
  have t70 : (s.p.ln == 70) = false := by simp [hl]
  have t71 : (s.p.ln == 71) = true := by simp [hl]
  have H0 := RX.start M s
  have hba := build_acc0
  have x0 := H0.X.cells
  have c9 : ((w.alloc (.cells (wc s) 34)).alloc (.cells (wc wz) 34)).cell? ⟨g, 9, none⟩ = some (.int .i64 a.kd) := H0.M.B.cells 9
  have c10 : ((w.alloc (.cells (wc s) 34)).alloc (.cells (wc wz) 34)).cell? ⟨g, 10, none⟩ = some (.int .i64 a.at_) := H0.M.B.cells 10
  have c11 : ((w.alloc (.cells (wc s) 34)).alloc (.cells (wc wz) 34)).cell? ⟨g, 11, none⟩ = some (.int .u64 a.x) := H0.M.B.cells 11
  have c12 : ((w.alloc (.cells (wc s) 34)).alloc (.cells (wc wz) 34)).cell? ⟨g, 12, none⟩ = some (.int .u64 a.y) := H0.M.B.cells 12
  have c13 : ((w.alloc (.cells (wc s) 34)).alloc (.cells (wc wz) 34)).cell? ⟨g, 13, none⟩ = some (.int .u64 a.old) := H0.M.B.cells 13
  obtain ⟨w1, hw1⟩ : ∃ u, u = (w.alloc (.cells (wc s) 34)).alloc (.cells (wc wz) 34) := ⟨_, rfl⟩
  rw [← hw1] at H0 x0 c9 c10 c11 c12 c13
  have ZA := Bk.new w1 #[.int .i64 0, .int .i64 0, .int .u64 0, .int .u64 0, .int .u64 0] 48
  have ZB := ZA.setRow #[.int .i64 a.kd, .int .i64 a.at_, .int .u64 a.x, .int .u64 a.y, .int .u64 a.old]
  have bA : Below w1.heap.size w1 ((w1.alloc (.cells #[.int .i64 0, .int .i64 0, .int .u64 0, .int .u64 0, .int .u64 0] 48)).setRow w1.heap.size #[.int .i64 a.kd, .int .i64 a.at_, .int .u64 a.x, .int .u64 a.y, .int .u64 a.old]) := below_setRow ((Below.refl _ _).alloc (Nat.le_refl _) _) (Nat.le_refl _) _
  have H1 := H0.keep bA
  have sA := bA.size
  have lg0 := H0.M.lt
  obtain ⟨w2, hw2⟩ : ∃ u, u = (w1.alloc (.cells #[.int .i64 0, .int .i64 0, .int .u64 0, .int .u64 0, .int .u64 0] 48)).setRow w1.heap.size #[.int .i64 a.kd, .int .i64 a.at_, .int .u64 a.x, .int .u64 a.y, .int .u64 a.old] := ⟨_, rfl⟩
  rw [← hw2] at H1 ZB sA
  have H2 := H1.wipe
  have ZC := ZB.setRow_far (g' := g) (by omega) (rc c a0 ⟨some ⟨gl, 0, none⟩, L.length, cap⟩)
  obtain ⟨w3, hw3⟩ : ∃ u, u = w2.setRow g (rc c a0 ⟨some ⟨gl, 0, none⟩, L.length, cap⟩) := ⟨_, rfl⟩
  rw [← hw3] at H2 ZC
  have x2 := H2.X.cells
  have HW1 := Lib.hid hw1
  have HW2 := Lib.hid hw2
  have HW3 := Lib.hid hw3
  clear hl hw1 hw2 hw3 bA
  go_enter Try.func26, Try.ntmps26
  go_wp2_with (first | ((with_reducible refine wpList_alloc_wz rfl rfl ?_); rw [← HW1.out]; clear HW1) | ((with_reducible refine wpList_alloc_acc rfl rfl ?_)) | ((refine wpList_store_row rfl 48 _ _ rfl w1.heap.size #[.int .i64 a.kd, .int .i64 a.at_, .int .u64 a.x, .int .u64 a.y, .int .u64 a.old] rfl rfl _ _ (by exact ZA) (by kernel_rfl) (by kernel_rfl) (by kernel_rfl) ?_); rw [← HW2.out]; clear HW2 ZA c9 c10 c11 c12 c13 x0) | ((with_reducible refine Sub.wpList_store_sub rfl 48 _ _ rfl g 9 #[.int .i64 0, .int .i64 0, .int .u64 0, .int .u64 0, .int .u64 0] ?_ ?_ 50 (rc c a ⟨some ⟨gl, 0, none⟩, L.length, cap⟩) (rc c a0 ⟨some ⟨gl, 0, none⟩, L.length, cap⟩) ?_ ?_ ?_ ?_ ?_ ?_); exact rfl; exact rfl; exact H1.M.B; kernel_rfl; exact Nat.le_of_ble_eq_true (by kernel_rfl); kernel_rfl; kernel_rfl; rw [← HW3.out]; clear HW3 H1 H0 ZB sA))
  refine (rAnnounce H2.M hf s.p.j).mono ?_
  rintro en w4 ⟨rfl, hb4⟩
  have H4 := H2.keep hb4
  clear x2 H2 hb4
  go_wp2_with fail
  refine (rload_any H4.M hm _).mono ?_
  rintro en w5 ⟨rfl, M5, T5⟩
  have H5 := H4.mem M5 T5
  obtain ⟨v0, hv0⟩ : ∃ v, v = ldV L (aAnn c s.p.j) := ⟨_, rfl⟩
  simp only [← hv0]
  rw [← hv0] at hv HO
  have HV := Lib.hid hv0
  have x5 := H5.X.cells
  clear hv0 M5 T5 H4
  by_cases hb : v0 % 2 = 1
  · have b1 : (v0 % 2 == 1) = true := by simp [hb]
    have b2 : (v0 / 2 != s.p.v) = false := by
      have ho := HO.out
      unfold epOther at ho
      rw [decide_eq_true hb, Bool.true_and] at ho
      simpa using ho
    clear hb
    go_wp2
    have m5 := H5.M.B.cells
    have lx5 := H5.lt
    have lg5 := H5.M.lt.1
    refine wp_region_grown (by kernel_rfl) (by kernel_rfl) ?_
    have hg := @gcell
    repeat (go_big_quiet_step (fail))
    refine wpQuiet_nil ?_
    rintro w6 ⟨⟨_, hb6⟩, rfl⟩
    clear hg
    have H6 := H5.keep hb6
    clear x5 m5 lx5 lg5 H5 hb6
    have H8 := H6.set (s' := { s with p := { s.p with j := wrap64 (s.p.j + 1) } }) 28 (.int .i64 (wrap64 (s.p.j + 1))) rfl
    have xw6 := H6.X.cells
    have zw6 := H6.X.frozen
    have ew6_28 : (w6.cell? ⟨w.heap.size, 28, none⟩).isSome = true := by rw [xw6, f28]; rfl
    go_wp2_with (first | (refine wpList_load_row rfl 34 _ rfl w.heap.size rfl _ (wc ({ s with p := { s.p with j := wrap64 (s.p.j + 1) } } : Wk)) (0, 0) _ (by exact H8.X) Try.underlying34 rfl (by kernel_rfl) ?_) | (refine wpList_store_row rfl 34 _ _ rfl (w.heap.size + 1) (wc ({ s with p := { s.p with j := wrap64 (s.p.j + 1) } } : Wk)) rfl rfl _ _ (by exact H8.Z) (by kernel_rfl) (by kernel_rfl) (by kernel_rfl) ?_))
    have ZF := H8.Z.setRow (wc ({ s with p := { s.p with j := wrap64 (s.p.j + 1) } } : Wk))
    refine bodyPost_ret (v := .tuple #[wv ({ s with p := { s.p with j := wrap64 (s.p.j + 1) } } : Wk), .int .i64 0, .bool true]) ?_ rfl ?_
    · exact Rw.results_cell_slot2 (p := 6) (q := 7) (r := 8) (ty := 34) Try.results26 _ _ (w.heap.size + 1) 34 _ (0, 0) _ rfl ZF Try.underlying34 rfl (by kernel_rfl)
    · have e1 := HV.out
      subst e1
      have e2 : ({ s.p with j := wrap64 (s.p.j + 1), ln := 71 } : Pl) = { s.p with j := wrap64 (s.p.j + 1) } := by rw [← HLL.out]
      rw [e2]
      exact ⟨rfl, H8.fin _⟩
  · have b1 : (v0 % 2 == 1) = false := by simp [hb]
    clear hb
    go_wp2
    have m5 := H5.M.B.cells
    have lx5 := H5.lt
    have lg5 := H5.M.lt.1
    refine wp_region_grown (by kernel_rfl) (by kernel_rfl) ?_
    have hg := @gcell
    repeat (go_big_quiet_step (fail))
    refine wpQuiet_nil ?_
    rintro w6 ⟨⟨_, hb6⟩, rfl⟩
    clear hg
    have H6 := H5.keep hb6
    clear x5 m5 lx5 lg5 H5 hb6
    have H8 := H6.set (s' := { s with p := { s.p with j := wrap64 (s.p.j + 1) } }) 28 (.int .i64 (wrap64 (s.p.j + 1))) rfl
    have xw6 := H6.X.cells
    have zw6 := H6.X.frozen
    have ew6_28 : (w6.cell? ⟨w.heap.size, 28, none⟩).isSome = true := by rw [xw6, f28]; rfl
    go_wp2_with (first | (refine wpList_load_row rfl 34 _ rfl w.heap.size rfl _ (wc ({ s with p := { s.p with j := wrap64 (s.p.j + 1) } } : Wk)) (0, 0) _ (by exact H8.X) Try.underlying34 rfl (by kernel_rfl) ?_) | (refine wpList_store_row rfl 34 _ _ rfl (w.heap.size + 1) (wc ({ s with p := { s.p with j := wrap64 (s.p.j + 1) } } : Wk)) rfl rfl _ _ (by exact H8.Z) (by kernel_rfl) (by kernel_rfl) (by kernel_rfl) ?_))
    have ZF := H8.Z.setRow (wc ({ s with p := { s.p with j := wrap64 (s.p.j + 1) } } : Wk))
    refine bodyPost_ret (v := .tuple #[wv ({ s with p := { s.p with j := wrap64 (s.p.j + 1) } } : Wk), .int .i64 0, .bool true]) ?_ rfl ?_
    · exact Rw.results_cell_slot2 (p := 6) (q := 7) (r := 8) (ty := 34) Try.results26 _ _ (w.heap.size + 1) 34 _ (0, 0) _ rfl ZF Try.underlying34 rfl (by kernel_rfl)
    · have e1 := HV.out
      subst e1
      have e2 : ({ s.p with j := wrap64 (s.p.j + 1), ln := 71 } : Pl) = { s.p with j := wrap64 (s.p.j + 1) } := by rw [← HLL.out]
      rw [e2]
      exact ⟨rfl, H8.fin _⟩
set_option maxRecDepth 10000 in
set_option maxHeartbeats 4000000 in
theorem rep72y {B : Nat} {w : World} {g gl cap : Nat} {c : Cfg} {a : Acc} {L : List Int} (M : RefMem B w g c a gl cap L) (s : Wk) (hm : L.length ≤ 1000) (hL : WR L) (hf : c.Wf) (wk : Int) (hl : s.p.ln = 72) (hb : csB L 0 s.p.v = true) : Calls Try.prog 26 #[.pointer (some ⟨g, 0, none⟩), .int .i64 wk, wv s] w (RPost B g gl cap c ⟨acc L 3 0 s.p.v (IntKind.u64.wrap (s.p.v + 1)), csL L 0 s.p.v (IntKind.u64.wrap (s.p.v + 1)), { s.p with ln := 0 }, 1, true⟩ s w) := by
  have HB := Lib.hid hb
  clear hb
  have f0 : ∀ s : Wk, (wc s)[0]? = some (.int .i64 s.p.ln) := fun _ => rfl
  have f25 : ∀ s : Wk, (wc s)[25]? = some (.int .u64 s.p.v) := fun _ => rfl
  have t1 : (s.p.ln == 1) = false := by simp [hl]
  have t2 : (s.p.ln == 2) = false := by simp [hl]
  have t3 : (s.p.ln == 3) = false := by simp [hl]
  have t70 : (s.p.ln == 70) = false := by simp [hl]
  have t71 : (s.p.ln == 71) = false := by simp [hl]
  have t72 : (s.p.ln == 72) = true := by simp [hl]
  have H0 := RX.start M s
  have hba := build_acc0
  have x0 := H0.X.cells
  have c9 : ((w.alloc (.cells (wc s) 34)).alloc (.cells (wc wz) 34)).cell? ⟨g, 9, none⟩ = some (.int .i64 a.kd) := H0.M.B.cells 9
  have c10 : ((w.alloc (.cells (wc s) 34)).alloc (.cells (wc wz) 34)).cell? ⟨g, 10, none⟩ = some (.int .i64 a.at_) := H0.M.B.cells 10
  have c11 : ((w.alloc (.cells (wc s) 34)).alloc (.cells (wc wz) 34)).cell? ⟨g, 11, none⟩ = some (.int .u64 a.x) := H0.M.B.cells 11
  have c12 : ((w.alloc (.cells (wc s) 34)).alloc (.cells (wc wz) 34)).cell? ⟨g, 12, none⟩ = some (.int .u64 a.y) := H0.M.B.cells 12
  have c13 : ((w.alloc (.cells (wc s) 34)).alloc (.cells (wc wz) 34)).cell? ⟨g, 13, none⟩ = some (.int .u64 a.old) := H0.M.B.cells 13
  obtain ⟨w1, hw1⟩ : ∃ u, u = (w.alloc (.cells (wc s) 34)).alloc (.cells (wc wz) 34) := ⟨_, rfl⟩
  rw [← hw1] at H0 x0 c9 c10 c11 c12 c13
  have ZA := Bk.new w1 #[.int .i64 0, .int .i64 0, .int .u64 0, .int .u64 0, .int .u64 0] 48
  have ZB := ZA.setRow #[.int .i64 a.kd, .int .i64 a.at_, .int .u64 a.x, .int .u64 a.y, .int .u64 a.old]
  have bA : Below w1.heap.size w1 ((w1.alloc (.cells #[.int .i64 0, .int .i64 0, .int .u64 0, .int .u64 0, .int .u64 0] 48)).setRow w1.heap.size #[.int .i64 a.kd, .int .i64 a.at_, .int .u64 a.x, .int .u64 a.y, .int .u64 a.old]) := below_setRow ((Below.refl _ _).alloc (Nat.le_refl _) _) (Nat.le_refl _) _
  have H1 := H0.keep bA
  have sA := bA.size
  have lg0 := H0.M.lt
  obtain ⟨w2, hw2⟩ : ∃ u, u = (w1.alloc (.cells #[.int .i64 0, .int .i64 0, .int .u64 0, .int .u64 0, .int .u64 0] 48)).setRow w1.heap.size #[.int .i64 a.kd, .int .i64 a.at_, .int .u64 a.x, .int .u64 a.y, .int .u64 a.old] := ⟨_, rfl⟩
  rw [← hw2] at H1 ZB sA
  have H2 := H1.wipe
  have ZC := ZB.setRow_far (g' := g) (by omega) (rc c a0 ⟨some ⟨gl, 0, none⟩, L.length, cap⟩)
  obtain ⟨w3, hw3⟩ : ∃ u, u = w2.setRow g (rc c a0 ⟨some ⟨gl, 0, none⟩, L.length, cap⟩) := ⟨_, rfl⟩
  rw [← hw3] at H2 ZC
  have x2 := H2.X.cells
  have H3 := H2.set (s' := { s with p := { s.p with ln := 0 } }) 0 (.int .i64 0) rfl
  have xw3 := H2.X.cells
  have zw3 := H2.X.frozen
  have ew3_0 : (w3.cell? ⟨w.heap.size, 0, none⟩).isSome = true := by rw [xw3, f0]; rfl
  have x3 := H3.X.cells
  have HW1 := Lib.hid hw1
  have HW2 := Lib.hid hw2
  have HW3 := Lib.hid hw3
  clear hl hw1 hw2 hw3 bA
  go_enter Try.func26, Try.ntmps26
  go_wp2_with (first | ((with_reducible refine wpList_alloc_wz rfl rfl ?_); rw [← HW1.out]; clear HW1) | ((with_reducible refine wpList_alloc_acc rfl rfl ?_)) | ((refine wpList_store_row rfl 48 _ _ rfl w1.heap.size #[.int .i64 a.kd, .int .i64 a.at_, .int .u64 a.x, .int .u64 a.y, .int .u64 a.old] rfl rfl _ _ (by exact ZA) (by kernel_rfl) (by kernel_rfl) (by kernel_rfl) ?_); rw [← HW2.out]; clear HW2 ZA c9 c10 c11 c12 c13 x0) | ((with_reducible refine Sub.wpList_store_sub rfl 48 _ _ rfl g 9 #[.int .i64 0, .int .i64 0, .int .u64 0, .int .u64 0, .int .u64 0] ?_ ?_ 50 (rc c a ⟨some ⟨gl, 0, none⟩, L.length, cap⟩) (rc c a0 ⟨some ⟨gl, 0, none⟩, L.length, cap⟩) ?_ ?_ ?_ ?_ ?_ ?_); exact rfl; exact rfl; exact H1.M.B; kernel_rfl; exact Nat.le_of_ble_eq_true (by kernel_rfl); kernel_rfl; kernel_rfl; rw [← HW3.out]; clear HW3 H1 H0 ZB sA))
  have hcas := rcas_any H3.M hm 0 s.p.v (IntKind.u64.wrap (s.p.v + 1))
  rw [HB.out] at hcas
  have HCA := Lib.hid hcas
  clear hcas
  refine HCA.out.mono ?_
  rintro en w5 ⟨rfl, M5, T5⟩
  have H5 := H3.mem M5 T5
  clear HCA M5 T5 H3 H2 x2 x3 xw3 zw3 ew3_0
  go_wp2_with (first | (refine wpList_load_row rfl 34 _ rfl w.heap.size rfl _ (wc ({ s with p := { s.p with ln := 0 } } : Wk)) (0, 0) _ (by exact H5.X) Try.underlying34 rfl (by kernel_rfl) ?_) | (refine wpList_store_row rfl 34 _ _ rfl (w.heap.size + 1) (wc ({ s with p := { s.p with ln := 0 } } : Wk)) rfl rfl _ _ (by exact H5.Z) (by kernel_rfl) (by kernel_rfl) (by kernel_rfl) ?_))
  have ZF := H5.Z.setRow (wc ({ s with p := { s.p with ln := 0 } } : Wk))
  refine bodyPost_ret (v := .tuple #[wv ({ s with p := { s.p with ln := 0 } } : Wk), .int .i64 1, .bool true]) ?_ rfl ?_
  · exact Rw.results_cell_slot2 (p := 6) (q := 7) (r := 8) (ty := 34) Try.results26 _ _ (w.heap.size + 1) 34 _ (0, 0) _ rfl ZF Try.underlying34 rfl (by kernel_rfl)
  · exact ⟨rfl, H5.fin _⟩
set_option maxRecDepth 10000 in
set_option maxHeartbeats 4000000 in
theorem rep72n {B : Nat} {w : World} {g gl cap : Nat} {c : Cfg} {a : Acc} {L : List Int} (M : RefMem B w g c a gl cap L) (s : Wk) (hm : L.length ≤ 1000) (hL : WR L) (hf : c.Wf) (wk : Int) (hl : s.p.ln = 72) (hb : csB L 0 s.p.v = false) : Calls Try.prog 26 #[.pointer (some ⟨g, 0, none⟩), .int .i64 wk, wv s] w (RPost B g gl cap c ⟨acc L 3 0 s.p.v (IntKind.u64.wrap (s.p.v + 1)), csL L 0 s.p.v (IntKind.u64.wrap (s.p.v + 1)), { s.p with ln := 0 }, 2, true⟩ s w) := by
  have HB := Lib.hid hb
  clear hb
  have f0 : ∀ s : Wk, (wc s)[0]? = some (.int .i64 s.p.ln) := fun _ => rfl
  have f25 : ∀ s : Wk, (wc s)[25]? = some (.int .u64 s.p.v) := fun _ => rfl
  have t1 : (s.p.ln == 1) = false := by simp [hl]
  have t2 : (s.p.ln == 2) = false := by simp [hl]
  have t3 : (s.p.ln == 3) = false := by simp [hl]
  have t70 : (s.p.ln == 70) = false := by simp [hl]
  have t71 : (s.p.ln == 71) = false := by simp [hl]
  have t72 : (s.p.ln == 72) = true := by simp [hl]
  have H0 := RX.start M s
  have hba := build_acc0
  have x0 := H0.X.cells
  have c9 : ((w.alloc (.cells (wc s) 34)).alloc (.cells (wc wz) 34)).cell? ⟨g, 9, none⟩ = some (.int .i64 a.kd) := H0.M.B.cells 9
  have c10 : ((w.alloc (.cells (wc s) 34)).alloc (.cells (wc wz) 34)).cell? ⟨g, 10, none⟩ = some (.int .i64 a.at_) := H0.M.B.cells 10
  have c11 : ((w.alloc (.cells (wc s) 34)).alloc (.cells (wc wz) 34)).cell? ⟨g, 11, none⟩ = some (.int .u64 a.x) := H0.M.B.cells 11
  have c12 : ((w.alloc (.cells (wc s) 34)).alloc (.cells (wc wz) 34)).cell? ⟨g, 12, none⟩ = some (.int .u64 a.y) := H0.M.B.cells 12
  have c13 : ((w.alloc (.cells (wc s) 34)).alloc (.cells (wc wz) 34)).cell? ⟨g, 13, none⟩ = some (.int .u64 a.old) := H0.M.B.cells 13
  obtain ⟨w1, hw1⟩ : ∃ u, u = (w.alloc (.cells (wc s) 34)).alloc (.cells (wc wz) 34) := ⟨_, rfl⟩
  rw [← hw1] at H0 x0 c9 c10 c11 c12 c13
  have ZA := Bk.new w1 #[.int .i64 0, .int .i64 0, .int .u64 0, .int .u64 0, .int .u64 0] 48
  have ZB := ZA.setRow #[.int .i64 a.kd, .int .i64 a.at_, .int .u64 a.x, .int .u64 a.y, .int .u64 a.old]
  have bA : Below w1.heap.size w1 ((w1.alloc (.cells #[.int .i64 0, .int .i64 0, .int .u64 0, .int .u64 0, .int .u64 0] 48)).setRow w1.heap.size #[.int .i64 a.kd, .int .i64 a.at_, .int .u64 a.x, .int .u64 a.y, .int .u64 a.old]) := below_setRow ((Below.refl _ _).alloc (Nat.le_refl _) _) (Nat.le_refl _) _
  have H1 := H0.keep bA
  have sA := bA.size
  have lg0 := H0.M.lt
  obtain ⟨w2, hw2⟩ : ∃ u, u = (w1.alloc (.cells #[.int .i64 0, .int .i64 0, .int .u64 0, .int .u64 0, .int .u64 0] 48)).setRow w1.heap.size #[.int .i64 a.kd, .int .i64 a.at_, .int .u64 a.x, .int .u64 a.y, .int .u64 a.old] := ⟨_, rfl⟩
  rw [← hw2] at H1 ZB sA
  have H2 := H1.wipe
  have ZC := ZB.setRow_far (g' := g) (by omega) (rc c a0 ⟨some ⟨gl, 0, none⟩, L.length, cap⟩)
  obtain ⟨w3, hw3⟩ : ∃ u, u = w2.setRow g (rc c a0 ⟨some ⟨gl, 0, none⟩, L.length, cap⟩) := ⟨_, rfl⟩
  rw [← hw3] at H2 ZC
  have x2 := H2.X.cells
  have H3 := H2.set (s' := { s with p := { s.p with ln := 0 } }) 0 (.int .i64 0) rfl
  have xw3 := H2.X.cells
  have zw3 := H2.X.frozen
  have ew3_0 : (w3.cell? ⟨w.heap.size, 0, none⟩).isSome = true := by rw [xw3, f0]; rfl
  have x3 := H3.X.cells
  have HW1 := Lib.hid hw1
  have HW2 := Lib.hid hw2
  have HW3 := Lib.hid hw3
  clear hl hw1 hw2 hw3 bA
  go_enter Try.func26, Try.ntmps26
  go_wp2_with (first | ((with_reducible refine wpList_alloc_wz rfl rfl ?_); rw [← HW1.out]; clear HW1) | ((with_reducible refine wpList_alloc_acc rfl rfl ?_)) | ((refine wpList_store_row rfl 48 _ _ rfl w1.heap.size #[.int .i64 a.kd, .int .i64 a.at_, .int .u64 a.x, .int .u64 a.y, .int .u64 a.old] rfl rfl _ _ (by exact ZA) (by kernel_rfl) (by kernel_rfl) (by kernel_rfl) ?_); rw [← HW2.out]; clear HW2 ZA c9 c10 c11 c12 c13 x0) | ((with_reducible refine Sub.wpList_store_sub rfl 48 _ _ rfl g 9 #[.int .i64 0, .int .i64 0, .int .u64 0, .int .u64 0, .int .u64 0] ?_ ?_ 50 (rc c a ⟨some ⟨gl, 0, none⟩, L.length, cap⟩) (rc c a0 ⟨some ⟨gl, 0, none⟩, L.length, cap⟩) ?_ ?_ ?_ ?_ ?_ ?_); exact rfl; exact rfl; exact H1.M.B; kernel_rfl; exact Nat.le_of_ble_eq_true (by kernel_rfl); kernel_rfl; kernel_rfl; rw [← HW3.out]; clear HW3 H1 H0 ZB sA))
  have hcas := rcas_any H3.M hm 0 s.p.v (IntKind.u64.wrap (s.p.v + 1))
  rw [HB.out] at hcas
  have HCA := Lib.hid hcas
  clear hcas
  refine HCA.out.mono ?_
  rintro en w5 ⟨rfl, M5, T5⟩
  have H5 := H3.mem M5 T5
  clear HCA M5 T5 H3 H2 x2 x3 xw3 zw3 ew3_0
  go_wp2_with (first | (refine wpList_load_row rfl 34 _ rfl w.heap.size rfl _ (wc ({ s with p := { s.p with ln := 0 } } : Wk)) (0, 0) _ (by exact H5.X) Try.underlying34 rfl (by kernel_rfl) ?_) | (refine wpList_store_row rfl 34 _ _ rfl (w.heap.size + 1) (wc ({ s with p := { s.p with ln := 0 } } : Wk)) rfl rfl _ _ (by exact H5.Z) (by kernel_rfl) (by kernel_rfl) (by kernel_rfl) ?_))
  have ZF := H5.Z.setRow (wc ({ s with p := { s.p with ln := 0 } } : Wk))
  refine bodyPost_ret (v := .tuple #[wv ({ s with p := { s.p with ln := 0 } } : Wk), .int .i64 2, .bool true]) ?_ rfl ?_
  · exact Rw.results_cell_slot2 (p := 6) (q := 7) (r := 8) (ty := 34) Try.results26 _ _ (w.heap.size + 1) 34 _ (0, 0) _ rfl ZF Try.underlying34 rfl (by kernel_rfl)
  · exact ⟨rfl, H5.fin _⟩
set_option maxRecDepth 10000 in
set_option maxHeartbeats 4000000 in
theorem repNone {B : Nat} {w : World} {g gl cap : Nat} {c : Cfg} {a : Acc} {L : List Int} (M : RefMem B w g c a gl cap L) (s : Wk) (hm : L.length ≤ 1000) (hL : WR L) (hf : c.Wf) (wk : Int) (hl : s.p.ln ≠ 1 ∧ s.p.ln ≠ 2 ∧ s.p.ln ≠ 3 ∧ s.p.ln ≠ 70 ∧ s.p.ln ≠ 71 ∧ s.p.ln ≠ 72 ∧ s.p.ln ≠ 90) : Calls Try.prog 26 #[.pointer (some ⟨g, 0, none⟩), .int .i64 wk, wv s] w (RPost B g gl cap c ⟨a, L, s.p, 0, false⟩ s w) := by
  have f0 : ∀ s : Wk, (wc s)[0]? = some (.int .i64 s.p.ln) := fun _ => rfl
  have t1 : (s.p.ln == 1) = false := by simp; omega
  have t2 : (s.p.ln == 2) = false := by simp; omega
  have t3 : (s.p.ln == 3) = false := by simp; omega
  have t70 : (s.p.ln == 70) = false := by simp; omega
  have t71 : (s.p.ln == 71) = false := by simp; omega
  have t72 : (s.p.ln == 72) = false := by simp; omega
  have t90 : (s.p.ln == 90) = false := by simp; omega
  have H0 := RX.start M s
  have hba := build_acc0
  have x0 := H0.X.cells
  have c9 : ((w.alloc (.cells (wc s) 34)).alloc (.cells (wc wz) 34)).cell? ⟨g, 9, none⟩ = some (.int .i64 a.kd) := H0.M.B.cells 9
  have c10 : ((w.alloc (.cells (wc s) 34)).alloc (.cells (wc wz) 34)).cell? ⟨g, 10, none⟩ = some (.int .i64 a.at_) := H0.M.B.cells 10
  have c11 : ((w.alloc (.cells (wc s) 34)).alloc (.cells (wc wz) 34)).cell? ⟨g, 11, none⟩ = some (.int .u64 a.x) := H0.M.B.cells 11
  have c12 : ((w.alloc (.cells (wc s) 34)).alloc (.cells (wc wz) 34)).cell? ⟨g, 12, none⟩ = some (.int .u64 a.y) := H0.M.B.cells 12
  have c13 : ((w.alloc (.cells (wc s) 34)).alloc (.cells (wc wz) 34)).cell? ⟨g, 13, none⟩ = some (.int .u64 a.old) := H0.M.B.cells 13
  obtain ⟨w1, hw1⟩ : ∃ u, u = (w.alloc (.cells (wc s) 34)).alloc (.cells (wc wz) 34) := ⟨_, rfl⟩
  rw [← hw1] at H0 x0 c9 c10 c11 c12 c13
  have ZA := Bk.new w1 #[.int .i64 0, .int .i64 0, .int .u64 0, .int .u64 0, .int .u64 0] 48
  have ZB := ZA.setRow #[.int .i64 a.kd, .int .i64 a.at_, .int .u64 a.x, .int .u64 a.y, .int .u64 a.old]
  have bA : Below w1.heap.size w1 ((w1.alloc (.cells #[.int .i64 0, .int .i64 0, .int .u64 0, .int .u64 0, .int .u64 0] 48)).setRow w1.heap.size #[.int .i64 a.kd, .int .i64 a.at_, .int .u64 a.x, .int .u64 a.y, .int .u64 a.old]) := below_setRow ((Below.refl _ _).alloc (Nat.le_refl _) _) (Nat.le_refl _) _
  have H1 := H0.keep bA
  have sA := bA.size
  have lg0 := H0.M.lt
  obtain ⟨w2, hw2⟩ : ∃ u, u = (w1.alloc (.cells #[.int .i64 0, .int .i64 0, .int .u64 0, .int .u64 0, .int .u64 0] 48)).setRow w1.heap.size #[.int .i64 a.kd, .int .i64 a.at_, .int .u64 a.x, .int .u64 a.y, .int .u64 a.old] := ⟨_, rfl⟩
  rw [← hw2] at H1 ZB sA
  have H2 := H1.wipe
  have ZC := ZB.setRow_far (g' := g) (by omega) (rc c a0 ⟨some ⟨gl, 0, none⟩, L.length, cap⟩)
  obtain ⟨w3, hw3⟩ : ∃ u, u = w2.setRow g (rc c a0 ⟨some ⟨gl, 0, none⟩, L.length, cap⟩) := ⟨_, rfl⟩
  rw [← hw3] at H2 ZC
  have x2 := H2.X.cells
  have HE := H2.mem (H2.M.seen a) ((Touch.refl g gl w3).setRow (rc c a ⟨some ⟨gl, 0, none⟩, L.length, cap⟩))
  have zc := ZC.cells
  have HW1 := Lib.hid hw1
  have HW2 := Lib.hid hw2
  have HW3 := Lib.hid hw3
  clear hl hw1 hw2 hw3 bA
  go_enter Try.func26, Try.ntmps26
  go_wp2_with (first | ((with_reducible refine wpList_alloc_wz rfl rfl ?_); rw [← HW1.out]; clear HW1) | ((with_reducible refine wpList_alloc_acc rfl rfl ?_)) | ((refine wpList_store_row rfl 48 _ _ rfl w1.heap.size #[.int .i64 a.kd, .int .i64 a.at_, .int .u64 a.x, .int .u64 a.y, .int .u64 a.old] rfl rfl _ _ (by exact ZA) (by kernel_rfl) (by kernel_rfl) (by kernel_rfl) ?_); rw [← HW2.out]; clear HW2 ZA c9 c10 c11 c12 c13 x0) | ((with_reducible refine Sub.wpList_store_sub rfl 48 _ _ rfl g 9 #[.int .i64 0, .int .i64 0, .int .u64 0, .int .u64 0, .int .u64 0] ?_ ?_ 50 (rc c a ⟨some ⟨gl, 0, none⟩, L.length, cap⟩) (rc c a0 ⟨some ⟨gl, 0, none⟩, L.length, cap⟩) ?_ ?_ ?_ ?_ ?_ ?_); exact rfl; exact rfl; exact H1.M.B; kernel_rfl; exact Nat.le_of_ble_eq_true (by kernel_rfl); kernel_rfl; kernel_rfl; rw [← HW3.out]; clear HW3 H1 H0 ZB sA) | ((with_reducible refine Sub.wpList_store_sub rfl 48 _ _ rfl g 9 #[.int .i64 a.kd, .int .i64 a.at_, .int .u64 a.x, .int .u64 a.y, .int .u64 a.old] ?_ ?_ 50 (rc c a0 ⟨some ⟨gl, 0, none⟩, L.length, cap⟩) (rc c a ⟨some ⟨gl, 0, none⟩, L.length, cap⟩) ?_ ?_ ?_ ?_ ?_ ?_); exact rfl; exact rfl; exact H2.M.B; kernel_rfl; exact Nat.le_of_ble_eq_true (by kernel_rfl); kernel_rfl; kernel_rfl) | (refine wpList_load_row rfl 34 _ rfl w.heap.size rfl _ (wc s) (0, 0) _ (by exact HE.X) Try.underlying34 rfl (by kernel_rfl) ?_) | (refine wpList_store_row rfl 34 _ _ rfl (w.heap.size + 1) (wc s) rfl rfl _ _ (by exact HE.Z) (by kernel_rfl) (by kernel_rfl) (by kernel_rfl) ?_))
  have ZF := HE.Z.setRow (wc s)
  refine bodyPost_ret (v := .tuple #[wv s, .int .i64 0, .bool false]) ?_ rfl ?_
  · exact Rw.results_cell_slot2 (p := 6) (q := 7) (r := 8) (ty := 34) Try.results26 _ _ (w.heap.size + 1) 34 _ (0, 0) _ rfl ZF Try.underlying34 rfl (by kernel_rfl)
  · exact ⟨rfl, HE.fin _⟩
/-- A step of the reference, whichever. -/
theorem rEpochStep {B : Nat} {w : World} {g gl cap : Nat} {c : Cfg} {a : Acc} {L : List Int} (M : RefMem B w g c a gl cap L) (s : Wk) (hm : L.length ≤ 1000) (hL : WR L) (hf : c.Wf) (hp : PR s.p) (wk : Int) : Calls Try.prog 26 #[.pointer (some ⟨g, 0, none⟩), .int .i64 wk, wv s] w (RPost B g gl cap c (epochLn c a L s.p wk).fin s w) := by
  unfold epochLn
  by_cases h1 : s.p.ln = 1
  · rw [if_pos h1, Res.fin0 rfl]; exact rep1 M s hm hL hf wk h1
  rw [if_neg h1]
  by_cases h2 : s.p.ln = 2
  · rw [if_pos h2, Res.fin0 rfl]; exact rep2 M s hm hL hf wk hp.ep h2
  rw [if_neg h2]
  by_cases h3 : s.p.ln = 3
  · rw [if_pos h3]
    unfold ep3
    split
    · rename_i he; rw [Res.fin1 (show (1 : Int) ≠ 0 by decide)]; exact rep3y M s hm hL hf wk h3 he
    · rename_i he; rw [Res.fin0 rfl]; exact rep3n M s hm hL hf wk h3 he
  rw [if_neg h3]
  by_cases h90 : s.p.ln = 90
  · rw [if_pos h90, Res.fin1 (show (1 : Int) ≠ 0 by decide)]; exact rep90 M s hm hL hf wk hp.ep h90
  rw [if_neg h90]
  by_cases h70 : s.p.ln = 70
  · rw [if_pos h70, Res.fin0 rfl]; exact rep70 M s hm hL hf wk h70
  rw [if_neg h70]
  by_cases h71 : s.p.ln = 71
  · rw [if_pos h71]
    unfold ep71
    cases ho : epOther (ldV L (aAnn c s.p.j)) s.p.v with
    | true => rw [if_pos rfl, Res.fin1 (show (2 : Int) ≠ 0 by decide)]; exact rep71a M s hm hL hf wk h71 ho
    | false =>
      rw [if_neg (by simp)]
      by_cases hj : wrap64 (c.ww - 1) ≤ s.p.j
      · rw [if_pos hj, Res.fin0 rfl]; exact rep71b M s hm hL hf wk h71 ho hj
      · rw [if_neg hj, Res.fin0 rfl]; exact rep71c M s hm hL hf wk h71 ho hj
  rw [if_neg h71]
  by_cases h72 : s.p.ln = 72
  · rw [if_pos h72]
    unfold ep72
    cases hb : csB L 0 s.p.v with
    | true => rw [if_pos rfl, Res.fin1 (show (1 : Int) ≠ 0 by decide)]; exact rep72y M s hm hL hf wk h72 hb
    | false => rw [if_neg (by simp), Res.fin1 (show (2 : Int) ≠ 0 by decide)]; exact rep72n M s hm hL hf wk h72 hb
  rw [if_neg h72, Res.fin0 rfl]
  exact repNone M s hm hL hf wk ⟨h1, h2, h3, h70, h71, h72, h90⟩
end Go.Proofs.Yticgpikpefgldaa.Me
