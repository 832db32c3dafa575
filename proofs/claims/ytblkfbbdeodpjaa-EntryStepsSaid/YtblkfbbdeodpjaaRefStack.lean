/- The steps of the reference of layer 6 (made by genrstack.py). -/
import Derived.Test.YtblkfbbdeodpjaaRefStep
namespace Go.Proofs.Ytblkfbbdeodpjaa.Me
open Go Go.RowKit Go.Proofs.Ytblkfbbdeodpjaa.Gro Go.Proofs.Ytblkfbbdeodpjaa.Own Go.Proofs.Ytblkfbbdeodpjaa.Wd Go.Proofs.Ytblkfbbdeodpjaa.Ap Go.Proofs.Ytblkfbbdeodpjaa.Pl Go.Proofs.Ytblkfbbdeodpjaa.Wo
set_option linter.unusedVariables false
set_option linter.unusedSimpArgs false
set_option maxRecDepth 10000 in
set_option maxHeartbeats 4000000 in
theorem rk10bn {B : Nat} {w : World} {g gl cap : Nat} {c : Cfg} {a : Acc} {L : List Int} (M : RefMem B w g c a gl cap L) (s : Wk) (hm : L.length ≤ 1000) (hL : WR L) (hl : s.p.ln = 10) (hz : low32 (ldV L 1) ≠ 0) : Calls Try.prog 89 #[.pointer (some ⟨g, 0, none⟩), wv s] w (RPost B g gl cap c ⟨acc L 1 1 0 0, L, { s.p with v := ldV L 1, h := low32 (ldV L 1), ln := 11 }, 0, true⟩ s w) := by
  have hv := ldV_wr hL 1
  have HZ := Lib.hid hz
  clear hz
  have f0 : ∀ s : Wk, (wc s)[0]? = some (.int .i64 s.p.ln) := fun _ => rfl
  have f19 : ∀ s : Wk, (wc s)[19]? = some (.int .i64 s.p.k) := fun _ => rfl
  have f20 : ∀ s : Wk, (wc s)[20]? = some (.int .i64 s.p.i) := fun _ => rfl
  have f23 : ∀ s : Wk, (wc s)[23]? = some (.int .u64 s.p.h) := fun _ => rfl
  have f25 : ∀ s : Wk, (wc s)[25]? = some (.int .u64 s.p.v) := fun _ => rfl
  have d1 : decide (20 ≤ s.p.ln) = false := by simp [hl]
  have d2 : decide (s.p.ln < 10) = false := by simp [hl]
  have d3 : decide (15 < s.p.ln) = false := by simp [hl]
  have hsub : wrap64 s.p.ln = 10 := by rw [hl]; exact IntWalk.wrap64_in _ (by omega)
  have hw1 : wrap64 (s.p.ln + 1) = 11 := by rw [hl]; exact IntWalk.wrap64_in _ (by omega)
  have H0 := RX.start M s
  have H1 := H0.wipe
  have hba := build_acc0
  have x0 := H0.X.cells
  obtain ⟨w1, hw1⟩ : ∃ u, u = (w.alloc (.cells (wc s) 46)).alloc (.cells (wc wz) 46) := ⟨_, rfl⟩
  rw [← hw1] at H0 H1 x0
  obtain ⟨w2, hw2⟩ : ∃ u, u = w1.setRow g (rc c a0 ⟨some ⟨gl, 0, none⟩, L.length, cap⟩) := ⟨_, rfl⟩
  rw [← hw2] at H1
  have x1 := H1.X.cells
  have l1 := H1.lt
  have HW1 := Lib.hid hw1
  have HW2 := Lib.hid hw2
  clear hl hw1 hw2
  go_enter Try.func89, Try.ntmps89
  go_wp2_with (first | ((with_reducible refine wpList_alloc_wz rfl rfl ?_); rw [← HW1.out]; clear HW1) | ((with_reducible refine Sub.wpList_store_sub rfl 78 _ _ rfl g 9 #[.int .i64 0, .int .i64 0, .int .u64 0, .int .u64 0, .int .u64 0] ?_ ?_ 103 (rc c a ⟨some ⟨gl, 0, none⟩, L.length, cap⟩) (rc c a0 ⟨some ⟨gl, 0, none⟩, L.length, cap⟩) ?_ ?_ ?_ ?_ ?_ ?_); exact rfl; exact rfl; exact H0.M.B; kernel_rfl; exact Nat.le_of_ble_eq_true (by kernel_rfl); kernel_rfl; kernel_rfl; rw [← HW2.out]; clear HW2 H0 x0))
  refine (rload_any H1.M hm 1).mono ?_
  rintro en w3 ⟨rfl, M3, T3⟩
  have H3 := H1.mem M3 T3
  obtain ⟨v0, hv0⟩ : ∃ v, v = ldV L 1 := ⟨_, rfl⟩
  rw [← hv0] at hv HZ
  simp only [← hv0]
  have HV := Lib.hid hv0
  clear hv0 x1 l1 M3 T3 H1
  have H4 := H3.set (s' := { s with p := { s.p with v := v0 } }) 25 (.int .u64 v0) rfl
  have xw3 := H3.X.cells
  have zw3 := H3.X.frozen
  have ew3 : (w3.cell? ⟨w.heap.size, 25, none⟩).isSome = true := by rw [xw3, f25]; rfl
  go_wp2_with fail
  generalize w3.setCell ⟨w.heap.size, 25, none⟩ (.int .u64 v0) = w4 at *
  clear xw3 zw3 ew3 H3
  refine (rLow32 v0 hv _).mono ?_
  rintro en w5 ⟨rfl, rfl⟩
  obtain ⟨u0, hu0⟩ : ∃ v, v = low32 v0 := ⟨_, rfl⟩
  rw [← hu0] at HZ
  simp only [← hu0]
  have HU := Lib.hid hu0
  clear hu0
  have H5 := H4.set (s' := { s with p := { s.p with v := v0, h := u0 } }) 23 (.int .u64 u0) rfl
  have xw4 := H4.X.cells
  have zw4 := H4.X.frozen
  have ew4 : (w4.cell? ⟨w.heap.size, 23, none⟩).isSome = true := by rw [xw4, f23]; rfl
  have tz : (u0 == 0) = false := by have := HZ.out; simp [this]
  have yw4 : ((w4.setCell ⟨w.heap.size, 23, none⟩ (.int .u64 u0)).cell? ⟨w.heap.size, 0, none⟩).isSome = true := by rw [H5.X.cells, f0]; rfl
  have H6 := H5.set (s' := { s with p := { s.p with v := v0, h := u0, ln := 11 } }) 0 (.int .i64 11) rfl
  go_wp2_with (first | (refine wpList_load_row rfl 46 _ rfl w.heap.size rfl _ (wc ({ s with p := { s.p with v := v0, h := u0, ln := 11 } } : Wk)) (0, 0) _ (by exact H6.X) Try.underlying46 rfl (by kernel_rfl) ?_) | (refine wpList_store_row rfl 46 _ _ rfl (w.heap.size + 1) (wc ({ s with p := { s.p with v := v0, h := u0, ln := 11 } } : Wk)) rfl rfl _ _ (by exact H6.Z) (by kernel_rfl) (by kernel_rfl) (by kernel_rfl) ?_))
  have ZF := H6.Z.setRow (wc ({ s with p := { s.p with v := v0, h := u0, ln := 11 } } : Wk))
  refine bodyPost_ret (v := .tuple #[wv ({ s with p := { s.p with v := v0, h := u0, ln := 11 } } : Wk), .int .i64 0, .bool true]) ?_ rfl ?_
  · exact Rw.results_cell_slot2 (p := 4) (q := 5) (r := 6) (ty := 46) Try.results89 _ _ (w.heap.size + 1) 46 _ (0, 0) _ rfl ZF Try.underlying46 rfl (by kernel_rfl)
  · have e_HU := HU.out
    subst e_HU
    have e_HV := HV.out
    subst e_HV
    exact ⟨rfl, H6.fin _⟩
set_option maxRecDepth 10000 in
set_option maxHeartbeats 4000000 in
theorem rk10bz {B : Nat} {w : World} {g gl cap : Nat} {c : Cfg} {a : Acc} {L : List Int} (M : RefMem B w g c a gl cap L) (s : Wk) (hm : L.length ≤ 1000) (hL : WR L) (hl : s.p.ln = 10) (hz : low32 (ldV L 1) = 0) : Calls Try.prog 89 #[.pointer (some ⟨g, 0, none⟩), wv s] w (RPost B g gl cap c ⟨acc L 1 1 0 0, L, { s.p with v := ldV L 1, h := low32 (ldV L 1), ln := 0 }, 2, true⟩ s w) := by
  have hv := ldV_wr hL 1
  have HZ := Lib.hid hz
  clear hz
  have f0 : ∀ s : Wk, (wc s)[0]? = some (.int .i64 s.p.ln) := fun _ => rfl
  have f19 : ∀ s : Wk, (wc s)[19]? = some (.int .i64 s.p.k) := fun _ => rfl
  have f20 : ∀ s : Wk, (wc s)[20]? = some (.int .i64 s.p.i) := fun _ => rfl
  have f23 : ∀ s : Wk, (wc s)[23]? = some (.int .u64 s.p.h) := fun _ => rfl
  have f25 : ∀ s : Wk, (wc s)[25]? = some (.int .u64 s.p.v) := fun _ => rfl
  have d1 : decide (20 ≤ s.p.ln) = false := by simp [hl]
  have d2 : decide (s.p.ln < 10) = false := by simp [hl]
  have d3 : decide (15 < s.p.ln) = false := by simp [hl]
  have hsub : wrap64 s.p.ln = 10 := by rw [hl]; exact IntWalk.wrap64_in _ (by omega)
  have hw1 : wrap64 (s.p.ln + 1) = 11 := by rw [hl]; exact IntWalk.wrap64_in _ (by omega)
  have H0 := RX.start M s
  have H1 := H0.wipe
  have hba := build_acc0
  have x0 := H0.X.cells
  obtain ⟨w1, hw1⟩ : ∃ u, u = (w.alloc (.cells (wc s) 46)).alloc (.cells (wc wz) 46) := ⟨_, rfl⟩
  rw [← hw1] at H0 H1 x0
  obtain ⟨w2, hw2⟩ : ∃ u, u = w1.setRow g (rc c a0 ⟨some ⟨gl, 0, none⟩, L.length, cap⟩) := ⟨_, rfl⟩
  rw [← hw2] at H1
  have x1 := H1.X.cells
  have l1 := H1.lt
  have HW1 := Lib.hid hw1
  have HW2 := Lib.hid hw2
  clear hl hw1 hw2
  go_enter Try.func89, Try.ntmps89
  go_wp2_with (first | ((with_reducible refine wpList_alloc_wz rfl rfl ?_); rw [← HW1.out]; clear HW1) | ((with_reducible refine Sub.wpList_store_sub rfl 78 _ _ rfl g 9 #[.int .i64 0, .int .i64 0, .int .u64 0, .int .u64 0, .int .u64 0] ?_ ?_ 103 (rc c a ⟨some ⟨gl, 0, none⟩, L.length, cap⟩) (rc c a0 ⟨some ⟨gl, 0, none⟩, L.length, cap⟩) ?_ ?_ ?_ ?_ ?_ ?_); exact rfl; exact rfl; exact H0.M.B; kernel_rfl; exact Nat.le_of_ble_eq_true (by kernel_rfl); kernel_rfl; kernel_rfl; rw [← HW2.out]; clear HW2 H0 x0))
  refine (rload_any H1.M hm 1).mono ?_
  rintro en w3 ⟨rfl, M3, T3⟩
  have H3 := H1.mem M3 T3
  obtain ⟨v0, hv0⟩ : ∃ v, v = ldV L 1 := ⟨_, rfl⟩
  rw [← hv0] at hv HZ
  simp only [← hv0]
  have HV := Lib.hid hv0
  clear hv0 x1 l1 M3 T3 H1
  have H4 := H3.set (s' := { s with p := { s.p with v := v0 } }) 25 (.int .u64 v0) rfl
  have xw3 := H3.X.cells
  have zw3 := H3.X.frozen
  have ew3 : (w3.cell? ⟨w.heap.size, 25, none⟩).isSome = true := by rw [xw3, f25]; rfl
  go_wp2_with fail
  generalize w3.setCell ⟨w.heap.size, 25, none⟩ (.int .u64 v0) = w4 at *
  clear xw3 zw3 ew3 H3
  refine (rLow32 v0 hv _).mono ?_
  rintro en w5 ⟨rfl, rfl⟩
  obtain ⟨u0, hu0⟩ : ∃ v, v = low32 v0 := ⟨_, rfl⟩
  rw [← hu0] at HZ
  simp only [← hu0]
  have HU := Lib.hid hu0
  clear hu0
  have H5 := H4.set (s' := { s with p := { s.p with v := v0, h := u0 } }) 23 (.int .u64 u0) rfl
  have xw4 := H4.X.cells
  have zw4 := H4.X.frozen
  have ew4 : (w4.cell? ⟨w.heap.size, 23, none⟩).isSome = true := by rw [xw4, f23]; rfl
  have tz : (u0 == 0) = true := by have := HZ.out; simp [this]
  have yw4 : ((w4.setCell ⟨w.heap.size, 23, none⟩ (.int .u64 u0)).cell? ⟨w.heap.size, 0, none⟩).isSome = true := by rw [H5.X.cells, f0]; rfl
  have H6 := H5.set (s' := { s with p := { s.p with v := v0, h := u0, ln := 11 } }) 0 (.int .i64 11) rfl
  have yw5 : (((w4.setCell ⟨w.heap.size, 23, none⟩ (.int .u64 u0)).setCell ⟨w.heap.size, 0, none⟩ (.int .i64 11)).cell? ⟨w.heap.size, 0, none⟩).isSome = true := by rw [H6.X.cells, f0]; rfl
  have H7 := H6.set (s' := { s with p := { s.p with v := v0, h := u0, ln := 0 } }) 0 (.int .i64 0) rfl
  go_wp2_with (first | (refine wpList_load_row rfl 46 _ rfl w.heap.size rfl _ (wc ({ s with p := { s.p with v := v0, h := u0, ln := 0 } } : Wk)) (0, 0) _ (by exact H7.X) Try.underlying46 rfl (by kernel_rfl) ?_) | (refine wpList_store_row rfl 46 _ _ rfl (w.heap.size + 1) (wc ({ s with p := { s.p with v := v0, h := u0, ln := 0 } } : Wk)) rfl rfl _ _ (by exact H7.Z) (by kernel_rfl) (by kernel_rfl) (by kernel_rfl) ?_))
  have ZF := H7.Z.setRow (wc ({ s with p := { s.p with v := v0, h := u0, ln := 0 } } : Wk))
  refine bodyPost_ret (v := .tuple #[wv ({ s with p := { s.p with v := v0, h := u0, ln := 0 } } : Wk), .int .i64 2, .bool true]) ?_ rfl ?_
  · exact Rw.results_cell_slot2 (p := 4) (q := 5) (r := 6) (ty := 46) Try.results89 _ _ (w.heap.size + 1) 46 _ (0, 0) _ rfl ZF Try.underlying46 rfl (by kernel_rfl)
  · have e_HU := HU.out
    subst e_HU
    have e_HV := HV.out
    subst e_HV
    exact ⟨rfl, H7.fin _⟩
set_option maxRecDepth 10000 in
set_option maxHeartbeats 4000000 in
theorem rk11b {B : Nat} {w : World} {g gl cap : Nat} {c : Cfg} {a : Acc} {L : List Int} (M : RefMem B w g c a gl cap L) (s : Wk) (hm : L.length ≤ 1000) (hL : WR L) (hf : c.Wf) (hl : s.p.ln = 11) : Calls Try.prog 89 #[.pointer (some ⟨g, 0, none⟩), wv s] w (RPost B g gl cap c ⟨acc L 1 (skLk c false (wrap64 (s.p.h - 1))) 0 0, L, { s.p with n := ldV L (skLk c false (wrap64 (s.p.h - 1))), ln := 12 }, 0, true⟩ s w) := by
  have f0 : ∀ s : Wk, (wc s)[0]? = some (.int .i64 s.p.ln) := fun _ => rfl
  have f19 : ∀ s : Wk, (wc s)[19]? = some (.int .i64 s.p.k) := fun _ => rfl
  have f20 : ∀ s : Wk, (wc s)[20]? = some (.int .i64 s.p.i) := fun _ => rfl
  have f23 : ∀ s : Wk, (wc s)[23]? = some (.int .u64 s.p.h) := fun _ => rfl
  have f24 : ∀ s : Wk, (wc s)[24]? = some (.int .u64 s.p.n) := fun _ => rfl
  have d1 : decide (20 ≤ s.p.ln) = false := by simp [hl]
  have d2 : decide (s.p.ln < 10) = false := by simp [hl]
  have d3 : decide (15 < s.p.ln) = false := by simp [hl]
  have hsub : wrap64 s.p.ln = 11 := by rw [hl]; exact IntWalk.wrap64_in _ (by omega)
  have hw1 : wrap64 (s.p.ln + 1) = 12 := by rw [hl]; exact IntWalk.wrap64_in _ (by omega)
  have HCV := Lib.hid (show wrap64 (wrap64 s.p.h - 1) = wrap64 (s.p.h - 1) by unfold wrap64; omega)
  have H0 := RX.start M s
  have H1 := H0.wipe
  have hba := build_acc0
  have x0 := H0.X.cells
  obtain ⟨w1, hw1⟩ : ∃ u, u = (w.alloc (.cells (wc s) 46)).alloc (.cells (wc wz) 46) := ⟨_, rfl⟩
  rw [← hw1] at H0 H1 x0
  obtain ⟨w2, hw2⟩ : ∃ u, u = w1.setRow g (rc c a0 ⟨some ⟨gl, 0, none⟩, L.length, cap⟩) := ⟨_, rfl⟩
  rw [← hw2] at H1
  have x1 := H1.X.cells
  have l1 := H1.lt
  have HW1 := Lib.hid hw1
  have HW2 := Lib.hid hw2
  clear hl hw1 hw2
  go_enter Try.func89, Try.ntmps89
  go_wp2_with (first | ((with_reducible refine wpList_alloc_wz rfl rfl ?_); rw [← HW1.out]; clear HW1) | ((with_reducible refine Sub.wpList_store_sub rfl 78 _ _ rfl g 9 #[.int .i64 0, .int .i64 0, .int .u64 0, .int .u64 0, .int .u64 0] ?_ ?_ 103 (rc c a ⟨some ⟨gl, 0, none⟩, L.length, cap⟩) (rc c a0 ⟨some ⟨gl, 0, none⟩, L.length, cap⟩) ?_ ?_ ?_ ?_ ?_ ?_); exact rfl; exact rfl; exact H0.M.B; kernel_rfl; exact Nat.le_of_ble_eq_true (by kernel_rfl); kernel_rfl; kernel_rfl; rw [← HW2.out]; clear HW2 H0 x0))
  rw [HCV.out]
  refine (rLink H1.M hf false (wrap64 (s.p.h - 1))).mono ?_
  rintro en w2' ⟨rfl, hb2⟩
  have H2 := H1.keep hb2
  clear hb2 H1 x1 l1
  go_wp2_with fail
  refine (rload_any H2.M hm _).mono ?_
  rintro en w3 ⟨rfl, M3, T3⟩
  have H3 := H2.mem M3 T3
  obtain ⟨v0, hv0⟩ : ∃ v, v = ldV L (skLk c false (wrap64 (s.p.h - 1))) := ⟨_, rfl⟩
  simp only [← hv0]
  have HV := Lib.hid hv0
  clear hv0 M3 T3 H2
  have H4 := H3.set (s' := { s with p := { s.p with n := v0 } }) 24 (.int .u64 v0) rfl
  have xw3 := H3.X.cells
  have zw3 := H3.X.frozen
  have ew3 : (w3.cell? ⟨w.heap.size, 24, none⟩).isSome = true := by rw [xw3, f24]; rfl
  have yw4 : ((w3.setCell ⟨w.heap.size, 24, none⟩ (.int .u64 v0)).cell? ⟨w.heap.size, 0, none⟩).isSome = true := by rw [H4.X.cells, f0]; rfl
  have H6 := H4.set (s' := { s with p := { s.p with n := v0, ln := 12 } }) 0 (.int .i64 12) rfl
  go_wp2_with (first | (refine wpList_load_row rfl 46 _ rfl w.heap.size rfl _ (wc ({ s with p := { s.p with n := v0, ln := 12 } } : Wk)) (0, 0) _ (by exact H6.X) Try.underlying46 rfl (by kernel_rfl) ?_) | (refine wpList_store_row rfl 46 _ _ rfl (w.heap.size + 1) (wc ({ s with p := { s.p with n := v0, ln := 12 } } : Wk)) rfl rfl _ _ (by exact H6.Z) (by kernel_rfl) (by kernel_rfl) (by kernel_rfl) ?_))
  have ZF := H6.Z.setRow (wc ({ s with p := { s.p with n := v0, ln := 12 } } : Wk))
  refine bodyPost_ret (v := .tuple #[wv ({ s with p := { s.p with n := v0, ln := 12 } } : Wk), .int .i64 0, .bool true]) ?_ rfl ?_
  · exact Rw.results_cell_slot2 (p := 4) (q := 5) (r := 6) (ty := 46) Try.results89 _ _ (w.heap.size + 1) 46 _ (0, 0) _ rfl ZF Try.underlying46 rfl (by kernel_rfl)
  · have e_HV := HV.out
    subst e_HV
    exact ⟨rfl, H6.fin _⟩
set_option maxRecDepth 10000 in
set_option maxHeartbeats 4000000 in
theorem rk12bn {B : Nat} {w : World} {g gl cap : Nat} {c : Cfg} {a : Acc} {L : List Int} (M : RefMem B w g c a gl cap L) (s : Wk) (hm : L.length ≤ 1000) (hL : WR L) (hn : 0 ≤ s.p.n ∧ s.p.n < 18446744073709551616) (hv : 0 ≤ s.p.v ∧ s.p.v < 18446744073709551616) (hl : s.p.ln = 12) (hb : csB L 1 s.p.v = false) : Calls Try.prog 89 #[.pointer (some ⟨g, 0, none⟩), wv s] w (RPost B g gl cap c ⟨acc L 3 1 s.p.v (skNew (low32 s.p.n - 1) s.p.v), csL L 1 s.p.v (skNew (low32 s.p.n - 1) s.p.v), { s.p with ln := 10 }, 0, true⟩ s w) := by
  have f0 : ∀ s : Wk, (wc s)[0]? = some (.int .i64 s.p.ln) := fun _ => rfl
  have f19 : ∀ s : Wk, (wc s)[19]? = some (.int .i64 s.p.k) := fun _ => rfl
  have f20 : ∀ s : Wk, (wc s)[20]? = some (.int .i64 s.p.i) := fun _ => rfl
  have f24 : ∀ s : Wk, (wc s)[24]? = some (.int .u64 s.p.n) := fun _ => rfl
  have f25 : ∀ s : Wk, (wc s)[25]? = some (.int .u64 s.p.v) := fun _ => rfl
  have d1 : decide (20 ≤ s.p.ln) = false := by simp [hl]
  have d2 : decide (s.p.ln < 10) = false := by simp [hl]
  have d3 : decide (15 < s.p.ln) = false := by simp [hl]
  have hsub : wrap64 s.p.ln = 12 := by rw [hl]; exact IntWalk.wrap64_in _ (by omega)
  have HB := Lib.hid hb
  have HUN := Lib.hid (fun w => rUnhead s.p.v hv w)
  have HVER := Lib.hid (show IntKind.u64.wrap (s.p.v / 4294967296 + 1) = s.p.v / 4294967296 + 1 by rw [IntKind.wrap_u64]; omega)
  clear hb hv
  have HLW := Lib.hid (fun w => rLow32 s.p.n hn w)
  have HTP := Lib.hid (show wrap64 (wrap64 (low32 s.p.n) - 1) = low32 s.p.n - 1 by unfold low32 wrap64; omega)
  have H0 := RX.start M s
  have H1 := H0.wipe
  have hba := build_acc0
  have x0 := H0.X.cells
  obtain ⟨w1, hw1⟩ : ∃ u, u = (w.alloc (.cells (wc s) 46)).alloc (.cells (wc wz) 46) := ⟨_, rfl⟩
  rw [← hw1] at H0 H1 x0
  obtain ⟨w2, hw2⟩ : ∃ u, u = w1.setRow g (rc c a0 ⟨some ⟨gl, 0, none⟩, L.length, cap⟩) := ⟨_, rfl⟩
  rw [← hw2] at H1
  have x1 := H1.X.cells
  have l1 := H1.lt
  have HW1 := Lib.hid hw1
  have HW2 := Lib.hid hw2
  clear hl hw1 hw2
  go_enter Try.func89, Try.ntmps89
  go_wp2_with (first | ((with_reducible refine wpList_alloc_wz rfl rfl ?_); rw [← HW1.out]; clear HW1) | ((with_reducible refine Sub.wpList_store_sub rfl 78 _ _ rfl g 9 #[.int .i64 0, .int .i64 0, .int .u64 0, .int .u64 0, .int .u64 0] ?_ ?_ 103 (rc c a ⟨some ⟨gl, 0, none⟩, L.length, cap⟩) (rc c a0 ⟨some ⟨gl, 0, none⟩, L.length, cap⟩) ?_ ?_ ?_ ?_ ?_ ?_); exact rfl; exact rfl; exact H0.M.B; kernel_rfl; exact Nat.le_of_ble_eq_true (by kernel_rfl); kernel_rfl; kernel_rfl; rw [← HW2.out]; clear HW2 H0 x0))
  refine (HUN.out _).mono ?_
  rintro en w3 ⟨rfl, hb3⟩
  have H2 := H1.keep hb3
  clear x1 l1 H1 hb3
  have x2 := H2.X.cells
  have l2 := H2.lt
  have lg2 := H2.M.lt.1
  go_wp2
  refine wp_region_grown_tail 12 (by kernel_rfl) (by kernel_rfl) ?_
  simp only [List.take_succ_cons, List.take_zero, List.drop_succ_cons, List.drop_zero]
  have hg := @gcell
  repeat (go_big_quiet_step (first | exact grown_same (HLW.out _) | exact grown_same (Pk.rhead _ _ (wrap_rng _).1 (wrap_rng _).2 _)))
  refine wpQuiet_nil ?_
  rintro w4 ⟨⟨_, hb4⟩, rfl⟩
  clear hg
  have H4 := H2.keep hb4
  clear x2 l2 lg2 H2 hb4
  rw [HVER.out, HTP.out]
  have hnw : Pk.hd (low32 s.p.n - 1) (s.p.v / 4294967296 + 1) = skNew (low32 s.p.n - 1) s.p.v := rfl
  rw [hnw]
  have hcas := rcas_any H4.M hm 1 s.p.v (skNew (low32 s.p.n - 1) s.p.v)
  rw [HB.out] at hcas
  have HCA := Lib.hid hcas
  clear hcas hnw
  go_wp2_with fail
  refine HCA.out.mono ?_
  rintro en w5 ⟨rfl, M5, T5⟩
  have H5 := H4.mem M5 T5
  clear HCA H4 M5 T5
  have H6 := H5.set (s' := { s with p := { s.p with ln := 10 } }) 0 (.int .i64 10) rfl
  have xw5 := H5.X.cells
  have zw5 := H5.X.frozen
  have ew5 : (w5.cell? ⟨w.heap.size, 0, none⟩).isSome = true := by rw [xw5, f0]; rfl
  go_wp2_with (first | (refine wpList_load_row rfl 46 _ rfl w.heap.size rfl _ (wc ({ s with p := { s.p with ln := 10 } } : Wk)) (0, 0) _ (by exact H6.X) Try.underlying46 rfl (by kernel_rfl) ?_) | (refine wpList_store_row rfl 46 _ _ rfl (w.heap.size + 1) (wc ({ s with p := { s.p with ln := 10 } } : Wk)) rfl rfl _ _ (by exact H6.Z) (by kernel_rfl) (by kernel_rfl) (by kernel_rfl) ?_))
  have ZF := H6.Z.setRow (wc ({ s with p := { s.p with ln := 10 } } : Wk))
  refine bodyPost_ret (v := .tuple #[wv ({ s with p := { s.p with ln := 10 } } : Wk), .int .i64 0, .bool true]) ?_ rfl ?_
  · exact Rw.results_cell_slot2 (p := 4) (q := 5) (r := 6) (ty := 46) Try.results89 _ _ (w.heap.size + 1) 46 _ (0, 0) _ rfl ZF Try.underlying46 rfl (by kernel_rfl)
  · exact ⟨rfl, H6.fin _⟩
set_option maxRecDepth 10000 in
set_option maxHeartbeats 4000000 in
theorem rk12by {B : Nat} {w : World} {g gl cap : Nat} {c : Cfg} {a : Acc} {L : List Int} (M : RefMem B w g c a gl cap L) (s : Wk) (hm : L.length ≤ 1000) (hL : WR L) (hn : 0 ≤ s.p.n ∧ s.p.n < 18446744073709551616) (hv : 0 ≤ s.p.v ∧ s.p.v < 18446744073709551616) (hl : s.p.ln = 12) (hb : csB L 1 s.p.v = true) : Calls Try.prog 89 #[.pointer (some ⟨g, 0, none⟩), wv s] w (RPost B g gl cap c ⟨acc L 3 1 s.p.v (skNew (low32 s.p.n - 1) s.p.v), csL L 1 s.p.v (skNew (low32 s.p.n - 1) s.p.v), { s.p with ln := 0 }, 1, true⟩ s w) := by
  have f0 : ∀ s : Wk, (wc s)[0]? = some (.int .i64 s.p.ln) := fun _ => rfl
  have f19 : ∀ s : Wk, (wc s)[19]? = some (.int .i64 s.p.k) := fun _ => rfl
  have f20 : ∀ s : Wk, (wc s)[20]? = some (.int .i64 s.p.i) := fun _ => rfl
  have f24 : ∀ s : Wk, (wc s)[24]? = some (.int .u64 s.p.n) := fun _ => rfl
  have f25 : ∀ s : Wk, (wc s)[25]? = some (.int .u64 s.p.v) := fun _ => rfl
  have d1 : decide (20 ≤ s.p.ln) = false := by simp [hl]
  have d2 : decide (s.p.ln < 10) = false := by simp [hl]
  have d3 : decide (15 < s.p.ln) = false := by simp [hl]
  have hsub : wrap64 s.p.ln = 12 := by rw [hl]; exact IntWalk.wrap64_in _ (by omega)
  have HB := Lib.hid hb
  have HUN := Lib.hid (fun w => rUnhead s.p.v hv w)
  have HVER := Lib.hid (show IntKind.u64.wrap (s.p.v / 4294967296 + 1) = s.p.v / 4294967296 + 1 by rw [IntKind.wrap_u64]; omega)
  clear hb hv
  have HLW := Lib.hid (fun w => rLow32 s.p.n hn w)
  have HTP := Lib.hid (show wrap64 (wrap64 (low32 s.p.n) - 1) = low32 s.p.n - 1 by unfold low32 wrap64; omega)
  have H0 := RX.start M s
  have H1 := H0.wipe
  have hba := build_acc0
  have x0 := H0.X.cells
  obtain ⟨w1, hw1⟩ : ∃ u, u = (w.alloc (.cells (wc s) 46)).alloc (.cells (wc wz) 46) := ⟨_, rfl⟩
  rw [← hw1] at H0 H1 x0
  obtain ⟨w2, hw2⟩ : ∃ u, u = w1.setRow g (rc c a0 ⟨some ⟨gl, 0, none⟩, L.length, cap⟩) := ⟨_, rfl⟩
  rw [← hw2] at H1
  have x1 := H1.X.cells
  have l1 := H1.lt
  have HW1 := Lib.hid hw1
  have HW2 := Lib.hid hw2
  clear hl hw1 hw2
  go_enter Try.func89, Try.ntmps89
  go_wp2_with (first | ((with_reducible refine wpList_alloc_wz rfl rfl ?_); rw [← HW1.out]; clear HW1) | ((with_reducible refine Sub.wpList_store_sub rfl 78 _ _ rfl g 9 #[.int .i64 0, .int .i64 0, .int .u64 0, .int .u64 0, .int .u64 0] ?_ ?_ 103 (rc c a ⟨some ⟨gl, 0, none⟩, L.length, cap⟩) (rc c a0 ⟨some ⟨gl, 0, none⟩, L.length, cap⟩) ?_ ?_ ?_ ?_ ?_ ?_); exact rfl; exact rfl; exact H0.M.B; kernel_rfl; exact Nat.le_of_ble_eq_true (by kernel_rfl); kernel_rfl; kernel_rfl; rw [← HW2.out]; clear HW2 H0 x0))
  refine (HUN.out _).mono ?_
  rintro en w3 ⟨rfl, hb3⟩
  have H2 := H1.keep hb3
  clear x1 l1 H1 hb3
  have x2 := H2.X.cells
  have l2 := H2.lt
  have lg2 := H2.M.lt.1
  go_wp2
  refine wp_region_grown_tail 12 (by kernel_rfl) (by kernel_rfl) ?_
  simp only [List.take_succ_cons, List.take_zero, List.drop_succ_cons, List.drop_zero]
  have hg := @gcell
  repeat (go_big_quiet_step (first | exact grown_same (HLW.out _) | exact grown_same (Pk.rhead _ _ (wrap_rng _).1 (wrap_rng _).2 _)))
  refine wpQuiet_nil ?_
  rintro w4 ⟨⟨_, hb4⟩, rfl⟩
  clear hg
  have H4 := H2.keep hb4
  clear x2 l2 lg2 H2 hb4
  rw [HVER.out, HTP.out]
  have hnw : Pk.hd (low32 s.p.n - 1) (s.p.v / 4294967296 + 1) = skNew (low32 s.p.n - 1) s.p.v := rfl
  rw [hnw]
  have hcas := rcas_any H4.M hm 1 s.p.v (skNew (low32 s.p.n - 1) s.p.v)
  rw [HB.out] at hcas
  have HCA := Lib.hid hcas
  clear hcas hnw
  go_wp2_with fail
  refine HCA.out.mono ?_
  rintro en w5 ⟨rfl, M5, T5⟩
  have H5 := H4.mem M5 T5
  clear HCA H4 M5 T5
  have H6 := H5.set (s' := { s with p := { s.p with ln := 0 } }) 0 (.int .i64 0) rfl
  have xw5 := H5.X.cells
  have zw5 := H5.X.frozen
  have ew5 : (w5.cell? ⟨w.heap.size, 0, none⟩).isSome = true := by rw [xw5, f0]; rfl
  go_wp2_with (first | (refine wpList_load_row rfl 46 _ rfl w.heap.size rfl _ (wc ({ s with p := { s.p with ln := 0 } } : Wk)) (0, 0) _ (by exact H6.X) Try.underlying46 rfl (by kernel_rfl) ?_) | (refine wpList_store_row rfl 46 _ _ rfl (w.heap.size + 1) (wc ({ s with p := { s.p with ln := 0 } } : Wk)) rfl rfl _ _ (by exact H6.Z) (by kernel_rfl) (by kernel_rfl) (by kernel_rfl) ?_))
  have ZF := H6.Z.setRow (wc ({ s with p := { s.p with ln := 0 } } : Wk))
  refine bodyPost_ret (v := .tuple #[wv ({ s with p := { s.p with ln := 0 } } : Wk), .int .i64 1, .bool true]) ?_ rfl ?_
  · exact Rw.results_cell_slot2 (p := 4) (q := 5) (r := 6) (ty := 46) Try.results89 _ _ (w.heap.size + 1) 46 _ (0, 0) _ rfl ZF Try.underlying46 rfl (by kernel_rfl)
  · exact ⟨rfl, H6.fin _⟩
set_option maxRecDepth 10000 in
set_option maxHeartbeats 4000000 in
theorem rk13b {B : Nat} {w : World} {g gl cap : Nat} {c : Cfg} {a : Acc} {L : List Int} (M : RefMem B w g c a gl cap L) (s : Wk) (hm : L.length ≤ 1000) (hL : WR L) (hl : s.p.ln = 13) : Calls Try.prog 89 #[.pointer (some ⟨g, 0, none⟩), wv s] w (RPost B g gl cap c ⟨acc L 1 1 0 0, L, { s.p with v := ldV L 1, ln := 14 }, 0, true⟩ s w) := by
  have f0 : ∀ s : Wk, (wc s)[0]? = some (.int .i64 s.p.ln) := fun _ => rfl
  have f19 : ∀ s : Wk, (wc s)[19]? = some (.int .i64 s.p.k) := fun _ => rfl
  have f20 : ∀ s : Wk, (wc s)[20]? = some (.int .i64 s.p.i) := fun _ => rfl
  have f25 : ∀ s : Wk, (wc s)[25]? = some (.int .u64 s.p.v) := fun _ => rfl
  have d1 : decide (20 ≤ s.p.ln) = false := by simp [hl]
  have d2 : decide (s.p.ln < 10) = false := by simp [hl]
  have d3 : decide (15 < s.p.ln) = false := by simp [hl]
  have hsub : wrap64 s.p.ln = 13 := by rw [hl]; exact IntWalk.wrap64_in _ (by omega)
  have hw1 : wrap64 (s.p.ln + 1) = 14 := by rw [hl]; exact IntWalk.wrap64_in _ (by omega)
  have H0 := RX.start M s
  have H1 := H0.wipe
  have hba := build_acc0
  have x0 := H0.X.cells
  obtain ⟨w1, hw1⟩ : ∃ u, u = (w.alloc (.cells (wc s) 46)).alloc (.cells (wc wz) 46) := ⟨_, rfl⟩
  rw [← hw1] at H0 H1 x0
  obtain ⟨w2, hw2⟩ : ∃ u, u = w1.setRow g (rc c a0 ⟨some ⟨gl, 0, none⟩, L.length, cap⟩) := ⟨_, rfl⟩
  rw [← hw2] at H1
  have x1 := H1.X.cells
  have l1 := H1.lt
  have HW1 := Lib.hid hw1
  have HW2 := Lib.hid hw2
  clear hl hw1 hw2
  go_enter Try.func89, Try.ntmps89
  go_wp2_with (first | ((with_reducible refine wpList_alloc_wz rfl rfl ?_); rw [← HW1.out]; clear HW1) | ((with_reducible refine Sub.wpList_store_sub rfl 78 _ _ rfl g 9 #[.int .i64 0, .int .i64 0, .int .u64 0, .int .u64 0, .int .u64 0] ?_ ?_ 103 (rc c a ⟨some ⟨gl, 0, none⟩, L.length, cap⟩) (rc c a0 ⟨some ⟨gl, 0, none⟩, L.length, cap⟩) ?_ ?_ ?_ ?_ ?_ ?_); exact rfl; exact rfl; exact H0.M.B; kernel_rfl; exact Nat.le_of_ble_eq_true (by kernel_rfl); kernel_rfl; kernel_rfl; rw [← HW2.out]; clear HW2 H0 x0))
  refine (rload_any H1.M hm 1).mono ?_
  rintro en w3 ⟨rfl, M3, T3⟩
  have H3 := H1.mem M3 T3
  obtain ⟨v0, hv0⟩ : ∃ v, v = ldV L 1 := ⟨_, rfl⟩
  simp only [← hv0]
  have HV := Lib.hid hv0
  clear hv0 x1 l1 M3 T3 H1
  have H4 := H3.set (s' := { s with p := { s.p with v := v0 } }) 25 (.int .u64 v0) rfl
  have xw3 := H3.X.cells
  have zw3 := H3.X.frozen
  have ew3 : (w3.cell? ⟨w.heap.size, 25, none⟩).isSome = true := by rw [xw3, f25]; rfl
  have yw4 : ((w3.setCell ⟨w.heap.size, 25, none⟩ (.int .u64 v0)).cell? ⟨w.heap.size, 0, none⟩).isSome = true := by rw [H4.X.cells, f0]; rfl
  have H6 := H4.set (s' := { s with p := { s.p with v := v0, ln := 14 } }) 0 (.int .i64 14) rfl
  go_wp2_with (first | (refine wpList_load_row rfl 46 _ rfl w.heap.size rfl _ (wc ({ s with p := { s.p with v := v0, ln := 14 } } : Wk)) (0, 0) _ (by exact H6.X) Try.underlying46 rfl (by kernel_rfl) ?_) | (refine wpList_store_row rfl 46 _ _ rfl (w.heap.size + 1) (wc ({ s with p := { s.p with v := v0, ln := 14 } } : Wk)) rfl rfl _ _ (by exact H6.Z) (by kernel_rfl) (by kernel_rfl) (by kernel_rfl) ?_))
  have ZF := H6.Z.setRow (wc ({ s with p := { s.p with v := v0, ln := 14 } } : Wk))
  refine bodyPost_ret (v := .tuple #[wv ({ s with p := { s.p with v := v0, ln := 14 } } : Wk), .int .i64 0, .bool true]) ?_ rfl ?_
  · exact Rw.results_cell_slot2 (p := 4) (q := 5) (r := 6) (ty := 46) Try.results89 _ _ (w.heap.size + 1) 46 _ (0, 0) _ rfl ZF Try.underlying46 rfl (by kernel_rfl)
  · have e_HV := HV.out
    subst e_HV
    exact ⟨rfl, H6.fin _⟩
set_option maxRecDepth 10000 in
set_option maxHeartbeats 4000000 in
theorem rk14b {B : Nat} {w : World} {g gl cap : Nat} {c : Cfg} {a : Acc} {L : List Int} (M : RefMem B w g c a gl cap L) (s : Wk) (hm : L.length ≤ 1000) (hL : WR L) (hf : c.Wf) (hv : 0 ≤ s.p.v ∧ s.p.v < 18446744073709551616) (hl : s.p.ln = 14) : Calls Try.prog 89 #[.pointer (some ⟨g, 0, none⟩), wv s] w (RPost B g gl cap c ⟨acc L 2 (skLk c false (skPut false s.p)) (low32 s.p.v) 0, stL L (skLk c false (skPut false s.p)) (low32 s.p.v), { s.p with ln := 15 }, 0, true⟩ s w) := by
  have f0 : ∀ s : Wk, (wc s)[0]? = some (.int .i64 s.p.ln) := fun _ => rfl
  have f19 : ∀ s : Wk, (wc s)[19]? = some (.int .i64 s.p.k) := fun _ => rfl
  have f20 : ∀ s : Wk, (wc s)[20]? = some (.int .i64 s.p.i) := fun _ => rfl
  have f25 : ∀ s : Wk, (wc s)[25]? = some (.int .u64 s.p.v) := fun _ => rfl
  have d1 : decide (20 ≤ s.p.ln) = false := by simp [hl]
  have d2 : decide (s.p.ln < 10) = false := by simp [hl]
  have d3 : decide (15 < s.p.ln) = false := by simp [hl]
  have hsub : wrap64 s.p.ln = 14 := by rw [hl]; exact IntWalk.wrap64_in _ (by omega)
  have HLW := Lib.hid (fun w => rLow32 s.p.v hv w)
  have HTP := Lib.hid (show wrap64 (s.p.k - 1) = skPut false s.p from rfl)
  clear hv
  have hw1 : wrap64 (s.p.ln + 1) = 15 := by rw [hl]; exact IntWalk.wrap64_in _ (by omega)
  have H0 := RX.start M s
  have H1 := H0.wipe
  have hba := build_acc0
  have x0 := H0.X.cells
  obtain ⟨w1, hw1⟩ : ∃ u, u = (w.alloc (.cells (wc s) 46)).alloc (.cells (wc wz) 46) := ⟨_, rfl⟩
  rw [← hw1] at H0 H1 x0
  obtain ⟨w2, hw2⟩ : ∃ u, u = w1.setRow g (rc c a0 ⟨some ⟨gl, 0, none⟩, L.length, cap⟩) := ⟨_, rfl⟩
  rw [← hw2] at H1
  have x1 := H1.X.cells
  have l1 := H1.lt
  have HW1 := Lib.hid hw1
  have HW2 := Lib.hid hw2
  clear hl hw1 hw2
  go_enter Try.func89, Try.ntmps89
  go_wp2_with (first | ((with_reducible refine wpList_alloc_wz rfl rfl ?_); rw [← HW1.out]; clear HW1) | ((with_reducible refine Sub.wpList_store_sub rfl 78 _ _ rfl g 9 #[.int .i64 0, .int .i64 0, .int .u64 0, .int .u64 0, .int .u64 0] ?_ ?_ 103 (rc c a ⟨some ⟨gl, 0, none⟩, L.length, cap⟩) (rc c a0 ⟨some ⟨gl, 0, none⟩, L.length, cap⟩) ?_ ?_ ?_ ?_ ?_ ?_); exact rfl; exact rfl; exact H0.M.B; kernel_rfl; exact Nat.le_of_ble_eq_true (by kernel_rfl); kernel_rfl; kernel_rfl; rw [← HW2.out]; clear HW2 H0 x0))
  have HLK := Lib.hid (fun (n : Gr w2) i => rLink (H1.M.keep n.2) hf false i)
  have lg2 := H1.M.lt.1
  refine wp_region_grown_tail 9 (by kernel_rfl) (by kernel_rfl) ?_
  simp only [List.take_succ_cons, List.take_zero, List.drop_succ_cons, List.drop_zero]
  have hg := @gcell
  repeat (go_big_quiet_step (first | exact grown_same (HLW.out _) | exact grown_of (HLK.out _ _)))
  refine wpQuiet_nil ?_
  rintro w4 ⟨⟨_, hb4⟩, rfl⟩
  clear hg
  have H4 := H1.keep hb4
  clear x1 l1 lg2 H1 hb4
  rw [HTP.out]
  go_wp2_with fail
  refine (rstore_any H4.M hm _ _).mono ?_
  rintro en w5 ⟨rfl, M5, T5⟩
  have H5 := H4.mem M5 T5
  clear H4 M5 T5
  have H6 := H5.set (s' := { s with p := { s.p with ln := 15 } }) 0 (.int .i64 15) rfl
  have xw5 := H5.X.cells
  have zw5 := H5.X.frozen
  have ew5 : (w5.cell? ⟨w.heap.size, 0, none⟩).isSome = true := by rw [xw5, f0]; rfl
  go_wp2_with (first | (refine wpList_load_row rfl 46 _ rfl w.heap.size rfl _ (wc ({ s with p := { s.p with ln := 15 } } : Wk)) (0, 0) _ (by exact H6.X) Try.underlying46 rfl (by kernel_rfl) ?_) | (refine wpList_store_row rfl 46 _ _ rfl (w.heap.size + 1) (wc ({ s with p := { s.p with ln := 15 } } : Wk)) rfl rfl _ _ (by exact H6.Z) (by kernel_rfl) (by kernel_rfl) (by kernel_rfl) ?_))
  have ZF := H6.Z.setRow (wc ({ s with p := { s.p with ln := 15 } } : Wk))
  refine bodyPost_ret (v := .tuple #[wv ({ s with p := { s.p with ln := 15 } } : Wk), .int .i64 0, .bool true]) ?_ rfl ?_
  · exact Rw.results_cell_slot2 (p := 4) (q := 5) (r := 6) (ty := 46) Try.results89 _ _ (w.heap.size + 1) 46 _ (0, 0) _ rfl ZF Try.underlying46 rfl (by kernel_rfl)
  · exact ⟨rfl, H6.fin _⟩
set_option maxRecDepth 10000 in
set_option maxHeartbeats 4000000 in
theorem rk15bn {B : Nat} {w : World} {g gl cap : Nat} {c : Cfg} {a : Acc} {L : List Int} (M : RefMem B w g c a gl cap L) (s : Wk) (hm : L.length ≤ 1000) (hL : WR L) (hv : 0 ≤ s.p.v ∧ s.p.v < 18446744073709551616) (hl : s.p.ln = 15) (hb : csB L 1 s.p.v = false) : Calls Try.prog 89 #[.pointer (some ⟨g, 0, none⟩), wv s] w (RPost B g gl cap c ⟨acc L 3 1 s.p.v (skNew (skPut false s.p) s.p.v), csL L 1 s.p.v (skNew (skPut false s.p) s.p.v), { s.p with ln := 13 }, 0, true⟩ s w) := by
  have f0 : ∀ s : Wk, (wc s)[0]? = some (.int .i64 s.p.ln) := fun _ => rfl
  have f19 : ∀ s : Wk, (wc s)[19]? = some (.int .i64 s.p.k) := fun _ => rfl
  have f20 : ∀ s : Wk, (wc s)[20]? = some (.int .i64 s.p.i) := fun _ => rfl
  have f24 : ∀ s : Wk, (wc s)[24]? = some (.int .u64 s.p.n) := fun _ => rfl
  have f25 : ∀ s : Wk, (wc s)[25]? = some (.int .u64 s.p.v) := fun _ => rfl
  have d1 : decide (20 ≤ s.p.ln) = false := by simp [hl]
  have d2 : decide (s.p.ln < 10) = false := by simp [hl]
  have d3 : decide (15 < s.p.ln) = false := by simp [hl]
  have hsub : wrap64 s.p.ln = 15 := by rw [hl]; exact IntWalk.wrap64_in _ (by omega)
  have HB := Lib.hid hb
  have HUN := Lib.hid (fun w => rUnhead s.p.v hv w)
  have HVER := Lib.hid (show IntKind.u64.wrap (s.p.v / 4294967296 + 1) = s.p.v / 4294967296 + 1 by rw [IntKind.wrap_u64]; omega)
  clear hb hv
  have HTP := Lib.hid (show wrap64 (s.p.k - 1) = skPut false s.p from rfl)
  have H0 := RX.start M s
  have H1 := H0.wipe
  have hba := build_acc0
  have x0 := H0.X.cells
  obtain ⟨w1, hw1⟩ : ∃ u, u = (w.alloc (.cells (wc s) 46)).alloc (.cells (wc wz) 46) := ⟨_, rfl⟩
  rw [← hw1] at H0 H1 x0
  obtain ⟨w2, hw2⟩ : ∃ u, u = w1.setRow g (rc c a0 ⟨some ⟨gl, 0, none⟩, L.length, cap⟩) := ⟨_, rfl⟩
  rw [← hw2] at H1
  have x1 := H1.X.cells
  have l1 := H1.lt
  have HW1 := Lib.hid hw1
  have HW2 := Lib.hid hw2
  clear hl hw1 hw2
  go_enter Try.func89, Try.ntmps89
  go_wp2_with (first | ((with_reducible refine wpList_alloc_wz rfl rfl ?_); rw [← HW1.out]; clear HW1) | ((with_reducible refine Sub.wpList_store_sub rfl 78 _ _ rfl g 9 #[.int .i64 0, .int .i64 0, .int .u64 0, .int .u64 0, .int .u64 0] ?_ ?_ 103 (rc c a ⟨some ⟨gl, 0, none⟩, L.length, cap⟩) (rc c a0 ⟨some ⟨gl, 0, none⟩, L.length, cap⟩) ?_ ?_ ?_ ?_ ?_ ?_); exact rfl; exact rfl; exact H0.M.B; kernel_rfl; exact Nat.le_of_ble_eq_true (by kernel_rfl); kernel_rfl; kernel_rfl; rw [← HW2.out]; clear HW2 H0 x0))
  refine (HUN.out _).mono ?_
  rintro en w3 ⟨rfl, hb3⟩
  have H2 := H1.keep hb3
  clear x1 l1 H1 hb3
  have x2 := H2.X.cells
  have l2 := H2.lt
  have lg2 := H2.M.lt.1
  go_wp2
  refine wp_region_grown_tail 9 (by kernel_rfl) (by kernel_rfl) ?_
  simp only [List.take_succ_cons, List.take_zero, List.drop_succ_cons, List.drop_zero]
  have hg := @gcell
  repeat (go_big_quiet_step (first | exact grown_same (Pk.rhead _ _ (wrap_rng _).1 (wrap_rng _).2 _)))
  refine wpQuiet_nil ?_
  rintro w4 ⟨⟨_, hb4⟩, rfl⟩
  clear hg
  have H4 := H2.keep hb4
  clear x2 l2 lg2 H2 hb4
  rw [HVER.out, HTP.out]
  have hnw : Pk.hd (skPut false s.p) (s.p.v / 4294967296 + 1) = skNew (skPut false s.p) s.p.v := rfl
  rw [hnw]
  have hcas := rcas_any H4.M hm 1 s.p.v (skNew (skPut false s.p) s.p.v)
  rw [HB.out] at hcas
  have HCA := Lib.hid hcas
  clear hcas hnw
  go_wp2_with fail
  refine HCA.out.mono ?_
  rintro en w5 ⟨rfl, M5, T5⟩
  have H5 := H4.mem M5 T5
  clear HCA H4 M5 T5
  have H6 := H5.set (s' := { s with p := { s.p with ln := 13 } }) 0 (.int .i64 13) rfl
  have xw5 := H5.X.cells
  have zw5 := H5.X.frozen
  have ew5 : (w5.cell? ⟨w.heap.size, 0, none⟩).isSome = true := by rw [xw5, f0]; rfl
  go_wp2_with (first | (refine wpList_load_row rfl 46 _ rfl w.heap.size rfl _ (wc ({ s with p := { s.p with ln := 13 } } : Wk)) (0, 0) _ (by exact H6.X) Try.underlying46 rfl (by kernel_rfl) ?_) | (refine wpList_store_row rfl 46 _ _ rfl (w.heap.size + 1) (wc ({ s with p := { s.p with ln := 13 } } : Wk)) rfl rfl _ _ (by exact H6.Z) (by kernel_rfl) (by kernel_rfl) (by kernel_rfl) ?_))
  have ZF := H6.Z.setRow (wc ({ s with p := { s.p with ln := 13 } } : Wk))
  refine bodyPost_ret (v := .tuple #[wv ({ s with p := { s.p with ln := 13 } } : Wk), .int .i64 0, .bool true]) ?_ rfl ?_
  · exact Rw.results_cell_slot2 (p := 4) (q := 5) (r := 6) (ty := 46) Try.results89 _ _ (w.heap.size + 1) 46 _ (0, 0) _ rfl ZF Try.underlying46 rfl (by kernel_rfl)
  · exact ⟨rfl, H6.fin _⟩
set_option maxRecDepth 10000 in
set_option maxHeartbeats 4000000 in
theorem rk15by {B : Nat} {w : World} {g gl cap : Nat} {c : Cfg} {a : Acc} {L : List Int} (M : RefMem B w g c a gl cap L) (s : Wk) (hm : L.length ≤ 1000) (hL : WR L) (hv : 0 ≤ s.p.v ∧ s.p.v < 18446744073709551616) (hl : s.p.ln = 15) (hb : csB L 1 s.p.v = true) : Calls Try.prog 89 #[.pointer (some ⟨g, 0, none⟩), wv s] w (RPost B g gl cap c ⟨acc L 3 1 s.p.v (skNew (skPut false s.p) s.p.v), csL L 1 s.p.v (skNew (skPut false s.p) s.p.v), { s.p with ln := 0 }, 1, true⟩ s w) := by
  have f0 : ∀ s : Wk, (wc s)[0]? = some (.int .i64 s.p.ln) := fun _ => rfl
  have f19 : ∀ s : Wk, (wc s)[19]? = some (.int .i64 s.p.k) := fun _ => rfl
  have f20 : ∀ s : Wk, (wc s)[20]? = some (.int .i64 s.p.i) := fun _ => rfl
  have f24 : ∀ s : Wk, (wc s)[24]? = some (.int .u64 s.p.n) := fun _ => rfl
  have f25 : ∀ s : Wk, (wc s)[25]? = some (.int .u64 s.p.v) := fun _ => rfl
  have d1 : decide (20 ≤ s.p.ln) = false := by simp [hl]
  have d2 : decide (s.p.ln < 10) = false := by simp [hl]
  have d3 : decide (15 < s.p.ln) = false := by simp [hl]
  have hsub : wrap64 s.p.ln = 15 := by rw [hl]; exact IntWalk.wrap64_in _ (by omega)
  have HB := Lib.hid hb
  have HUN := Lib.hid (fun w => rUnhead s.p.v hv w)
  have HVER := Lib.hid (show IntKind.u64.wrap (s.p.v / 4294967296 + 1) = s.p.v / 4294967296 + 1 by rw [IntKind.wrap_u64]; omega)
  clear hb hv
  have HTP := Lib.hid (show wrap64 (s.p.k - 1) = skPut false s.p from rfl)
  have H0 := RX.start M s
  have H1 := H0.wipe
  have hba := build_acc0
  have x0 := H0.X.cells
  obtain ⟨w1, hw1⟩ : ∃ u, u = (w.alloc (.cells (wc s) 46)).alloc (.cells (wc wz) 46) := ⟨_, rfl⟩
  rw [← hw1] at H0 H1 x0
  obtain ⟨w2, hw2⟩ : ∃ u, u = w1.setRow g (rc c a0 ⟨some ⟨gl, 0, none⟩, L.length, cap⟩) := ⟨_, rfl⟩
  rw [← hw2] at H1
  have x1 := H1.X.cells
  have l1 := H1.lt
  have HW1 := Lib.hid hw1
  have HW2 := Lib.hid hw2
  clear hl hw1 hw2
  go_enter Try.func89, Try.ntmps89
  go_wp2_with (first | ((with_reducible refine wpList_alloc_wz rfl rfl ?_); rw [← HW1.out]; clear HW1) | ((with_reducible refine Sub.wpList_store_sub rfl 78 _ _ rfl g 9 #[.int .i64 0, .int .i64 0, .int .u64 0, .int .u64 0, .int .u64 0] ?_ ?_ 103 (rc c a ⟨some ⟨gl, 0, none⟩, L.length, cap⟩) (rc c a0 ⟨some ⟨gl, 0, none⟩, L.length, cap⟩) ?_ ?_ ?_ ?_ ?_ ?_); exact rfl; exact rfl; exact H0.M.B; kernel_rfl; exact Nat.le_of_ble_eq_true (by kernel_rfl); kernel_rfl; kernel_rfl; rw [← HW2.out]; clear HW2 H0 x0))
  refine (HUN.out _).mono ?_
  rintro en w3 ⟨rfl, hb3⟩
  have H2 := H1.keep hb3
  clear x1 l1 H1 hb3
  have x2 := H2.X.cells
  have l2 := H2.lt
  have lg2 := H2.M.lt.1
  go_wp2
  refine wp_region_grown_tail 9 (by kernel_rfl) (by kernel_rfl) ?_
  simp only [List.take_succ_cons, List.take_zero, List.drop_succ_cons, List.drop_zero]
  have hg := @gcell
  repeat (go_big_quiet_step (first | exact grown_same (Pk.rhead _ _ (wrap_rng _).1 (wrap_rng _).2 _)))
  refine wpQuiet_nil ?_
  rintro w4 ⟨⟨_, hb4⟩, rfl⟩
  clear hg
  have H4 := H2.keep hb4
  clear x2 l2 lg2 H2 hb4
  rw [HVER.out, HTP.out]
  have hnw : Pk.hd (skPut false s.p) (s.p.v / 4294967296 + 1) = skNew (skPut false s.p) s.p.v := rfl
  rw [hnw]
  have hcas := rcas_any H4.M hm 1 s.p.v (skNew (skPut false s.p) s.p.v)
  rw [HB.out] at hcas
  have HCA := Lib.hid hcas
  clear hcas hnw
  go_wp2_with fail
  refine HCA.out.mono ?_
  rintro en w5 ⟨rfl, M5, T5⟩
  have H5 := H4.mem M5 T5
  clear HCA H4 M5 T5
  have H6 := H5.set (s' := { s with p := { s.p with ln := 0 } }) 0 (.int .i64 0) rfl
  have xw5 := H5.X.cells
  have zw5 := H5.X.frozen
  have ew5 : (w5.cell? ⟨w.heap.size, 0, none⟩).isSome = true := by rw [xw5, f0]; rfl
  go_wp2_with (first | (refine wpList_load_row rfl 46 _ rfl w.heap.size rfl _ (wc ({ s with p := { s.p with ln := 0 } } : Wk)) (0, 0) _ (by exact H6.X) Try.underlying46 rfl (by kernel_rfl) ?_) | (refine wpList_store_row rfl 46 _ _ rfl (w.heap.size + 1) (wc ({ s with p := { s.p with ln := 0 } } : Wk)) rfl rfl _ _ (by exact H6.Z) (by kernel_rfl) (by kernel_rfl) (by kernel_rfl) ?_))
  have ZF := H6.Z.setRow (wc ({ s with p := { s.p with ln := 0 } } : Wk))
  refine bodyPost_ret (v := .tuple #[wv ({ s with p := { s.p with ln := 0 } } : Wk), .int .i64 1, .bool true]) ?_ rfl ?_
  · exact Rw.results_cell_slot2 (p := 4) (q := 5) (r := 6) (ty := 46) Try.results89 _ _ (w.heap.size + 1) 46 _ (0, 0) _ rfl ZF Try.underlying46 rfl (by kernel_rfl)
  · exact ⟨rfl, H6.fin _⟩
set_option maxRecDepth 10000 in
set_option maxHeartbeats 4000000 in
theorem rk10en {B : Nat} {w : World} {g gl cap : Nat} {c : Cfg} {a : Acc} {L : List Int} (M : RefMem B w g c a gl cap L) (s : Wk) (hm : L.length ≤ 1000) (hL : WR L) (hl : s.p.ln = 20) (hz : low32 (ldV L 2) ≠ 0) : Calls Try.prog 89 #[.pointer (some ⟨g, 0, none⟩), wv s] w (RPost B g gl cap c ⟨acc L 1 2 0 0, L, { s.p with v := ldV L 2, h := low32 (ldV L 2), ln := 21 }, 0, true⟩ s w) := by
  have hv := ldV_wr hL 2
  have HZ := Lib.hid hz
  clear hz
  have f0 : ∀ s : Wk, (wc s)[0]? = some (.int .i64 s.p.ln) := fun _ => rfl
  have f19 : ∀ s : Wk, (wc s)[19]? = some (.int .i64 s.p.k) := fun _ => rfl
  have f20 : ∀ s : Wk, (wc s)[20]? = some (.int .i64 s.p.i) := fun _ => rfl
  have f23 : ∀ s : Wk, (wc s)[23]? = some (.int .u64 s.p.h) := fun _ => rfl
  have f25 : ∀ s : Wk, (wc s)[25]? = some (.int .u64 s.p.v) := fun _ => rfl
  have d1 : decide (20 ≤ s.p.ln) = true := by simp [hl]
  have d2 : decide (s.p.ln ≤ 25) = true := by simp [hl]
  have hsub : wrap64 (s.p.ln - 10) = 10 := by rw [hl]; exact IntWalk.wrap64_in _ (by omega)
  have hw1 : wrap64 (s.p.ln + 1) = 21 := by rw [hl]; exact IntWalk.wrap64_in _ (by omega)
  have H0 := RX.start M s
  have H1 := H0.wipe
  have hba := build_acc0
  have x0 := H0.X.cells
  obtain ⟨w1, hw1⟩ : ∃ u, u = (w.alloc (.cells (wc s) 46)).alloc (.cells (wc wz) 46) := ⟨_, rfl⟩
  rw [← hw1] at H0 H1 x0
  obtain ⟨w2, hw2⟩ : ∃ u, u = w1.setRow g (rc c a0 ⟨some ⟨gl, 0, none⟩, L.length, cap⟩) := ⟨_, rfl⟩
  rw [← hw2] at H1
  have x1 := H1.X.cells
  have l1 := H1.lt
  have HW1 := Lib.hid hw1
  have HW2 := Lib.hid hw2
  clear hl hw1 hw2
  go_enter Try.func89, Try.ntmps89
  go_wp2_with (first | ((with_reducible refine wpList_alloc_wz rfl rfl ?_); rw [← HW1.out]; clear HW1) | ((with_reducible refine Sub.wpList_store_sub rfl 78 _ _ rfl g 9 #[.int .i64 0, .int .i64 0, .int .u64 0, .int .u64 0, .int .u64 0] ?_ ?_ 103 (rc c a ⟨some ⟨gl, 0, none⟩, L.length, cap⟩) (rc c a0 ⟨some ⟨gl, 0, none⟩, L.length, cap⟩) ?_ ?_ ?_ ?_ ?_ ?_); exact rfl; exact rfl; exact H0.M.B; kernel_rfl; exact Nat.le_of_ble_eq_true (by kernel_rfl); kernel_rfl; kernel_rfl; rw [← HW2.out]; clear HW2 H0 x0))
  refine (rload_any H1.M hm 2).mono ?_
  rintro en w3 ⟨rfl, M3, T3⟩
  have H3 := H1.mem M3 T3
  obtain ⟨v0, hv0⟩ : ∃ v, v = ldV L 2 := ⟨_, rfl⟩
  rw [← hv0] at hv HZ
  simp only [← hv0]
  have HV := Lib.hid hv0
  clear hv0 x1 l1 M3 T3 H1
  have H4 := H3.set (s' := { s with p := { s.p with v := v0 } }) 25 (.int .u64 v0) rfl
  have xw3 := H3.X.cells
  have zw3 := H3.X.frozen
  have ew3 : (w3.cell? ⟨w.heap.size, 25, none⟩).isSome = true := by rw [xw3, f25]; rfl
  go_wp2_with fail
  generalize w3.setCell ⟨w.heap.size, 25, none⟩ (.int .u64 v0) = w4 at *
  clear xw3 zw3 ew3 H3
  refine (rLow32 v0 hv _).mono ?_
  rintro en w5 ⟨rfl, rfl⟩
  obtain ⟨u0, hu0⟩ : ∃ v, v = low32 v0 := ⟨_, rfl⟩
  rw [← hu0] at HZ
  simp only [← hu0]
  have HU := Lib.hid hu0
  clear hu0
  have H5 := H4.set (s' := { s with p := { s.p with v := v0, h := u0 } }) 23 (.int .u64 u0) rfl
  have xw4 := H4.X.cells
  have zw4 := H4.X.frozen
  have ew4 : (w4.cell? ⟨w.heap.size, 23, none⟩).isSome = true := by rw [xw4, f23]; rfl
  have tz : (u0 == 0) = false := by have := HZ.out; simp [this]
  have yw4 : ((w4.setCell ⟨w.heap.size, 23, none⟩ (.int .u64 u0)).cell? ⟨w.heap.size, 0, none⟩).isSome = true := by rw [H5.X.cells, f0]; rfl
  have H6 := H5.set (s' := { s with p := { s.p with v := v0, h := u0, ln := 21 } }) 0 (.int .i64 21) rfl
  go_wp2_with (first | (refine wpList_load_row rfl 46 _ rfl w.heap.size rfl _ (wc ({ s with p := { s.p with v := v0, h := u0, ln := 21 } } : Wk)) (0, 0) _ (by exact H6.X) Try.underlying46 rfl (by kernel_rfl) ?_) | (refine wpList_store_row rfl 46 _ _ rfl (w.heap.size + 1) (wc ({ s with p := { s.p with v := v0, h := u0, ln := 21 } } : Wk)) rfl rfl _ _ (by exact H6.Z) (by kernel_rfl) (by kernel_rfl) (by kernel_rfl) ?_))
  have ZF := H6.Z.setRow (wc ({ s with p := { s.p with v := v0, h := u0, ln := 21 } } : Wk))
  refine bodyPost_ret (v := .tuple #[wv ({ s with p := { s.p with v := v0, h := u0, ln := 21 } } : Wk), .int .i64 0, .bool true]) ?_ rfl ?_
  · exact Rw.results_cell_slot2 (p := 4) (q := 5) (r := 6) (ty := 46) Try.results89 _ _ (w.heap.size + 1) 46 _ (0, 0) _ rfl ZF Try.underlying46 rfl (by kernel_rfl)
  · have e_HU := HU.out
    subst e_HU
    have e_HV := HV.out
    subst e_HV
    exact ⟨rfl, H6.fin _⟩
set_option maxRecDepth 10000 in
set_option maxHeartbeats 4000000 in
theorem rk10ez {B : Nat} {w : World} {g gl cap : Nat} {c : Cfg} {a : Acc} {L : List Int} (M : RefMem B w g c a gl cap L) (s : Wk) (hm : L.length ≤ 1000) (hL : WR L) (hl : s.p.ln = 20) (hz : low32 (ldV L 2) = 0) : Calls Try.prog 89 #[.pointer (some ⟨g, 0, none⟩), wv s] w (RPost B g gl cap c ⟨acc L 1 2 0 0, L, { s.p with v := ldV L 2, h := low32 (ldV L 2), ln := 0 }, 2, true⟩ s w) := by
  have hv := ldV_wr hL 2
  have HZ := Lib.hid hz
  clear hz
  have f0 : ∀ s : Wk, (wc s)[0]? = some (.int .i64 s.p.ln) := fun _ => rfl
  have f19 : ∀ s : Wk, (wc s)[19]? = some (.int .i64 s.p.k) := fun _ => rfl
  have f20 : ∀ s : Wk, (wc s)[20]? = some (.int .i64 s.p.i) := fun _ => rfl
  have f23 : ∀ s : Wk, (wc s)[23]? = some (.int .u64 s.p.h) := fun _ => rfl
  have f25 : ∀ s : Wk, (wc s)[25]? = some (.int .u64 s.p.v) := fun _ => rfl
  have d1 : decide (20 ≤ s.p.ln) = true := by simp [hl]
  have d2 : decide (s.p.ln ≤ 25) = true := by simp [hl]
  have hsub : wrap64 (s.p.ln - 10) = 10 := by rw [hl]; exact IntWalk.wrap64_in _ (by omega)
  have hw1 : wrap64 (s.p.ln + 1) = 21 := by rw [hl]; exact IntWalk.wrap64_in _ (by omega)
  have H0 := RX.start M s
  have H1 := H0.wipe
  have hba := build_acc0
  have x0 := H0.X.cells
  obtain ⟨w1, hw1⟩ : ∃ u, u = (w.alloc (.cells (wc s) 46)).alloc (.cells (wc wz) 46) := ⟨_, rfl⟩
  rw [← hw1] at H0 H1 x0
  obtain ⟨w2, hw2⟩ : ∃ u, u = w1.setRow g (rc c a0 ⟨some ⟨gl, 0, none⟩, L.length, cap⟩) := ⟨_, rfl⟩
  rw [← hw2] at H1
  have x1 := H1.X.cells
  have l1 := H1.lt
  have HW1 := Lib.hid hw1
  have HW2 := Lib.hid hw2
  clear hl hw1 hw2
  go_enter Try.func89, Try.ntmps89
  go_wp2_with (first | ((with_reducible refine wpList_alloc_wz rfl rfl ?_); rw [← HW1.out]; clear HW1) | ((with_reducible refine Sub.wpList_store_sub rfl 78 _ _ rfl g 9 #[.int .i64 0, .int .i64 0, .int .u64 0, .int .u64 0, .int .u64 0] ?_ ?_ 103 (rc c a ⟨some ⟨gl, 0, none⟩, L.length, cap⟩) (rc c a0 ⟨some ⟨gl, 0, none⟩, L.length, cap⟩) ?_ ?_ ?_ ?_ ?_ ?_); exact rfl; exact rfl; exact H0.M.B; kernel_rfl; exact Nat.le_of_ble_eq_true (by kernel_rfl); kernel_rfl; kernel_rfl; rw [← HW2.out]; clear HW2 H0 x0))
  refine (rload_any H1.M hm 2).mono ?_
  rintro en w3 ⟨rfl, M3, T3⟩
  have H3 := H1.mem M3 T3
  obtain ⟨v0, hv0⟩ : ∃ v, v = ldV L 2 := ⟨_, rfl⟩
  rw [← hv0] at hv HZ
  simp only [← hv0]
  have HV := Lib.hid hv0
  clear hv0 x1 l1 M3 T3 H1
  have H4 := H3.set (s' := { s with p := { s.p with v := v0 } }) 25 (.int .u64 v0) rfl
  have xw3 := H3.X.cells
  have zw3 := H3.X.frozen
  have ew3 : (w3.cell? ⟨w.heap.size, 25, none⟩).isSome = true := by rw [xw3, f25]; rfl
  go_wp2_with fail
  generalize w3.setCell ⟨w.heap.size, 25, none⟩ (.int .u64 v0) = w4 at *
  clear xw3 zw3 ew3 H3
  refine (rLow32 v0 hv _).mono ?_
  rintro en w5 ⟨rfl, rfl⟩
  obtain ⟨u0, hu0⟩ : ∃ v, v = low32 v0 := ⟨_, rfl⟩
  rw [← hu0] at HZ
  simp only [← hu0]
  have HU := Lib.hid hu0
  clear hu0
  have H5 := H4.set (s' := { s with p := { s.p with v := v0, h := u0 } }) 23 (.int .u64 u0) rfl
  have xw4 := H4.X.cells
  have zw4 := H4.X.frozen
  have ew4 : (w4.cell? ⟨w.heap.size, 23, none⟩).isSome = true := by rw [xw4, f23]; rfl
  have tz : (u0 == 0) = true := by have := HZ.out; simp [this]
  have yw4 : ((w4.setCell ⟨w.heap.size, 23, none⟩ (.int .u64 u0)).cell? ⟨w.heap.size, 0, none⟩).isSome = true := by rw [H5.X.cells, f0]; rfl
  have H6 := H5.set (s' := { s with p := { s.p with v := v0, h := u0, ln := 21 } }) 0 (.int .i64 21) rfl
  have yw5 : (((w4.setCell ⟨w.heap.size, 23, none⟩ (.int .u64 u0)).setCell ⟨w.heap.size, 0, none⟩ (.int .i64 21)).cell? ⟨w.heap.size, 0, none⟩).isSome = true := by rw [H6.X.cells, f0]; rfl
  have H7 := H6.set (s' := { s with p := { s.p with v := v0, h := u0, ln := 0 } }) 0 (.int .i64 0) rfl
  go_wp2_with (first | (refine wpList_load_row rfl 46 _ rfl w.heap.size rfl _ (wc ({ s with p := { s.p with v := v0, h := u0, ln := 0 } } : Wk)) (0, 0) _ (by exact H7.X) Try.underlying46 rfl (by kernel_rfl) ?_) | (refine wpList_store_row rfl 46 _ _ rfl (w.heap.size + 1) (wc ({ s with p := { s.p with v := v0, h := u0, ln := 0 } } : Wk)) rfl rfl _ _ (by exact H7.Z) (by kernel_rfl) (by kernel_rfl) (by kernel_rfl) ?_))
  have ZF := H7.Z.setRow (wc ({ s with p := { s.p with v := v0, h := u0, ln := 0 } } : Wk))
  refine bodyPost_ret (v := .tuple #[wv ({ s with p := { s.p with v := v0, h := u0, ln := 0 } } : Wk), .int .i64 2, .bool true]) ?_ rfl ?_
  · exact Rw.results_cell_slot2 (p := 4) (q := 5) (r := 6) (ty := 46) Try.results89 _ _ (w.heap.size + 1) 46 _ (0, 0) _ rfl ZF Try.underlying46 rfl (by kernel_rfl)
  · have e_HU := HU.out
    subst e_HU
    have e_HV := HV.out
    subst e_HV
    exact ⟨rfl, H7.fin _⟩
set_option maxRecDepth 10000 in
set_option maxHeartbeats 4000000 in
theorem rk11e {B : Nat} {w : World} {g gl cap : Nat} {c : Cfg} {a : Acc} {L : List Int} (M : RefMem B w g c a gl cap L) (s : Wk) (hm : L.length ≤ 1000) (hL : WR L) (hf : c.Wf) (hl : s.p.ln = 21) : Calls Try.prog 89 #[.pointer (some ⟨g, 0, none⟩), wv s] w (RPost B g gl cap c ⟨acc L 1 (skLk c true (wrap64 (s.p.h - 1))) 0 0, L, { s.p with n := ldV L (skLk c true (wrap64 (s.p.h - 1))), ln := 22 }, 0, true⟩ s w) := by
  have f0 : ∀ s : Wk, (wc s)[0]? = some (.int .i64 s.p.ln) := fun _ => rfl
  have f19 : ∀ s : Wk, (wc s)[19]? = some (.int .i64 s.p.k) := fun _ => rfl
  have f20 : ∀ s : Wk, (wc s)[20]? = some (.int .i64 s.p.i) := fun _ => rfl
  have f23 : ∀ s : Wk, (wc s)[23]? = some (.int .u64 s.p.h) := fun _ => rfl
  have f24 : ∀ s : Wk, (wc s)[24]? = some (.int .u64 s.p.n) := fun _ => rfl
  have d1 : decide (20 ≤ s.p.ln) = true := by simp [hl]
  have d2 : decide (s.p.ln ≤ 25) = true := by simp [hl]
  have hsub : wrap64 (s.p.ln - 10) = 11 := by rw [hl]; exact IntWalk.wrap64_in _ (by omega)
  have hw1 : wrap64 (s.p.ln + 1) = 22 := by rw [hl]; exact IntWalk.wrap64_in _ (by omega)
  have HCV := Lib.hid (show wrap64 (wrap64 s.p.h - 1) = wrap64 (s.p.h - 1) by unfold wrap64; omega)
  have H0 := RX.start M s
  have H1 := H0.wipe
  have hba := build_acc0
  have x0 := H0.X.cells
  obtain ⟨w1, hw1⟩ : ∃ u, u = (w.alloc (.cells (wc s) 46)).alloc (.cells (wc wz) 46) := ⟨_, rfl⟩
  rw [← hw1] at H0 H1 x0
  obtain ⟨w2, hw2⟩ : ∃ u, u = w1.setRow g (rc c a0 ⟨some ⟨gl, 0, none⟩, L.length, cap⟩) := ⟨_, rfl⟩
  rw [← hw2] at H1
  have x1 := H1.X.cells
  have l1 := H1.lt
  have HW1 := Lib.hid hw1
  have HW2 := Lib.hid hw2
  clear hl hw1 hw2
  go_enter Try.func89, Try.ntmps89
  go_wp2_with (first | ((with_reducible refine wpList_alloc_wz rfl rfl ?_); rw [← HW1.out]; clear HW1) | ((with_reducible refine Sub.wpList_store_sub rfl 78 _ _ rfl g 9 #[.int .i64 0, .int .i64 0, .int .u64 0, .int .u64 0, .int .u64 0] ?_ ?_ 103 (rc c a ⟨some ⟨gl, 0, none⟩, L.length, cap⟩) (rc c a0 ⟨some ⟨gl, 0, none⟩, L.length, cap⟩) ?_ ?_ ?_ ?_ ?_ ?_); exact rfl; exact rfl; exact H0.M.B; kernel_rfl; exact Nat.le_of_ble_eq_true (by kernel_rfl); kernel_rfl; kernel_rfl; rw [← HW2.out]; clear HW2 H0 x0))
  rw [HCV.out]
  refine (rLink H1.M hf true (wrap64 (s.p.h - 1))).mono ?_
  rintro en w2' ⟨rfl, hb2⟩
  have H2 := H1.keep hb2
  clear hb2 H1 x1 l1
  go_wp2_with fail
  refine (rload_any H2.M hm _).mono ?_
  rintro en w3 ⟨rfl, M3, T3⟩
  have H3 := H2.mem M3 T3
  obtain ⟨v0, hv0⟩ : ∃ v, v = ldV L (skLk c true (wrap64 (s.p.h - 1))) := ⟨_, rfl⟩
  simp only [← hv0]
  have HV := Lib.hid hv0
  clear hv0 M3 T3 H2
  have H4 := H3.set (s' := { s with p := { s.p with n := v0 } }) 24 (.int .u64 v0) rfl
  have xw3 := H3.X.cells
  have zw3 := H3.X.frozen
  have ew3 : (w3.cell? ⟨w.heap.size, 24, none⟩).isSome = true := by rw [xw3, f24]; rfl
  have yw4 : ((w3.setCell ⟨w.heap.size, 24, none⟩ (.int .u64 v0)).cell? ⟨w.heap.size, 0, none⟩).isSome = true := by rw [H4.X.cells, f0]; rfl
  have H6 := H4.set (s' := { s with p := { s.p with n := v0, ln := 22 } }) 0 (.int .i64 22) rfl
  go_wp2_with (first | (refine wpList_load_row rfl 46 _ rfl w.heap.size rfl _ (wc ({ s with p := { s.p with n := v0, ln := 22 } } : Wk)) (0, 0) _ (by exact H6.X) Try.underlying46 rfl (by kernel_rfl) ?_) | (refine wpList_store_row rfl 46 _ _ rfl (w.heap.size + 1) (wc ({ s with p := { s.p with n := v0, ln := 22 } } : Wk)) rfl rfl _ _ (by exact H6.Z) (by kernel_rfl) (by kernel_rfl) (by kernel_rfl) ?_))
  have ZF := H6.Z.setRow (wc ({ s with p := { s.p with n := v0, ln := 22 } } : Wk))
  refine bodyPost_ret (v := .tuple #[wv ({ s with p := { s.p with n := v0, ln := 22 } } : Wk), .int .i64 0, .bool true]) ?_ rfl ?_
  · exact Rw.results_cell_slot2 (p := 4) (q := 5) (r := 6) (ty := 46) Try.results89 _ _ (w.heap.size + 1) 46 _ (0, 0) _ rfl ZF Try.underlying46 rfl (by kernel_rfl)
  · have e_HV := HV.out
    subst e_HV
    exact ⟨rfl, H6.fin _⟩
set_option maxRecDepth 10000 in
set_option maxHeartbeats 4000000 in
theorem rk12en {B : Nat} {w : World} {g gl cap : Nat} {c : Cfg} {a : Acc} {L : List Int} (M : RefMem B w g c a gl cap L) (s : Wk) (hm : L.length ≤ 1000) (hL : WR L) (hn : 0 ≤ s.p.n ∧ s.p.n < 18446744073709551616) (hv : 0 ≤ s.p.v ∧ s.p.v < 18446744073709551616) (hl : s.p.ln = 22) (hb : csB L 2 s.p.v = false) : Calls Try.prog 89 #[.pointer (some ⟨g, 0, none⟩), wv s] w (RPost B g gl cap c ⟨acc L 3 2 s.p.v (skNew (low32 s.p.n - 1) s.p.v), csL L 2 s.p.v (skNew (low32 s.p.n - 1) s.p.v), { s.p with ln := 20 }, 0, true⟩ s w) := by
  have f0 : ∀ s : Wk, (wc s)[0]? = some (.int .i64 s.p.ln) := fun _ => rfl
  have f19 : ∀ s : Wk, (wc s)[19]? = some (.int .i64 s.p.k) := fun _ => rfl
  have f20 : ∀ s : Wk, (wc s)[20]? = some (.int .i64 s.p.i) := fun _ => rfl
  have f24 : ∀ s : Wk, (wc s)[24]? = some (.int .u64 s.p.n) := fun _ => rfl
  have f25 : ∀ s : Wk, (wc s)[25]? = some (.int .u64 s.p.v) := fun _ => rfl
  have d1 : decide (20 ≤ s.p.ln) = true := by simp [hl]
  have d2 : decide (s.p.ln ≤ 25) = true := by simp [hl]
  have hsub : wrap64 (s.p.ln - 10) = 12 := by rw [hl]; exact IntWalk.wrap64_in _ (by omega)
  have HB := Lib.hid hb
  have HUN := Lib.hid (fun w => rUnhead s.p.v hv w)
  have HVER := Lib.hid (show IntKind.u64.wrap (s.p.v / 4294967296 + 1) = s.p.v / 4294967296 + 1 by rw [IntKind.wrap_u64]; omega)
  clear hb hv
  have HLW := Lib.hid (fun w => rLow32 s.p.n hn w)
  have HTP := Lib.hid (show wrap64 (wrap64 (low32 s.p.n) - 1) = low32 s.p.n - 1 by unfold low32 wrap64; omega)
  have H0 := RX.start M s
  have H1 := H0.wipe
  have hba := build_acc0
  have x0 := H0.X.cells
  obtain ⟨w1, hw1⟩ : ∃ u, u = (w.alloc (.cells (wc s) 46)).alloc (.cells (wc wz) 46) := ⟨_, rfl⟩
  rw [← hw1] at H0 H1 x0
  obtain ⟨w2, hw2⟩ : ∃ u, u = w1.setRow g (rc c a0 ⟨some ⟨gl, 0, none⟩, L.length, cap⟩) := ⟨_, rfl⟩
  rw [← hw2] at H1
  have x1 := H1.X.cells
  have l1 := H1.lt
  have HW1 := Lib.hid hw1
  have HW2 := Lib.hid hw2
  clear hl hw1 hw2
  go_enter Try.func89, Try.ntmps89
  go_wp2_with (first | ((with_reducible refine wpList_alloc_wz rfl rfl ?_); rw [← HW1.out]; clear HW1) | ((with_reducible refine Sub.wpList_store_sub rfl 78 _ _ rfl g 9 #[.int .i64 0, .int .i64 0, .int .u64 0, .int .u64 0, .int .u64 0] ?_ ?_ 103 (rc c a ⟨some ⟨gl, 0, none⟩, L.length, cap⟩) (rc c a0 ⟨some ⟨gl, 0, none⟩, L.length, cap⟩) ?_ ?_ ?_ ?_ ?_ ?_); exact rfl; exact rfl; exact H0.M.B; kernel_rfl; exact Nat.le_of_ble_eq_true (by kernel_rfl); kernel_rfl; kernel_rfl; rw [← HW2.out]; clear HW2 H0 x0))
  refine (HUN.out _).mono ?_
  rintro en w3 ⟨rfl, hb3⟩
  have H2 := H1.keep hb3
  clear x1 l1 H1 hb3
  have x2 := H2.X.cells
  have l2 := H2.lt
  have lg2 := H2.M.lt.1
  go_wp2
  refine wp_region_grown_tail 12 (by kernel_rfl) (by kernel_rfl) ?_
  simp only [List.take_succ_cons, List.take_zero, List.drop_succ_cons, List.drop_zero]
  have hg := @gcell
  repeat (go_big_quiet_step (first | exact grown_same (HLW.out _) | exact grown_same (Pk.rhead _ _ (wrap_rng _).1 (wrap_rng _).2 _)))
  refine wpQuiet_nil ?_
  rintro w4 ⟨⟨_, hb4⟩, rfl⟩
  clear hg
  have H4 := H2.keep hb4
  clear x2 l2 lg2 H2 hb4
  rw [HVER.out, HTP.out]
  have hnw : Pk.hd (low32 s.p.n - 1) (s.p.v / 4294967296 + 1) = skNew (low32 s.p.n - 1) s.p.v := rfl
  rw [hnw]
  have hcas := rcas_any H4.M hm 2 s.p.v (skNew (low32 s.p.n - 1) s.p.v)
  rw [HB.out] at hcas
  have HCA := Lib.hid hcas
  clear hcas hnw
  go_wp2_with fail
  refine HCA.out.mono ?_
  rintro en w5 ⟨rfl, M5, T5⟩
  have H5 := H4.mem M5 T5
  clear HCA H4 M5 T5
  have H6 := H5.set (s' := { s with p := { s.p with ln := 20 } }) 0 (.int .i64 20) rfl
  have xw5 := H5.X.cells
  have zw5 := H5.X.frozen
  have ew5 : (w5.cell? ⟨w.heap.size, 0, none⟩).isSome = true := by rw [xw5, f0]; rfl
  go_wp2_with (first | (refine wpList_load_row rfl 46 _ rfl w.heap.size rfl _ (wc ({ s with p := { s.p with ln := 20 } } : Wk)) (0, 0) _ (by exact H6.X) Try.underlying46 rfl (by kernel_rfl) ?_) | (refine wpList_store_row rfl 46 _ _ rfl (w.heap.size + 1) (wc ({ s with p := { s.p with ln := 20 } } : Wk)) rfl rfl _ _ (by exact H6.Z) (by kernel_rfl) (by kernel_rfl) (by kernel_rfl) ?_))
  have ZF := H6.Z.setRow (wc ({ s with p := { s.p with ln := 20 } } : Wk))
  refine bodyPost_ret (v := .tuple #[wv ({ s with p := { s.p with ln := 20 } } : Wk), .int .i64 0, .bool true]) ?_ rfl ?_
  · exact Rw.results_cell_slot2 (p := 4) (q := 5) (r := 6) (ty := 46) Try.results89 _ _ (w.heap.size + 1) 46 _ (0, 0) _ rfl ZF Try.underlying46 rfl (by kernel_rfl)
  · exact ⟨rfl, H6.fin _⟩
set_option maxRecDepth 10000 in
set_option maxHeartbeats 4000000 in
theorem rk12ey {B : Nat} {w : World} {g gl cap : Nat} {c : Cfg} {a : Acc} {L : List Int} (M : RefMem B w g c a gl cap L) (s : Wk) (hm : L.length ≤ 1000) (hL : WR L) (hn : 0 ≤ s.p.n ∧ s.p.n < 18446744073709551616) (hv : 0 ≤ s.p.v ∧ s.p.v < 18446744073709551616) (hl : s.p.ln = 22) (hb : csB L 2 s.p.v = true) : Calls Try.prog 89 #[.pointer (some ⟨g, 0, none⟩), wv s] w (RPost B g gl cap c ⟨acc L 3 2 s.p.v (skNew (low32 s.p.n - 1) s.p.v), csL L 2 s.p.v (skNew (low32 s.p.n - 1) s.p.v), { s.p with ln := 0 }, 1, true⟩ s w) := by
  have f0 : ∀ s : Wk, (wc s)[0]? = some (.int .i64 s.p.ln) := fun _ => rfl
  have f19 : ∀ s : Wk, (wc s)[19]? = some (.int .i64 s.p.k) := fun _ => rfl
  have f20 : ∀ s : Wk, (wc s)[20]? = some (.int .i64 s.p.i) := fun _ => rfl
  have f24 : ∀ s : Wk, (wc s)[24]? = some (.int .u64 s.p.n) := fun _ => rfl
  have f25 : ∀ s : Wk, (wc s)[25]? = some (.int .u64 s.p.v) := fun _ => rfl
  have d1 : decide (20 ≤ s.p.ln) = true := by simp [hl]
  have d2 : decide (s.p.ln ≤ 25) = true := by simp [hl]
  have hsub : wrap64 (s.p.ln - 10) = 12 := by rw [hl]; exact IntWalk.wrap64_in _ (by omega)
  have HB := Lib.hid hb
  have HUN := Lib.hid (fun w => rUnhead s.p.v hv w)
  have HVER := Lib.hid (show IntKind.u64.wrap (s.p.v / 4294967296 + 1) = s.p.v / 4294967296 + 1 by rw [IntKind.wrap_u64]; omega)
  clear hb hv
  have HLW := Lib.hid (fun w => rLow32 s.p.n hn w)
  have HTP := Lib.hid (show wrap64 (wrap64 (low32 s.p.n) - 1) = low32 s.p.n - 1 by unfold low32 wrap64; omega)
  have H0 := RX.start M s
  have H1 := H0.wipe
  have hba := build_acc0
  have x0 := H0.X.cells
  obtain ⟨w1, hw1⟩ : ∃ u, u = (w.alloc (.cells (wc s) 46)).alloc (.cells (wc wz) 46) := ⟨_, rfl⟩
  rw [← hw1] at H0 H1 x0
  obtain ⟨w2, hw2⟩ : ∃ u, u = w1.setRow g (rc c a0 ⟨some ⟨gl, 0, none⟩, L.length, cap⟩) := ⟨_, rfl⟩
  rw [← hw2] at H1
  have x1 := H1.X.cells
  have l1 := H1.lt
  have HW1 := Lib.hid hw1
  have HW2 := Lib.hid hw2
  clear hl hw1 hw2
  go_enter Try.func89, Try.ntmps89
  go_wp2_with (first | ((with_reducible refine wpList_alloc_wz rfl rfl ?_); rw [← HW1.out]; clear HW1) | ((with_reducible refine Sub.wpList_store_sub rfl 78 _ _ rfl g 9 #[.int .i64 0, .int .i64 0, .int .u64 0, .int .u64 0, .int .u64 0] ?_ ?_ 103 (rc c a ⟨some ⟨gl, 0, none⟩, L.length, cap⟩) (rc c a0 ⟨some ⟨gl, 0, none⟩, L.length, cap⟩) ?_ ?_ ?_ ?_ ?_ ?_); exact rfl; exact rfl; exact H0.M.B; kernel_rfl; exact Nat.le_of_ble_eq_true (by kernel_rfl); kernel_rfl; kernel_rfl; rw [← HW2.out]; clear HW2 H0 x0))
  refine (HUN.out _).mono ?_
  rintro en w3 ⟨rfl, hb3⟩
  have H2 := H1.keep hb3
  clear x1 l1 H1 hb3
  have x2 := H2.X.cells
  have l2 := H2.lt
  have lg2 := H2.M.lt.1
  go_wp2
  refine wp_region_grown_tail 12 (by kernel_rfl) (by kernel_rfl) ?_
  simp only [List.take_succ_cons, List.take_zero, List.drop_succ_cons, List.drop_zero]
  have hg := @gcell
  repeat (go_big_quiet_step (first | exact grown_same (HLW.out _) | exact grown_same (Pk.rhead _ _ (wrap_rng _).1 (wrap_rng _).2 _)))
  refine wpQuiet_nil ?_
  rintro w4 ⟨⟨_, hb4⟩, rfl⟩
  clear hg
  have H4 := H2.keep hb4
  clear x2 l2 lg2 H2 hb4
  rw [HVER.out, HTP.out]
  have hnw : Pk.hd (low32 s.p.n - 1) (s.p.v / 4294967296 + 1) = skNew (low32 s.p.n - 1) s.p.v := rfl
  rw [hnw]
  have hcas := rcas_any H4.M hm 2 s.p.v (skNew (low32 s.p.n - 1) s.p.v)
  rw [HB.out] at hcas
  have HCA := Lib.hid hcas
  clear hcas hnw
  go_wp2_with fail
  refine HCA.out.mono ?_
  rintro en w5 ⟨rfl, M5, T5⟩
  have H5 := H4.mem M5 T5
  clear HCA H4 M5 T5
  have H6 := H5.set (s' := { s with p := { s.p with ln := 0 } }) 0 (.int .i64 0) rfl
  have xw5 := H5.X.cells
  have zw5 := H5.X.frozen
  have ew5 : (w5.cell? ⟨w.heap.size, 0, none⟩).isSome = true := by rw [xw5, f0]; rfl
  go_wp2_with (first | (refine wpList_load_row rfl 46 _ rfl w.heap.size rfl _ (wc ({ s with p := { s.p with ln := 0 } } : Wk)) (0, 0) _ (by exact H6.X) Try.underlying46 rfl (by kernel_rfl) ?_) | (refine wpList_store_row rfl 46 _ _ rfl (w.heap.size + 1) (wc ({ s with p := { s.p with ln := 0 } } : Wk)) rfl rfl _ _ (by exact H6.Z) (by kernel_rfl) (by kernel_rfl) (by kernel_rfl) ?_))
  have ZF := H6.Z.setRow (wc ({ s with p := { s.p with ln := 0 } } : Wk))
  refine bodyPost_ret (v := .tuple #[wv ({ s with p := { s.p with ln := 0 } } : Wk), .int .i64 1, .bool true]) ?_ rfl ?_
  · exact Rw.results_cell_slot2 (p := 4) (q := 5) (r := 6) (ty := 46) Try.results89 _ _ (w.heap.size + 1) 46 _ (0, 0) _ rfl ZF Try.underlying46 rfl (by kernel_rfl)
  · exact ⟨rfl, H6.fin _⟩
set_option maxRecDepth 10000 in
set_option maxHeartbeats 4000000 in
theorem rk13e {B : Nat} {w : World} {g gl cap : Nat} {c : Cfg} {a : Acc} {L : List Int} (M : RefMem B w g c a gl cap L) (s : Wk) (hm : L.length ≤ 1000) (hL : WR L) (hl : s.p.ln = 23) : Calls Try.prog 89 #[.pointer (some ⟨g, 0, none⟩), wv s] w (RPost B g gl cap c ⟨acc L 1 2 0 0, L, { s.p with v := ldV L 2, ln := 24 }, 0, true⟩ s w) := by
  have f0 : ∀ s : Wk, (wc s)[0]? = some (.int .i64 s.p.ln) := fun _ => rfl
  have f19 : ∀ s : Wk, (wc s)[19]? = some (.int .i64 s.p.k) := fun _ => rfl
  have f20 : ∀ s : Wk, (wc s)[20]? = some (.int .i64 s.p.i) := fun _ => rfl
  have f25 : ∀ s : Wk, (wc s)[25]? = some (.int .u64 s.p.v) := fun _ => rfl
  have d1 : decide (20 ≤ s.p.ln) = true := by simp [hl]
  have d2 : decide (s.p.ln ≤ 25) = true := by simp [hl]
  have hsub : wrap64 (s.p.ln - 10) = 13 := by rw [hl]; exact IntWalk.wrap64_in _ (by omega)
  have hw1 : wrap64 (s.p.ln + 1) = 24 := by rw [hl]; exact IntWalk.wrap64_in _ (by omega)
  have H0 := RX.start M s
  have H1 := H0.wipe
  have hba := build_acc0
  have x0 := H0.X.cells
  obtain ⟨w1, hw1⟩ : ∃ u, u = (w.alloc (.cells (wc s) 46)).alloc (.cells (wc wz) 46) := ⟨_, rfl⟩
  rw [← hw1] at H0 H1 x0
  obtain ⟨w2, hw2⟩ : ∃ u, u = w1.setRow g (rc c a0 ⟨some ⟨gl, 0, none⟩, L.length, cap⟩) := ⟨_, rfl⟩
  rw [← hw2] at H1
  have x1 := H1.X.cells
  have l1 := H1.lt
  have HW1 := Lib.hid hw1
  have HW2 := Lib.hid hw2
  clear hl hw1 hw2
  go_enter Try.func89, Try.ntmps89
  go_wp2_with (first | ((with_reducible refine wpList_alloc_wz rfl rfl ?_); rw [← HW1.out]; clear HW1) | ((with_reducible refine Sub.wpList_store_sub rfl 78 _ _ rfl g 9 #[.int .i64 0, .int .i64 0, .int .u64 0, .int .u64 0, .int .u64 0] ?_ ?_ 103 (rc c a ⟨some ⟨gl, 0, none⟩, L.length, cap⟩) (rc c a0 ⟨some ⟨gl, 0, none⟩, L.length, cap⟩) ?_ ?_ ?_ ?_ ?_ ?_); exact rfl; exact rfl; exact H0.M.B; kernel_rfl; exact Nat.le_of_ble_eq_true (by kernel_rfl); kernel_rfl; kernel_rfl; rw [← HW2.out]; clear HW2 H0 x0))
  refine (rload_any H1.M hm 2).mono ?_
  rintro en w3 ⟨rfl, M3, T3⟩
  have H3 := H1.mem M3 T3
  obtain ⟨v0, hv0⟩ : ∃ v, v = ldV L 2 := ⟨_, rfl⟩
  simp only [← hv0]
  have HV := Lib.hid hv0
  clear hv0 x1 l1 M3 T3 H1
  have H4 := H3.set (s' := { s with p := { s.p with v := v0 } }) 25 (.int .u64 v0) rfl
  have xw3 := H3.X.cells
  have zw3 := H3.X.frozen
  have ew3 : (w3.cell? ⟨w.heap.size, 25, none⟩).isSome = true := by rw [xw3, f25]; rfl
  have yw4 : ((w3.setCell ⟨w.heap.size, 25, none⟩ (.int .u64 v0)).cell? ⟨w.heap.size, 0, none⟩).isSome = true := by rw [H4.X.cells, f0]; rfl
  have H6 := H4.set (s' := { s with p := { s.p with v := v0, ln := 24 } }) 0 (.int .i64 24) rfl
  go_wp2_with (first | (refine wpList_load_row rfl 46 _ rfl w.heap.size rfl _ (wc ({ s with p := { s.p with v := v0, ln := 24 } } : Wk)) (0, 0) _ (by exact H6.X) Try.underlying46 rfl (by kernel_rfl) ?_) | (refine wpList_store_row rfl 46 _ _ rfl (w.heap.size + 1) (wc ({ s with p := { s.p with v := v0, ln := 24 } } : Wk)) rfl rfl _ _ (by exact H6.Z) (by kernel_rfl) (by kernel_rfl) (by kernel_rfl) ?_))
  have ZF := H6.Z.setRow (wc ({ s with p := { s.p with v := v0, ln := 24 } } : Wk))
  refine bodyPost_ret (v := .tuple #[wv ({ s with p := { s.p with v := v0, ln := 24 } } : Wk), .int .i64 0, .bool true]) ?_ rfl ?_
  · exact Rw.results_cell_slot2 (p := 4) (q := 5) (r := 6) (ty := 46) Try.results89 _ _ (w.heap.size + 1) 46 _ (0, 0) _ rfl ZF Try.underlying46 rfl (by kernel_rfl)
  · have e_HV := HV.out
    subst e_HV
    exact ⟨rfl, H6.fin _⟩
set_option maxRecDepth 10000 in
set_option maxHeartbeats 4000000 in
theorem rk14e {B : Nat} {w : World} {g gl cap : Nat} {c : Cfg} {a : Acc} {L : List Int} (M : RefMem B w g c a gl cap L) (s : Wk) (hm : L.length ≤ 1000) (hL : WR L) (hf : c.Wf) (hv : 0 ≤ s.p.v ∧ s.p.v < 18446744073709551616) (hl : s.p.ln = 24) : Calls Try.prog 89 #[.pointer (some ⟨g, 0, none⟩), wv s] w (RPost B g gl cap c ⟨acc L 2 (skLk c true (skPut true s.p)) (low32 s.p.v) 0, stL L (skLk c true (skPut true s.p)) (low32 s.p.v), { s.p with ln := 25 }, 0, true⟩ s w) := by
  have f0 : ∀ s : Wk, (wc s)[0]? = some (.int .i64 s.p.ln) := fun _ => rfl
  have f19 : ∀ s : Wk, (wc s)[19]? = some (.int .i64 s.p.k) := fun _ => rfl
  have f20 : ∀ s : Wk, (wc s)[20]? = some (.int .i64 s.p.i) := fun _ => rfl
  have f25 : ∀ s : Wk, (wc s)[25]? = some (.int .u64 s.p.v) := fun _ => rfl
  have d1 : decide (20 ≤ s.p.ln) = true := by simp [hl]
  have d2 : decide (s.p.ln ≤ 25) = true := by simp [hl]
  have hsub : wrap64 (s.p.ln - 10) = 14 := by rw [hl]; exact IntWalk.wrap64_in _ (by omega)
  have HLW := Lib.hid (fun w => rLow32 s.p.v hv w)
  have HTP := Lib.hid (show wrap64 (s.p.i - 1) = skPut true s.p from rfl)
  clear hv
  have hw1 : wrap64 (s.p.ln + 1) = 25 := by rw [hl]; exact IntWalk.wrap64_in _ (by omega)
  have H0 := RX.start M s
  have H1 := H0.wipe
  have hba := build_acc0
  have x0 := H0.X.cells
  obtain ⟨w1, hw1⟩ : ∃ u, u = (w.alloc (.cells (wc s) 46)).alloc (.cells (wc wz) 46) := ⟨_, rfl⟩
  rw [← hw1] at H0 H1 x0
  obtain ⟨w2, hw2⟩ : ∃ u, u = w1.setRow g (rc c a0 ⟨some ⟨gl, 0, none⟩, L.length, cap⟩) := ⟨_, rfl⟩
  rw [← hw2] at H1
  have x1 := H1.X.cells
  have l1 := H1.lt
  have HW1 := Lib.hid hw1
  have HW2 := Lib.hid hw2
  clear hl hw1 hw2
  go_enter Try.func89, Try.ntmps89
  go_wp2_with (first | ((with_reducible refine wpList_alloc_wz rfl rfl ?_); rw [← HW1.out]; clear HW1) | ((with_reducible refine Sub.wpList_store_sub rfl 78 _ _ rfl g 9 #[.int .i64 0, .int .i64 0, .int .u64 0, .int .u64 0, .int .u64 0] ?_ ?_ 103 (rc c a ⟨some ⟨gl, 0, none⟩, L.length, cap⟩) (rc c a0 ⟨some ⟨gl, 0, none⟩, L.length, cap⟩) ?_ ?_ ?_ ?_ ?_ ?_); exact rfl; exact rfl; exact H0.M.B; kernel_rfl; exact Nat.le_of_ble_eq_true (by kernel_rfl); kernel_rfl; kernel_rfl; rw [← HW2.out]; clear HW2 H0 x0))
  have HLK := Lib.hid (fun (n : Gr w2) i => rLink (H1.M.keep n.2) hf true i)
  have lg2 := H1.M.lt.1
  refine wp_region_grown_tail 9 (by kernel_rfl) (by kernel_rfl) ?_
  simp only [List.take_succ_cons, List.take_zero, List.drop_succ_cons, List.drop_zero]
  have hg := @gcell
  repeat (go_big_quiet_step (first | exact grown_same (HLW.out _) | exact grown_of (HLK.out _ _)))
  refine wpQuiet_nil ?_
  rintro w4 ⟨⟨_, hb4⟩, rfl⟩
  clear hg
  have H4 := H1.keep hb4
  clear x1 l1 lg2 H1 hb4
  rw [HTP.out]
  go_wp2_with fail
  refine (rstore_any H4.M hm _ _).mono ?_
  rintro en w5 ⟨rfl, M5, T5⟩
  have H5 := H4.mem M5 T5
  clear H4 M5 T5
  have H6 := H5.set (s' := { s with p := { s.p with ln := 25 } }) 0 (.int .i64 25) rfl
  have xw5 := H5.X.cells
  have zw5 := H5.X.frozen
  have ew5 : (w5.cell? ⟨w.heap.size, 0, none⟩).isSome = true := by rw [xw5, f0]; rfl
  go_wp2_with (first | (refine wpList_load_row rfl 46 _ rfl w.heap.size rfl _ (wc ({ s with p := { s.p with ln := 25 } } : Wk)) (0, 0) _ (by exact H6.X) Try.underlying46 rfl (by kernel_rfl) ?_) | (refine wpList_store_row rfl 46 _ _ rfl (w.heap.size + 1) (wc ({ s with p := { s.p with ln := 25 } } : Wk)) rfl rfl _ _ (by exact H6.Z) (by kernel_rfl) (by kernel_rfl) (by kernel_rfl) ?_))
  have ZF := H6.Z.setRow (wc ({ s with p := { s.p with ln := 25 } } : Wk))
  refine bodyPost_ret (v := .tuple #[wv ({ s with p := { s.p with ln := 25 } } : Wk), .int .i64 0, .bool true]) ?_ rfl ?_
  · exact Rw.results_cell_slot2 (p := 4) (q := 5) (r := 6) (ty := 46) Try.results89 _ _ (w.heap.size + 1) 46 _ (0, 0) _ rfl ZF Try.underlying46 rfl (by kernel_rfl)
  · exact ⟨rfl, H6.fin _⟩
set_option maxRecDepth 10000 in
set_option maxHeartbeats 4000000 in
theorem rk15en {B : Nat} {w : World} {g gl cap : Nat} {c : Cfg} {a : Acc} {L : List Int} (M : RefMem B w g c a gl cap L) (s : Wk) (hm : L.length ≤ 1000) (hL : WR L) (hv : 0 ≤ s.p.v ∧ s.p.v < 18446744073709551616) (hl : s.p.ln = 25) (hb : csB L 2 s.p.v = false) : Calls Try.prog 89 #[.pointer (some ⟨g, 0, none⟩), wv s] w (RPost B g gl cap c ⟨acc L 3 2 s.p.v (skNew (skPut true s.p) s.p.v), csL L 2 s.p.v (skNew (skPut true s.p) s.p.v), { s.p with ln := 23 }, 0, true⟩ s w) := by
  have f0 : ∀ s : Wk, (wc s)[0]? = some (.int .i64 s.p.ln) := fun _ => rfl
  have f19 : ∀ s : Wk, (wc s)[19]? = some (.int .i64 s.p.k) := fun _ => rfl
  have f20 : ∀ s : Wk, (wc s)[20]? = some (.int .i64 s.p.i) := fun _ => rfl
  have f24 : ∀ s : Wk, (wc s)[24]? = some (.int .u64 s.p.n) := fun _ => rfl
  have f25 : ∀ s : Wk, (wc s)[25]? = some (.int .u64 s.p.v) := fun _ => rfl
  have d1 : decide (20 ≤ s.p.ln) = true := by simp [hl]
  have d2 : decide (s.p.ln ≤ 25) = true := by simp [hl]
  have hsub : wrap64 (s.p.ln - 10) = 15 := by rw [hl]; exact IntWalk.wrap64_in _ (by omega)
  have HB := Lib.hid hb
  have HUN := Lib.hid (fun w => rUnhead s.p.v hv w)
  have HVER := Lib.hid (show IntKind.u64.wrap (s.p.v / 4294967296 + 1) = s.p.v / 4294967296 + 1 by rw [IntKind.wrap_u64]; omega)
  clear hb hv
  have HTP := Lib.hid (show wrap64 (s.p.i - 1) = skPut true s.p from rfl)
  have H0 := RX.start M s
  have H1 := H0.wipe
  have hba := build_acc0
  have x0 := H0.X.cells
  obtain ⟨w1, hw1⟩ : ∃ u, u = (w.alloc (.cells (wc s) 46)).alloc (.cells (wc wz) 46) := ⟨_, rfl⟩
  rw [← hw1] at H0 H1 x0
  obtain ⟨w2, hw2⟩ : ∃ u, u = w1.setRow g (rc c a0 ⟨some ⟨gl, 0, none⟩, L.length, cap⟩) := ⟨_, rfl⟩
  rw [← hw2] at H1
  have x1 := H1.X.cells
  have l1 := H1.lt
  have HW1 := Lib.hid hw1
  have HW2 := Lib.hid hw2
  clear hl hw1 hw2
  go_enter Try.func89, Try.ntmps89
  go_wp2_with (first | ((with_reducible refine wpList_alloc_wz rfl rfl ?_); rw [← HW1.out]; clear HW1) | ((with_reducible refine Sub.wpList_store_sub rfl 78 _ _ rfl g 9 #[.int .i64 0, .int .i64 0, .int .u64 0, .int .u64 0, .int .u64 0] ?_ ?_ 103 (rc c a ⟨some ⟨gl, 0, none⟩, L.length, cap⟩) (rc c a0 ⟨some ⟨gl, 0, none⟩, L.length, cap⟩) ?_ ?_ ?_ ?_ ?_ ?_); exact rfl; exact rfl; exact H0.M.B; kernel_rfl; exact Nat.le_of_ble_eq_true (by kernel_rfl); kernel_rfl; kernel_rfl; rw [← HW2.out]; clear HW2 H0 x0))
  refine (HUN.out _).mono ?_
  rintro en w3 ⟨rfl, hb3⟩
  have H2 := H1.keep hb3
  clear x1 l1 H1 hb3
  have x2 := H2.X.cells
  have l2 := H2.lt
  have lg2 := H2.M.lt.1
  go_wp2
  refine wp_region_grown_tail 9 (by kernel_rfl) (by kernel_rfl) ?_
  simp only [List.take_succ_cons, List.take_zero, List.drop_succ_cons, List.drop_zero]
  have hg := @gcell
  repeat (go_big_quiet_step (first | exact grown_same (Pk.rhead _ _ (wrap_rng _).1 (wrap_rng _).2 _)))
  refine wpQuiet_nil ?_
  rintro w4 ⟨⟨_, hb4⟩, rfl⟩
  clear hg
  have H4 := H2.keep hb4
  clear x2 l2 lg2 H2 hb4
  rw [HVER.out, HTP.out]
  have hnw : Pk.hd (skPut true s.p) (s.p.v / 4294967296 + 1) = skNew (skPut true s.p) s.p.v := rfl
  rw [hnw]
  have hcas := rcas_any H4.M hm 2 s.p.v (skNew (skPut true s.p) s.p.v)
  rw [HB.out] at hcas
  have HCA := Lib.hid hcas
  clear hcas hnw
  go_wp2_with fail
  refine HCA.out.mono ?_
  rintro en w5 ⟨rfl, M5, T5⟩
  have H5 := H4.mem M5 T5
  clear HCA H4 M5 T5
  have H6 := H5.set (s' := { s with p := { s.p with ln := 23 } }) 0 (.int .i64 23) rfl
  have xw5 := H5.X.cells
  have zw5 := H5.X.frozen
  have ew5 : (w5.cell? ⟨w.heap.size, 0, none⟩).isSome = true := by rw [xw5, f0]; rfl
  go_wp2_with (first | (refine wpList_load_row rfl 46 _ rfl w.heap.size rfl _ (wc ({ s with p := { s.p with ln := 23 } } : Wk)) (0, 0) _ (by exact H6.X) Try.underlying46 rfl (by kernel_rfl) ?_) | (refine wpList_store_row rfl 46 _ _ rfl (w.heap.size + 1) (wc ({ s with p := { s.p with ln := 23 } } : Wk)) rfl rfl _ _ (by exact H6.Z) (by kernel_rfl) (by kernel_rfl) (by kernel_rfl) ?_))
  have ZF := H6.Z.setRow (wc ({ s with p := { s.p with ln := 23 } } : Wk))
  refine bodyPost_ret (v := .tuple #[wv ({ s with p := { s.p with ln := 23 } } : Wk), .int .i64 0, .bool true]) ?_ rfl ?_
  · exact Rw.results_cell_slot2 (p := 4) (q := 5) (r := 6) (ty := 46) Try.results89 _ _ (w.heap.size + 1) 46 _ (0, 0) _ rfl ZF Try.underlying46 rfl (by kernel_rfl)
  · exact ⟨rfl, H6.fin _⟩
set_option maxRecDepth 10000 in
set_option maxHeartbeats 4000000 in
theorem rk15ey {B : Nat} {w : World} {g gl cap : Nat} {c : Cfg} {a : Acc} {L : List Int} (M : RefMem B w g c a gl cap L) (s : Wk) (hm : L.length ≤ 1000) (hL : WR L) (hv : 0 ≤ s.p.v ∧ s.p.v < 18446744073709551616) (hl : s.p.ln = 25) (hb : csB L 2 s.p.v = true) : Calls Try.prog 89 #[.pointer (some ⟨g, 0, none⟩), wv s] w (RPost B g gl cap c ⟨acc L 3 2 s.p.v (skNew (skPut true s.p) s.p.v), csL L 2 s.p.v (skNew (skPut true s.p) s.p.v), { s.p with ln := 0 }, 1, true⟩ s w) := by
  have f0 : ∀ s : Wk, (wc s)[0]? = some (.int .i64 s.p.ln) := fun _ => rfl
  have f19 : ∀ s : Wk, (wc s)[19]? = some (.int .i64 s.p.k) := fun _ => rfl
  have f20 : ∀ s : Wk, (wc s)[20]? = some (.int .i64 s.p.i) := fun _ => rfl
  have f24 : ∀ s : Wk, (wc s)[24]? = some (.int .u64 s.p.n) := fun _ => rfl
  have f25 : ∀ s : Wk, (wc s)[25]? = some (.int .u64 s.p.v) := fun _ => rfl
  have d1 : decide (20 ≤ s.p.ln) = true := by simp [hl]
  have d2 : decide (s.p.ln ≤ 25) = true := by simp [hl]
  have hsub : wrap64 (s.p.ln - 10) = 15 := by rw [hl]; exact IntWalk.wrap64_in _ (by omega)
  have HB := Lib.hid hb
  have HUN := Lib.hid (fun w => rUnhead s.p.v hv w)
  have HVER := Lib.hid (show IntKind.u64.wrap (s.p.v / 4294967296 + 1) = s.p.v / 4294967296 + 1 by rw [IntKind.wrap_u64]; omega)
  clear hb hv
  have HTP := Lib.hid (show wrap64 (s.p.i - 1) = skPut true s.p from rfl)
  have H0 := RX.start M s
  have H1 := H0.wipe
  have hba := build_acc0
  have x0 := H0.X.cells
  obtain ⟨w1, hw1⟩ : ∃ u, u = (w.alloc (.cells (wc s) 46)).alloc (.cells (wc wz) 46) := ⟨_, rfl⟩
  rw [← hw1] at H0 H1 x0
  obtain ⟨w2, hw2⟩ : ∃ u, u = w1.setRow g (rc c a0 ⟨some ⟨gl, 0, none⟩, L.length, cap⟩) := ⟨_, rfl⟩
  rw [← hw2] at H1
  have x1 := H1.X.cells
  have l1 := H1.lt
  have HW1 := Lib.hid hw1
  have HW2 := Lib.hid hw2
  clear hl hw1 hw2
  go_enter Try.func89, Try.ntmps89
  go_wp2_with (first | ((with_reducible refine wpList_alloc_wz rfl rfl ?_); rw [← HW1.out]; clear HW1) | ((with_reducible refine Sub.wpList_store_sub rfl 78 _ _ rfl g 9 #[.int .i64 0, .int .i64 0, .int .u64 0, .int .u64 0, .int .u64 0] ?_ ?_ 103 (rc c a ⟨some ⟨gl, 0, none⟩, L.length, cap⟩) (rc c a0 ⟨some ⟨gl, 0, none⟩, L.length, cap⟩) ?_ ?_ ?_ ?_ ?_ ?_); exact rfl; exact rfl; exact H0.M.B; kernel_rfl; exact Nat.le_of_ble_eq_true (by kernel_rfl); kernel_rfl; kernel_rfl; rw [← HW2.out]; clear HW2 H0 x0))
  refine (HUN.out _).mono ?_
  rintro en w3 ⟨rfl, hb3⟩
  have H2 := H1.keep hb3
  clear x1 l1 H1 hb3
  have x2 := H2.X.cells
  have l2 := H2.lt
  have lg2 := H2.M.lt.1
  go_wp2
  refine wp_region_grown_tail 9 (by kernel_rfl) (by kernel_rfl) ?_
  simp only [List.take_succ_cons, List.take_zero, List.drop_succ_cons, List.drop_zero]
  have hg := @gcell
  repeat (go_big_quiet_step (first | exact grown_same (Pk.rhead _ _ (wrap_rng _).1 (wrap_rng _).2 _)))
  refine wpQuiet_nil ?_
  rintro w4 ⟨⟨_, hb4⟩, rfl⟩
  clear hg
  have H4 := H2.keep hb4
  clear x2 l2 lg2 H2 hb4
  rw [HVER.out, HTP.out]
  have hnw : Pk.hd (skPut true s.p) (s.p.v / 4294967296 + 1) = skNew (skPut true s.p) s.p.v := rfl
  rw [hnw]
  have hcas := rcas_any H4.M hm 2 s.p.v (skNew (skPut true s.p) s.p.v)
  rw [HB.out] at hcas
  have HCA := Lib.hid hcas
  clear hcas hnw
  go_wp2_with fail
  refine HCA.out.mono ?_
  rintro en w5 ⟨rfl, M5, T5⟩
  have H5 := H4.mem M5 T5
  clear HCA H4 M5 T5
  have H6 := H5.set (s' := { s with p := { s.p with ln := 0 } }) 0 (.int .i64 0) rfl
  have xw5 := H5.X.cells
  have zw5 := H5.X.frozen
  have ew5 : (w5.cell? ⟨w.heap.size, 0, none⟩).isSome = true := by rw [xw5, f0]; rfl
  go_wp2_with (first | (refine wpList_load_row rfl 46 _ rfl w.heap.size rfl _ (wc ({ s with p := { s.p with ln := 0 } } : Wk)) (0, 0) _ (by exact H6.X) Try.underlying46 rfl (by kernel_rfl) ?_) | (refine wpList_store_row rfl 46 _ _ rfl (w.heap.size + 1) (wc ({ s with p := { s.p with ln := 0 } } : Wk)) rfl rfl _ _ (by exact H6.Z) (by kernel_rfl) (by kernel_rfl) (by kernel_rfl) ?_))
  have ZF := H6.Z.setRow (wc ({ s with p := { s.p with ln := 0 } } : Wk))
  refine bodyPost_ret (v := .tuple #[wv ({ s with p := { s.p with ln := 0 } } : Wk), .int .i64 1, .bool true]) ?_ rfl ?_
  · exact Rw.results_cell_slot2 (p := 4) (q := 5) (r := 6) (ty := 46) Try.results89 _ _ (w.heap.size + 1) 46 _ (0, 0) _ rfl ZF Try.underlying46 rfl (by kernel_rfl)
  · exact ⟨rfl, H6.fin _⟩
set_option maxRecDepth 10000 in
set_option maxHeartbeats 4000000 in
theorem rkNoneA {B : Nat} {w : World} {g gl cap : Nat} {c : Cfg} {a : Acc} {L : List Int} (M : RefMem B w g c a gl cap L) (s : Wk) (hm : L.length ≤ 1000) (hL : WR L) (hl : s.p.ln < 10) : Calls Try.prog 89 #[.pointer (some ⟨g, 0, none⟩), wv s] w (RPost B g gl cap c ⟨a, L, s.p, 0, false⟩ s w) := by
  have f0 : ∀ s : Wk, (wc s)[0]? = some (.int .i64 s.p.ln) := fun _ => rfl
  have d0 : decide (20 ≤ s.p.ln) = false := by simp <;> omega
  have d1 : decide (s.p.ln < 10) = true := by simp <;> omega
  have H0 := RX.start M s
  have x0 := H0.X.cells
  obtain ⟨w1, hw1⟩ : ∃ u, u = (w.alloc (.cells (wc s) 46)).alloc (.cells (wc wz) 46) := ⟨_, rfl⟩
  rw [← hw1] at H0 x0
  have HW1 := Lib.hid hw1
  clear hl hw1
  go_enter Try.func89, Try.ntmps89
  go_wp2_with (first | ((with_reducible refine wpList_alloc_wz rfl rfl ?_); rw [← HW1.out]; clear HW1) | (refine wpList_load_row rfl 46 _ rfl w.heap.size rfl _ (wc s) (0, 0) _ (by exact H0.X) Try.underlying46 rfl (by kernel_rfl) ?_) | (refine wpList_store_row rfl 46 _ _ rfl (w.heap.size + 1) (wc s) rfl rfl _ _ (by exact H0.Z) (by kernel_rfl) (by kernel_rfl) (by kernel_rfl) ?_))
  have ZF := H0.Z.setRow (wc s)
  refine bodyPost_ret (v := .tuple #[wv s, .int .i64 0, .bool false]) ?_ rfl ?_
  · exact Rw.results_cell_slot2 (p := 4) (q := 5) (r := 6) (ty := 46) Try.results89 _ _ (w.heap.size + 1) 46 _ (0, 0) _ rfl ZF Try.underlying46 rfl (by kernel_rfl)
  · exact ⟨rfl, H0.fin _⟩
set_option maxRecDepth 10000 in
set_option maxHeartbeats 4000000 in
theorem rkNoneB {B : Nat} {w : World} {g gl cap : Nat} {c : Cfg} {a : Acc} {L : List Int} (M : RefMem B w g c a gl cap L) (s : Wk) (hm : L.length ≤ 1000) (hL : WR L) (hl : 15 < s.p.ln ∧ s.p.ln < 20) : Calls Try.prog 89 #[.pointer (some ⟨g, 0, none⟩), wv s] w (RPost B g gl cap c ⟨a, L, s.p, 0, false⟩ s w) := by
  have f0 : ∀ s : Wk, (wc s)[0]? = some (.int .i64 s.p.ln) := fun _ => rfl
  have d0 : decide (20 ≤ s.p.ln) = false := by simp <;> omega
  have d1 : decide (s.p.ln < 10) = false := by simp <;> omega
  have d2 : decide (15 < s.p.ln) = true := by simp <;> omega
  have H0 := RX.start M s
  have x0 := H0.X.cells
  obtain ⟨w1, hw1⟩ : ∃ u, u = (w.alloc (.cells (wc s) 46)).alloc (.cells (wc wz) 46) := ⟨_, rfl⟩
  rw [← hw1] at H0 x0
  have HW1 := Lib.hid hw1
  clear hl hw1
  go_enter Try.func89, Try.ntmps89
  go_wp2_with (first | ((with_reducible refine wpList_alloc_wz rfl rfl ?_); rw [← HW1.out]; clear HW1) | (refine wpList_load_row rfl 46 _ rfl w.heap.size rfl _ (wc s) (0, 0) _ (by exact H0.X) Try.underlying46 rfl (by kernel_rfl) ?_) | (refine wpList_store_row rfl 46 _ _ rfl (w.heap.size + 1) (wc s) rfl rfl _ _ (by exact H0.Z) (by kernel_rfl) (by kernel_rfl) (by kernel_rfl) ?_))
  have ZF := H0.Z.setRow (wc s)
  refine bodyPost_ret (v := .tuple #[wv s, .int .i64 0, .bool false]) ?_ rfl ?_
  · exact Rw.results_cell_slot2 (p := 4) (q := 5) (r := 6) (ty := 46) Try.results89 _ _ (w.heap.size + 1) 46 _ (0, 0) _ rfl ZF Try.underlying46 rfl (by kernel_rfl)
  · exact ⟨rfl, H0.fin _⟩
set_option maxRecDepth 10000 in
set_option maxHeartbeats 4000000 in
theorem rkNoneC {B : Nat} {w : World} {g gl cap : Nat} {c : Cfg} {a : Acc} {L : List Int} (M : RefMem B w g c a gl cap L) (s : Wk) (hm : L.length ≤ 1000) (hL : WR L) (hl : 25 < s.p.ln) : Calls Try.prog 89 #[.pointer (some ⟨g, 0, none⟩), wv s] w (RPost B g gl cap c ⟨a, L, s.p, 0, false⟩ s w) := by
  have f0 : ∀ s : Wk, (wc s)[0]? = some (.int .i64 s.p.ln) := fun _ => rfl
  have d0 : decide (20 ≤ s.p.ln) = true := by simp <;> omega
  have d1 : decide (s.p.ln ≤ 25) = false := by simp <;> omega
  have d2 : decide (s.p.ln < 10) = false := by simp <;> omega
  have d3 : decide (15 < s.p.ln) = true := by simp <;> omega
  have H0 := RX.start M s
  have x0 := H0.X.cells
  obtain ⟨w1, hw1⟩ : ∃ u, u = (w.alloc (.cells (wc s) 46)).alloc (.cells (wc wz) 46) := ⟨_, rfl⟩
  rw [← hw1] at H0 x0
  have HW1 := Lib.hid hw1
  clear hl hw1
  go_enter Try.func89, Try.ntmps89
  go_wp2_with (first | ((with_reducible refine wpList_alloc_wz rfl rfl ?_); rw [← HW1.out]; clear HW1) | (refine wpList_load_row rfl 46 _ rfl w.heap.size rfl _ (wc s) (0, 0) _ (by exact H0.X) Try.underlying46 rfl (by kernel_rfl) ?_) | (refine wpList_store_row rfl 46 _ _ rfl (w.heap.size + 1) (wc s) rfl rfl _ _ (by exact H0.Z) (by kernel_rfl) (by kernel_rfl) (by kernel_rfl) ?_))
  have ZF := H0.Z.setRow (wc s)
  refine bodyPost_ret (v := .tuple #[wv s, .int .i64 0, .bool false]) ?_ rfl ?_
  · exact Rw.results_cell_slot2 (p := 4) (q := 5) (r := 6) (ty := 46) Try.results89 _ _ (w.heap.size + 1) 46 _ (0, 0) _ rfl ZF Try.underlying46 rfl (by kernel_rfl)
  · exact ⟨rfl, H0.fin _⟩
/-- A step of the reference, whichever. -/
theorem rStackStep {B : Nat} {w : World} {g gl cap : Nat} {c : Cfg} {a : Acc} {L : List Int} (M : RefMem B w g c a gl cap L) (s : Wk) (hm : L.length ≤ 1000) (hL : WR L) (hf : c.Wf) (hp : PR s.p) : Calls Try.prog 89 #[.pointer (some ⟨g, 0, none⟩), wv s] w (RPost B g gl cap c (stackLn c a L s.p).fin s w) := by
  unfold stackLn
  by_cases he : 20 ≤ s.p.ln
  · rw [decide_eq_true he]
    unfold skGo
    by_cases h10 : s.p.ln = 20
    · rw [if_pos (show s.p.ln = skLn true 10 from h10)]
      by_cases hz : low32 (ldV L 2) = 0
      · have e1 : (sk10 c L s.p true).fin = ⟨acc L 1 2 0 0, L, { s.p with v := ldV L 2, h := low32 (ldV L 2), ln := 0 }, 2, true⟩ := by simp [sk10, skH, hz, Res.fin]
        rw [e1]; exact rk10ez M s hm hL h10 hz
      · have e1 : (sk10 c L s.p true).fin = ⟨acc L 1 2 0 0, L, { s.p with v := ldV L 2, h := low32 (ldV L 2), ln := 21 }, 0, true⟩ := by simp [sk10, skH, skLn, hz, Res.fin]
        rw [e1]; exact rk10en M s hm hL h10 hz
    rw [if_neg (show ¬ s.p.ln = skLn true 10 from h10)]
    by_cases h11 : s.p.ln = 21
    · rw [if_pos (show s.p.ln = skLn true 11 from h11)]
      rw [Res.fin0 rfl]
      exact rk11e M s hm hL hf h11
    rw [if_neg (show ¬ s.p.ln = skLn true 11 from h11)]
    by_cases h12 : s.p.ln = 22
    · rw [if_pos (show s.p.ln = skLn true 12 from h12)]
      cases hb : csB L 2 s.p.v with
      | true =>
        have e1 : (sk12 c L s.p true).fin = ⟨acc L 3 2 s.p.v (skNew (low32 s.p.n - 1) s.p.v), csL L 2 s.p.v (skNew (low32 s.p.n - 1) s.p.v), { s.p with ln := 0 }, 1, true⟩ := by simp [sk12, skSwap, skH, skLn, hb, Res.fin]
        rw [e1]; exact rk12ey M s hm hL hp.n hp.v h12 hb
      | false =>
        have e1 : (sk12 c L s.p true).fin = ⟨acc L 3 2 s.p.v (skNew (low32 s.p.n - 1) s.p.v), csL L 2 s.p.v (skNew (low32 s.p.n - 1) s.p.v), { s.p with ln := 20 }, 0, true⟩ := by simp [sk12, skSwap, skH, skLn, hb, Res.fin]
        rw [e1]; exact rk12en M s hm hL hp.n hp.v h12 hb
    rw [if_neg (show ¬ s.p.ln = skLn true 12 from h12)]
    by_cases h13 : s.p.ln = 23
    · rw [if_pos (show s.p.ln = skLn true 13 from h13)]
      rw [Res.fin0 rfl]
      exact rk13e M s hm hL h13
    rw [if_neg (show ¬ s.p.ln = skLn true 13 from h13)]
    by_cases h14 : s.p.ln = 24
    · rw [if_pos (show s.p.ln = skLn true 14 from h14)]
      rw [Res.fin0 rfl]
      exact rk14e M s hm hL hf hp.v h14
    rw [if_neg (show ¬ s.p.ln = skLn true 14 from h14)]
    by_cases h15 : s.p.ln = 25
    · rw [if_pos (show s.p.ln = skLn true 15 from h15)]
      cases hb : csB L 2 s.p.v with
      | true =>
        have e1 : (sk15 c L s.p true).fin = ⟨acc L 3 2 s.p.v (skNew (skPut true s.p) s.p.v), csL L 2 s.p.v (skNew (skPut true s.p) s.p.v), { s.p with ln := 0 }, 1, true⟩ := by simp [sk15, skSwap, skH, skLn, hb, Res.fin]
        rw [e1]; exact rk15ey M s hm hL hp.v h15 hb
      | false =>
        have e1 : (sk15 c L s.p true).fin = ⟨acc L 3 2 s.p.v (skNew (skPut true s.p) s.p.v), csL L 2 s.p.v (skNew (skPut true s.p) s.p.v), { s.p with ln := 23 }, 0, true⟩ := by simp [sk15, skSwap, skH, skLn, hb, Res.fin]
        rw [e1]; exact rk15en M s hm hL hp.v h15 hb
    rw [if_neg (show ¬ s.p.ln = skLn true 15 from h15)]
    rw [Res.fin0 rfl]
    exact rkNoneC M s hm hL (by omega)
  · rw [decide_eq_false he]
    unfold skGo
    by_cases h10 : s.p.ln = 10
    · rw [if_pos (show s.p.ln = skLn false 10 from h10)]
      by_cases hz : low32 (ldV L 1) = 0
      · have e1 : (sk10 c L s.p false).fin = ⟨acc L 1 1 0 0, L, { s.p with v := ldV L 1, h := low32 (ldV L 1), ln := 0 }, 2, true⟩ := by simp [sk10, skH, hz, Res.fin]
        rw [e1]; exact rk10bz M s hm hL h10 hz
      · have e1 : (sk10 c L s.p false).fin = ⟨acc L 1 1 0 0, L, { s.p with v := ldV L 1, h := low32 (ldV L 1), ln := 11 }, 0, true⟩ := by simp [sk10, skH, skLn, hz, Res.fin]
        rw [e1]; exact rk10bn M s hm hL h10 hz
    rw [if_neg (show ¬ s.p.ln = skLn false 10 from h10)]
    by_cases h11 : s.p.ln = 11
    · rw [if_pos (show s.p.ln = skLn false 11 from h11)]
      rw [Res.fin0 rfl]
      exact rk11b M s hm hL hf h11
    rw [if_neg (show ¬ s.p.ln = skLn false 11 from h11)]
    by_cases h12 : s.p.ln = 12
    · rw [if_pos (show s.p.ln = skLn false 12 from h12)]
      cases hb : csB L 1 s.p.v with
      | true =>
        have e1 : (sk12 c L s.p false).fin = ⟨acc L 3 1 s.p.v (skNew (low32 s.p.n - 1) s.p.v), csL L 1 s.p.v (skNew (low32 s.p.n - 1) s.p.v), { s.p with ln := 0 }, 1, true⟩ := by simp [sk12, skSwap, skH, skLn, hb, Res.fin]
        rw [e1]; exact rk12by M s hm hL hp.n hp.v h12 hb
      | false =>
        have e1 : (sk12 c L s.p false).fin = ⟨acc L 3 1 s.p.v (skNew (low32 s.p.n - 1) s.p.v), csL L 1 s.p.v (skNew (low32 s.p.n - 1) s.p.v), { s.p with ln := 10 }, 0, true⟩ := by simp [sk12, skSwap, skH, skLn, hb, Res.fin]
        rw [e1]; exact rk12bn M s hm hL hp.n hp.v h12 hb
    rw [if_neg (show ¬ s.p.ln = skLn false 12 from h12)]
    by_cases h13 : s.p.ln = 13
    · rw [if_pos (show s.p.ln = skLn false 13 from h13)]
      rw [Res.fin0 rfl]
      exact rk13b M s hm hL h13
    rw [if_neg (show ¬ s.p.ln = skLn false 13 from h13)]
    by_cases h14 : s.p.ln = 14
    · rw [if_pos (show s.p.ln = skLn false 14 from h14)]
      rw [Res.fin0 rfl]
      exact rk14b M s hm hL hf hp.v h14
    rw [if_neg (show ¬ s.p.ln = skLn false 14 from h14)]
    by_cases h15 : s.p.ln = 15
    · rw [if_pos (show s.p.ln = skLn false 15 from h15)]
      cases hb : csB L 1 s.p.v with
      | true =>
        have e1 : (sk15 c L s.p false).fin = ⟨acc L 3 1 s.p.v (skNew (skPut false s.p) s.p.v), csL L 1 s.p.v (skNew (skPut false s.p) s.p.v), { s.p with ln := 0 }, 1, true⟩ := by simp [sk15, skSwap, skH, skLn, hb, Res.fin]
        rw [e1]; exact rk15by M s hm hL hp.v h15 hb
      | false =>
        have e1 : (sk15 c L s.p false).fin = ⟨acc L 3 1 s.p.v (skNew (skPut false s.p) s.p.v), csL L 1 s.p.v (skNew (skPut false s.p) s.p.v), { s.p with ln := 13 }, 0, true⟩ := by simp [sk15, skSwap, skH, skLn, hb, Res.fin]
        rw [e1]; exact rk15bn M s hm hL hp.v h15 hb
    rw [if_neg (show ¬ s.p.ln = skLn false 15 from h15)]
    rw [Res.fin0 rfl]
    by_cases hq : s.p.ln < 10
    · exact rkNoneA M s hm hL hq
    · exact rkNoneB M s hm hL (by omega)
end Go.Proofs.Ytblkfbbdeodpjaa.Me
