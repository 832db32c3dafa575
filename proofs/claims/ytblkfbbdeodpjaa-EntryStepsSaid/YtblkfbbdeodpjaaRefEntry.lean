/- The steps of the reference of layer 11 (made by genrentry.py). -/
import Derived.Test.YtblkfbbdeodpjaaEntryLine
import Derived.Test.YtblkfbbdeodpjaaRefStack
namespace Go.Proofs.Ytblkfbbdeodpjaa.Me
open Go Go.RowKit Go.Proofs.Ytblkfbbdeodpjaa.Gro Go.Proofs.Ytblkfbbdeodpjaa.Own Go.Proofs.Ytblkfbbdeodpjaa.Wd Go.Proofs.Ytblkfbbdeodpjaa.Ap Go.Proofs.Ytblkfbbdeodpjaa.Pl Go.Proofs.Ytblkfbbdeodpjaa.Wo
set_option linter.unusedVariables false
set_option linter.unusedSimpArgs false
theorem rUnticket (v : Int) (h : 0 ≤ v ∧ v < 18446744073709551616) (w : World) : Calls Try.prog 46 #[.int .u64 v] w fun e w' => e = .returned (.tuple #[.int .i64 (v % 65536 - 1), .int .u64 (v / 65536)]) ∧ Below w.heap.size w w' :=
  (Pk.runticket v h.1 h.2 w).mono fun e w' ⟨h1, n, h2⟩ => ⟨h1, by subst h2; exact gro_drewN (Below.refl _ _)⟩
theorem rUnentry (v : Int) (h : 0 ≤ v ∧ v < 18446744073709551616) (w : World) : Calls Try.prog 47 #[.int .u64 v] w fun e w' => e = .returned (.tuple #[.int .u64 (v / 1048576), .int .i64 (v / 16 % 65536 - 1), .int .i64 (v % 16)]) ∧ Below w.heap.size w w' :=
  (Pk.runentry v h.1 h.2 w).mono fun e w' ⟨h1, n, h2⟩ => ⟨h1, by subst h2; exact gro_drewN (Below.refl _ _)⟩
theorem rEntryA {B : Nat} {w : World} {g gl cap : Nat} {c : Cfg} {a : Acc} {L : List Int} (M : RefMem B w g c a gl cap L) (hf : c.Wf) (i : Int) : Calls Try.prog 91 #[.pointer (some ⟨g, 0, none⟩), .int .i64 i] w fun e w' => e = .returned (.int .i64 (aEnt c i)) ∧ Below w.heap.size w w' := by
  have HA := Lib.hid (fun w => (refAt_all c i 0).2.2.1 ▸ refAt_walk c hf (3, i, 0) w)
  have x := M.B.cells
  go_enter Try.func91, Try.ntmps91
  go_wp2_with fail
  refine (HA.out _).mono ?_
  rintro e w1 ⟨rfl, hb⟩
  go_wp2
  go_ret
  exact ⟨rfl, hb⟩
set_option maxRecDepth 10000 in
set_option maxHeartbeats 4000000 in
theorem rLookY {B : Nat} {w : World} {g gl cap : Nat} {c : Cfg} {a : Acc} {L : List Int} (M : RefMem B w g c a gl cap L) (s : Wk) (hm : L.length ≤ 1000) (hL : WR L) (hf : c.Wf) (hp : PR s.p) (h1 : ldV L (aEnt c (s.p.t % 65536 - 1)) % 16 = 1) (h2 : ldV L (aEnt c (s.p.t % 65536 - 1)) / 1048576 = s.p.t / 65536) : Calls Try.prog 95 #[.pointer (some ⟨g, 0, none⟩), wv s] w (RPost B g gl cap c ⟨acc L 1 (aEnt c (s.p.t % 65536 - 1)) 0 0, L, { s.p with ln := 0, v := ldV L (aEnt c (s.p.t % 65536 - 1)), c := ldV L (aEnt c (s.p.t % 65536 - 1)) / 16 % 65536 }, 1, true⟩ s w) := by
  have f0 : ∀ s : Wk, (wc s)[0]? = some (.int .i64 s.p.ln) := fun _ => rfl
  have f21 : ∀ s : Wk, (wc s)[21]? = some (.int .i64 s.p.c) := fun _ => rfl
  have f25 : ∀ s : Wk, (wc s)[25]? = some (.int .u64 s.p.v) := fun _ => rfl
  have f30 : ∀ s : Wk, (wc s)[30]? = some (.int .u64 s.p.t) := fun _ => rfl
  have HUT := Lib.hid (fun w => rUnticket s.p.t hp.t w)
  have hv := ldV_wr hL (aEnt c (s.p.t % 65536 - 1))
  have HE1 := Lib.hid h1
  have HE2 := Lib.hid h2
  clear h1 h2
  have H1 := RX.start M s
  have x1 := H1.X.cells
  have l1 := H1.lt
  obtain ⟨w1, hw1⟩ : ∃ u, u = (w.alloc (.cells (wc s) 46)).alloc (.cells (wc wz) 46) := ⟨_, rfl⟩
  rw [← hw1] at H1 x1 l1
  have HW1 := Lib.hid hw1
  clear hw1
  go_enter Try.func95, Try.ntmps95
  go_wp2_with ((with_reducible refine wpList_alloc_wz rfl rfl ?_); rw [← HW1.out]; clear HW1)
  refine (HUT.out _).mono ?_
  rintro en w3 ⟨rfl, hb3⟩
  have H3 := H1.keep hb3
  clear x1 l1 H1 hb3
  go_wp2_with fail
  refine (rEntryA H3.M hf _).mono ?_
  rintro en w4 ⟨rfl, hb4⟩
  have H4 := H3.keep hb4
  clear H3 hb4
  go_wp2_with fail
  refine (rload_any H4.M hm _).mono ?_
  rintro en w5 ⟨rfl, Mw5, Tw5⟩
  have H5 := H4.mem Mw5 Tw5
  obtain ⟨v0, hv0⟩ : ∃ v, v = ldV L (aEnt c (s.p.t % 65536 - 1)) := ⟨_, rfl⟩
  simp only [← hv0]
  rw [← hv0] at hv HE1 HE2
  have HV := Lib.hid hv0
  clear hv0 Mw5 Tw5 H4
  go_wp2_with fail
  refine (rUnentry v0 hv _).mono ?_
  rintro en w6 ⟨rfl, hb6⟩
  have H6 := H5.keep hb6
  clear H5 hb6 hv
  have t1 : (v0 % 16 != 1) = false := by have := HE1.out; simp [this]
  have t2 : (v0 / 1048576 != s.p.t / 65536) = false := by have := HE2.out; simp [this]
  have HW := Lib.hid (show wrap64 (v0 / 16 % 65536 - 1 + 1) = v0 / 16 % 65536 by rw [IntWalk.wrap64_in _ (by omega)]; omega)
  have H7 := H6.set (s' := { s with p := { s.p with ln := 0 } }) 0 (.int .i64 0) rfl
  have xw6 := H6.X.cells
  have zw6 := H6.X.frozen
  have ew6_0 : (w6.cell? ⟨w.heap.size, 0, none⟩).isSome = true := by rw [xw6, f0]; rfl
  have H8 := H7.set (s' := { s with p := { s.p with ln := 0, v := v0 } }) 25 (.int .u64 v0) rfl
  have y8 : ((w6.setCell ⟨w.heap.size, 0, none⟩ (.int .i64 0)).cell? ⟨w.heap.size, 25, none⟩).isSome = true := by rw [H7.X.cells, f25]; rfl
  have H9 := H8.set (s' := { s with p := { s.p with ln := 0, v := v0, c := v0 / 16 % 65536 } }) 21 (.int .i64 (v0 / 16 % 65536)) rfl
  have y9 : (((w6.setCell ⟨w.heap.size, 0, none⟩ (.int .i64 0)).setCell ⟨w.heap.size, 25, none⟩ (.int .u64 v0)).cell? ⟨w.heap.size, 21, none⟩).isSome = true := by rw [H8.X.cells, f21]; rfl
  go_wp2_with (first | rw [HW.out] | (refine wpList_load_row rfl 46 _ rfl w.heap.size rfl _ (wc ({ s with p := { s.p with ln := 0, v := v0, c := v0 / 16 % 65536 } } : Wk)) (0, 0) _ (by exact H9.X) Try.underlying46 rfl (by kernel_rfl) ?_) | (refine wpList_store_row rfl 46 _ _ rfl (w.heap.size + 1) (wc ({ s with p := { s.p with ln := 0, v := v0, c := v0 / 16 % 65536 } } : Wk)) rfl rfl _ _ (by exact H9.Z) (by kernel_rfl) (by kernel_rfl) (by kernel_rfl) ?_))
  have ZF := H9.Z.setRow (wc ({ s with p := { s.p with ln := 0, v := v0, c := v0 / 16 % 65536 } } : Wk))
  refine bodyPost_ret (v := .tuple #[wv ({ s with p := { s.p with ln := 0, v := v0, c := v0 / 16 % 65536 } } : Wk), .int .i64 1, .bool true]) ?_ rfl ?_
  · exact Rw.results_cell_slot2 (p := 4) (q := 5) (r := 6) (ty := 46) Try.results95 _ _ (w.heap.size + 1) 46 _ (0, 0) _ rfl ZF Try.underlying46 rfl (by kernel_rfl)
  · have e1 := HV.out
    subst e1
    exact ⟨rfl, H9.fin _⟩
set_option maxRecDepth 10000 in
set_option maxHeartbeats 4000000 in
theorem rLookM {B : Nat} {w : World} {g gl cap : Nat} {c : Cfg} {a : Acc} {L : List Int} (M : RefMem B w g c a gl cap L) (s : Wk) (hm : L.length ≤ 1000) (hL : WR L) (hf : c.Wf) (hp : PR s.p) (h1 : ldV L (aEnt c (s.p.t % 65536 - 1)) % 16 ≠ 1) : Calls Try.prog 95 #[.pointer (some ⟨g, 0, none⟩), wv s] w (RPost B g gl cap c ⟨acc L 1 (aEnt c (s.p.t % 65536 - 1)) 0 0, L, { s.p with ln := 0 }, 2, true⟩ s w) := by
  have f0 : ∀ s : Wk, (wc s)[0]? = some (.int .i64 s.p.ln) := fun _ => rfl
  have f21 : ∀ s : Wk, (wc s)[21]? = some (.int .i64 s.p.c) := fun _ => rfl
  have f25 : ∀ s : Wk, (wc s)[25]? = some (.int .u64 s.p.v) := fun _ => rfl
  have f30 : ∀ s : Wk, (wc s)[30]? = some (.int .u64 s.p.t) := fun _ => rfl
  have HUT := Lib.hid (fun w => rUnticket s.p.t hp.t w)
  have hv := ldV_wr hL (aEnt c (s.p.t % 65536 - 1))
  have HE1 := Lib.hid h1
  clear h1
  have H1 := RX.start M s
  have x1 := H1.X.cells
  have l1 := H1.lt
  obtain ⟨w1, hw1⟩ : ∃ u, u = (w.alloc (.cells (wc s) 46)).alloc (.cells (wc wz) 46) := ⟨_, rfl⟩
  rw [← hw1] at H1 x1 l1
  have HW1 := Lib.hid hw1
  clear hw1
  go_enter Try.func95, Try.ntmps95
  go_wp2_with ((with_reducible refine wpList_alloc_wz rfl rfl ?_); rw [← HW1.out]; clear HW1)
  refine (HUT.out _).mono ?_
  rintro en w3 ⟨rfl, hb3⟩
  have H3 := H1.keep hb3
  clear x1 l1 H1 hb3
  go_wp2_with fail
  refine (rEntryA H3.M hf _).mono ?_
  rintro en w4 ⟨rfl, hb4⟩
  have H4 := H3.keep hb4
  clear H3 hb4
  go_wp2_with fail
  refine (rload_any H4.M hm _).mono ?_
  rintro en w5 ⟨rfl, Mw5, Tw5⟩
  have H5 := H4.mem Mw5 Tw5
  obtain ⟨v0, hv0⟩ : ∃ v, v = ldV L (aEnt c (s.p.t % 65536 - 1)) := ⟨_, rfl⟩
  simp only [← hv0]
  rw [← hv0] at hv HE1
  have HV := Lib.hid hv0
  clear hv0 Mw5 Tw5 H4
  go_wp2_with fail
  refine (rUnentry v0 hv _).mono ?_
  rintro en w6 ⟨rfl, hb6⟩
  have H6 := H5.keep hb6
  clear H5 hb6 hv
  have t1 : (v0 % 16 != 1) = true := by have := HE1.out; simp [this]
  have H7 := H6.set (s' := { s with p := { s.p with ln := 0 } }) 0 (.int .i64 0) rfl
  have xw6 := H6.X.cells
  have zw6 := H6.X.frozen
  have ew6_0 : (w6.cell? ⟨w.heap.size, 0, none⟩).isSome = true := by rw [xw6, f0]; rfl
  go_wp2_with (first | (refine wpList_load_row rfl 46 _ rfl w.heap.size rfl _ (wc ({ s with p := { s.p with ln := 0 } } : Wk)) (0, 0) _ (by exact H7.X) Try.underlying46 rfl (by kernel_rfl) ?_) | (refine wpList_store_row rfl 46 _ _ rfl (w.heap.size + 1) (wc ({ s with p := { s.p with ln := 0 } } : Wk)) rfl rfl _ _ (by exact H7.Z) (by kernel_rfl) (by kernel_rfl) (by kernel_rfl) ?_))
  have ZF := H7.Z.setRow (wc ({ s with p := { s.p with ln := 0 } } : Wk))
  refine bodyPost_ret (v := .tuple #[wv ({ s with p := { s.p with ln := 0 } } : Wk), .int .i64 2, .bool true]) ?_ rfl ?_
  · exact Rw.results_cell_slot2 (p := 4) (q := 5) (r := 6) (ty := 46) Try.results95 _ _ (w.heap.size + 1) 46 _ (0, 0) _ rfl ZF Try.underlying46 rfl (by kernel_rfl)
  · have e1 := HV.out
    subst e1
    exact ⟨rfl, H7.fin _⟩
set_option maxRecDepth 10000 in
set_option maxHeartbeats 4000000 in
theorem rLookN {B : Nat} {w : World} {g gl cap : Nat} {c : Cfg} {a : Acc} {L : List Int} (M : RefMem B w g c a gl cap L) (s : Wk) (hm : L.length ≤ 1000) (hL : WR L) (hf : c.Wf) (hp : PR s.p) (h1 : ldV L (aEnt c (s.p.t % 65536 - 1)) % 16 = 1) (h2 : ldV L (aEnt c (s.p.t % 65536 - 1)) / 1048576 ≠ s.p.t / 65536) : Calls Try.prog 95 #[.pointer (some ⟨g, 0, none⟩), wv s] w (RPost B g gl cap c ⟨acc L 1 (aEnt c (s.p.t % 65536 - 1)) 0 0, L, { s.p with ln := 0 }, 2, true⟩ s w) := by
  have f0 : ∀ s : Wk, (wc s)[0]? = some (.int .i64 s.p.ln) := fun _ => rfl
  have f21 : ∀ s : Wk, (wc s)[21]? = some (.int .i64 s.p.c) := fun _ => rfl
  have f25 : ∀ s : Wk, (wc s)[25]? = some (.int .u64 s.p.v) := fun _ => rfl
  have f30 : ∀ s : Wk, (wc s)[30]? = some (.int .u64 s.p.t) := fun _ => rfl
  have HUT := Lib.hid (fun w => rUnticket s.p.t hp.t w)
  have hv := ldV_wr hL (aEnt c (s.p.t % 65536 - 1))
  have HE1 := Lib.hid h1
  have HE2 := Lib.hid h2
  clear h1 h2
  have H1 := RX.start M s
  have x1 := H1.X.cells
  have l1 := H1.lt
  obtain ⟨w1, hw1⟩ : ∃ u, u = (w.alloc (.cells (wc s) 46)).alloc (.cells (wc wz) 46) := ⟨_, rfl⟩
  rw [← hw1] at H1 x1 l1
  have HW1 := Lib.hid hw1
  clear hw1
  go_enter Try.func95, Try.ntmps95
  go_wp2_with ((with_reducible refine wpList_alloc_wz rfl rfl ?_); rw [← HW1.out]; clear HW1)
  refine (HUT.out _).mono ?_
  rintro en w3 ⟨rfl, hb3⟩
  have H3 := H1.keep hb3
  clear x1 l1 H1 hb3
  go_wp2_with fail
  refine (rEntryA H3.M hf _).mono ?_
  rintro en w4 ⟨rfl, hb4⟩
  have H4 := H3.keep hb4
  clear H3 hb4
  go_wp2_with fail
  refine (rload_any H4.M hm _).mono ?_
  rintro en w5 ⟨rfl, Mw5, Tw5⟩
  have H5 := H4.mem Mw5 Tw5
  obtain ⟨v0, hv0⟩ : ∃ v, v = ldV L (aEnt c (s.p.t % 65536 - 1)) := ⟨_, rfl⟩
  simp only [← hv0]
  rw [← hv0] at hv HE1 HE2
  have HV := Lib.hid hv0
  clear hv0 Mw5 Tw5 H4
  go_wp2_with fail
  refine (rUnentry v0 hv _).mono ?_
  rintro en w6 ⟨rfl, hb6⟩
  have H6 := H5.keep hb6
  clear H5 hb6 hv
  have t1 : (v0 % 16 != 1) = false := by have := HE1.out; simp [this]
  have t2 : (v0 / 1048576 != s.p.t / 65536) = true := by have := HE2.out; simp [this]
  have H7 := H6.set (s' := { s with p := { s.p with ln := 0 } }) 0 (.int .i64 0) rfl
  have xw6 := H6.X.cells
  have zw6 := H6.X.frozen
  have ew6_0 : (w6.cell? ⟨w.heap.size, 0, none⟩).isSome = true := by rw [xw6, f0]; rfl
  go_wp2_with (first | (refine wpList_load_row rfl 46 _ rfl w.heap.size rfl _ (wc ({ s with p := { s.p with ln := 0 } } : Wk)) (0, 0) _ (by exact H7.X) Try.underlying46 rfl (by kernel_rfl) ?_) | (refine wpList_store_row rfl 46 _ _ rfl (w.heap.size + 1) (wc ({ s with p := { s.p with ln := 0 } } : Wk)) rfl rfl _ _ (by exact H7.Z) (by kernel_rfl) (by kernel_rfl) (by kernel_rfl) ?_))
  have ZF := H7.Z.setRow (wc ({ s with p := { s.p with ln := 0 } } : Wk))
  refine bodyPost_ret (v := .tuple #[wv ({ s with p := { s.p with ln := 0 } } : Wk), .int .i64 2, .bool true]) ?_ rfl ?_
  · exact Rw.results_cell_slot2 (p := 4) (q := 5) (r := 6) (ty := 46) Try.results95 _ _ (w.heap.size + 1) 46 _ (0, 0) _ rfl ZF Try.underlying46 rfl (by kernel_rfl)
  · have e1 := HV.out
    subst e1
    exact ⟨rfl, H7.fin _⟩
set_option maxRecDepth 10000 in
set_option maxHeartbeats 4000000 in
theorem ren42Y {B : Nat} {w : World} {g gl cap : Nat} {c : Cfg} {a : Acc} {L : List Int} (M : RefMem B w g c a gl cap L) (s : Wk) (hm : L.length ≤ 1000) (hL : WR L) (hf : c.Wf) (hp : PR s.p) (hl : s.p.ln = 42) (h1 : ldV L (aEnt c (s.p.t % 65536 - 1)) % 16 = 1) (h2 : ldV L (aEnt c (s.p.t % 65536 - 1)) / 1048576 = s.p.t / 65536) : Calls Try.prog 39 #[.pointer (some ⟨g, 0, none⟩), wv s] w (RPost B g gl cap c ⟨acc L 1 (aEnt c (s.p.t % 65536 - 1)) 0 0, L, { s.p with ln := 0, v := ldV L (aEnt c (s.p.t % 65536 - 1)), c := ldV L (aEnt c (s.p.t % 65536 - 1)) / 16 % 65536 }, 1, true⟩ s w) := by
  have HLK : RowKit.Hid (∀ (w' : World) (R : RefMem B w' g c a0 gl cap L), _) := Lib.hid (fun w' R => rLookY R s hm hL hf hp h1 h2)
  clear h1 h2
  have f0 : ∀ s : Wk, (wc s)[0]? = some (.int .i64 s.p.ln) := fun _ => rfl
  have f30 : ∀ s : Wk, (wc s)[30]? = some (.int .u64 s.p.t) := fun _ => rfl
  have d1 : decide (20 ≤ s.p.ln) = true := by simp [hl]
  have d2 : decide (s.p.ln ≤ 25) = false := by simp [hl]
  have d3 : (s.p.ln != 60) = true := by simp [hl]
  have d4 : decide (s.p.ln < 40) = false := by simp [hl]
  have d5 : decide (46 < s.p.ln) = false := by simp [hl]
  have t40 : (s.p.ln == 40) = false := by simp [hl]
  have t41 : (s.p.ln == 41) = false := by simp [hl]
  have t43 : (s.p.ln == 43) = false := by simp [hl]
  have t45 : (s.p.ln == 45) = false := by simp [hl]
  have HUT := Lib.hid (fun w => rUnticket s.p.t hp.t w)
  have H0 := RX.start M s
  have H1 := H0.wipe
  have hba := build_acc0
  have x0 := H0.X.cells
  obtain ⟨w1, hw1⟩ : ∃ u, u = (w.alloc (.cells (wc s) 46)).alloc (.cells (wc wz) 46) := ⟨_, rfl⟩
  rw [← hw1] at H0 H1 x0
  obtain ⟨w2, hw2⟩ : ∃ u, u = w1.setRow g (rc c a0 ⟨some ⟨gl, 0, none⟩, L.length, cap⟩) := ⟨_, rfl⟩
  rw [← hw2] at H1
  have x1 := H1.X.cells
  have l1 := H1.lt
  have HW1 := Lib.hid hw1
  have HW2 := Lib.hid hw2
  clear hl hw1 hw2
  go_enter Try.func39, Try.ntmps39
  go_wp2_with (first | ((with_reducible refine wpList_alloc_wz rfl rfl ?_); rw [← HW1.out]; clear HW1) | ((with_reducible refine Sub.wpList_store_sub rfl 78 _ _ rfl g 9 #[.int .i64 0, .int .i64 0, .int .u64 0, .int .u64 0, .int .u64 0] ?_ ?_ 103 (rc c a ⟨some ⟨gl, 0, none⟩, L.length, cap⟩) (rc c a0 ⟨some ⟨gl, 0, none⟩, L.length, cap⟩) ?_ ?_ ?_ ?_ ?_ ?_); exact rfl; exact rfl; exact H0.M.B; kernel_rfl; exact Nat.le_of_ble_eq_true (by kernel_rfl); kernel_rfl; kernel_rfl; rw [← HW2.out]; clear HW2 H0 x0))
  refine (HUT.out _).mono ?_
  rintro en w3 ⟨rfl, hb3⟩
  have H3 := H1.keep hb3
  clear x1 l1 H1 hb3
  go_wp2_with (refine wpList_load_row rfl 46 _ rfl w.heap.size rfl _ (wc s) (0, 0) _ (by exact H3.X) Try.underlying46 rfl (by kernel_rfl) ?_)
  refine (HLK.out _ H3.M).mono ?_
  rintro en w4 ⟨rfl, M4, T4⟩
  have H4 := H3.mem M4 T4
  clear HLK M4 T4
  go_wp2_with (refine wpList_store_row rfl 46 _ _ rfl (w.heap.size + 1) (wc ({ s with p := { s.p with ln := 0, v := ldV L (aEnt c (s.p.t % 65536 - 1)), c := ldV L (aEnt c (s.p.t % 65536 - 1)) / 16 % 65536 } } : Wk)) rfl rfl _ _ (by exact H4.Z) (by kernel_rfl) (by kernel_rfl) (by kernel_rfl) ?_)
  have ZF := H4.Z.setRow (wc ({ s with p := { s.p with ln := 0, v := ldV L (aEnt c (s.p.t % 65536 - 1)), c := ldV L (aEnt c (s.p.t % 65536 - 1)) / 16 % 65536 } } : Wk))
  refine bodyPost_ret (v := .tuple #[wv ({ s with p := { s.p with ln := 0, v := ldV L (aEnt c (s.p.t % 65536 - 1)), c := ldV L (aEnt c (s.p.t % 65536 - 1)) / 16 % 65536 } } : Wk), .int .i64 1, .bool true]) ?_ rfl ?_
  · exact Rw.results_cell_slot2 (p := 4) (q := 5) (r := 6) (ty := 46) Try.results39 _ _ (w.heap.size + 1) 46 _ (0, 0) _ rfl ZF Try.underlying46 rfl (by kernel_rfl)
  · exact ⟨rfl, H4.fin _⟩
set_option maxRecDepth 10000 in
set_option maxHeartbeats 4000000 in
theorem ren44Y {B : Nat} {w : World} {g gl cap : Nat} {c : Cfg} {a : Acc} {L : List Int} (M : RefMem B w g c a gl cap L) (s : Wk) (hm : L.length ≤ 1000) (hL : WR L) (hf : c.Wf) (hp : PR s.p) (hl : s.p.ln = 44) (h1 : ldV L (aEnt c (s.p.t % 65536 - 1)) % 16 = 1) (h2 : ldV L (aEnt c (s.p.t % 65536 - 1)) / 1048576 = s.p.t / 65536) : Calls Try.prog 39 #[.pointer (some ⟨g, 0, none⟩), wv s] w (RPost B g gl cap c ⟨acc L 1 (aEnt c (s.p.t % 65536 - 1)) 0 0, L, { s.p with ln := 0, v := ldV L (aEnt c (s.p.t % 65536 - 1)), c := ldV L (aEnt c (s.p.t % 65536 - 1)) / 16 % 65536 }, 1, true⟩ s w) := by
  have HLK : RowKit.Hid (∀ (w' : World) (R : RefMem B w' g c a0 gl cap L), _) := Lib.hid (fun w' R => rLookY R s hm hL hf hp h1 h2)
  clear h1 h2
  have f0 : ∀ s : Wk, (wc s)[0]? = some (.int .i64 s.p.ln) := fun _ => rfl
  have f30 : ∀ s : Wk, (wc s)[30]? = some (.int .u64 s.p.t) := fun _ => rfl
  have d1 : decide (20 ≤ s.p.ln) = true := by simp [hl]
  have d2 : decide (s.p.ln ≤ 25) = false := by simp [hl]
  have d3 : (s.p.ln != 60) = true := by simp [hl]
  have d4 : decide (s.p.ln < 40) = false := by simp [hl]
  have d5 : decide (46 < s.p.ln) = false := by simp [hl]
  have t40 : (s.p.ln == 40) = false := by simp [hl]
  have t41 : (s.p.ln == 41) = false := by simp [hl]
  have t43 : (s.p.ln == 43) = false := by simp [hl]
  have t45 : (s.p.ln == 45) = false := by simp [hl]
  have HUT := Lib.hid (fun w => rUnticket s.p.t hp.t w)
  have H0 := RX.start M s
  have H1 := H0.wipe
  have hba := build_acc0
  have x0 := H0.X.cells
  obtain ⟨w1, hw1⟩ : ∃ u, u = (w.alloc (.cells (wc s) 46)).alloc (.cells (wc wz) 46) := ⟨_, rfl⟩
  rw [← hw1] at H0 H1 x0
  obtain ⟨w2, hw2⟩ : ∃ u, u = w1.setRow g (rc c a0 ⟨some ⟨gl, 0, none⟩, L.length, cap⟩) := ⟨_, rfl⟩
  rw [← hw2] at H1
  have x1 := H1.X.cells
  have l1 := H1.lt
  have HW1 := Lib.hid hw1
  have HW2 := Lib.hid hw2
  clear hl hw1 hw2
  go_enter Try.func39, Try.ntmps39
  go_wp2_with (first | ((with_reducible refine wpList_alloc_wz rfl rfl ?_); rw [← HW1.out]; clear HW1) | ((with_reducible refine Sub.wpList_store_sub rfl 78 _ _ rfl g 9 #[.int .i64 0, .int .i64 0, .int .u64 0, .int .u64 0, .int .u64 0] ?_ ?_ 103 (rc c a ⟨some ⟨gl, 0, none⟩, L.length, cap⟩) (rc c a0 ⟨some ⟨gl, 0, none⟩, L.length, cap⟩) ?_ ?_ ?_ ?_ ?_ ?_); exact rfl; exact rfl; exact H0.M.B; kernel_rfl; exact Nat.le_of_ble_eq_true (by kernel_rfl); kernel_rfl; kernel_rfl; rw [← HW2.out]; clear HW2 H0 x0))
  refine (HUT.out _).mono ?_
  rintro en w3 ⟨rfl, hb3⟩
  have H3 := H1.keep hb3
  clear x1 l1 H1 hb3
  go_wp2_with (refine wpList_load_row rfl 46 _ rfl w.heap.size rfl _ (wc s) (0, 0) _ (by exact H3.X) Try.underlying46 rfl (by kernel_rfl) ?_)
  refine (HLK.out _ H3.M).mono ?_
  rintro en w4 ⟨rfl, M4, T4⟩
  have H4 := H3.mem M4 T4
  clear HLK M4 T4
  go_wp2_with (refine wpList_store_row rfl 46 _ _ rfl (w.heap.size + 1) (wc ({ s with p := { s.p with ln := 0, v := ldV L (aEnt c (s.p.t % 65536 - 1)), c := ldV L (aEnt c (s.p.t % 65536 - 1)) / 16 % 65536 } } : Wk)) rfl rfl _ _ (by exact H4.Z) (by kernel_rfl) (by kernel_rfl) (by kernel_rfl) ?_)
  have ZF := H4.Z.setRow (wc ({ s with p := { s.p with ln := 0, v := ldV L (aEnt c (s.p.t % 65536 - 1)), c := ldV L (aEnt c (s.p.t % 65536 - 1)) / 16 % 65536 } } : Wk))
  refine bodyPost_ret (v := .tuple #[wv ({ s with p := { s.p with ln := 0, v := ldV L (aEnt c (s.p.t % 65536 - 1)), c := ldV L (aEnt c (s.p.t % 65536 - 1)) / 16 % 65536 } } : Wk), .int .i64 1, .bool true]) ?_ rfl ?_
  · exact Rw.results_cell_slot2 (p := 4) (q := 5) (r := 6) (ty := 46) Try.results39 _ _ (w.heap.size + 1) 46 _ (0, 0) _ rfl ZF Try.underlying46 rfl (by kernel_rfl)
  · exact ⟨rfl, H4.fin _⟩
set_option maxRecDepth 10000 in
set_option maxHeartbeats 4000000 in
theorem ren46Y {B : Nat} {w : World} {g gl cap : Nat} {c : Cfg} {a : Acc} {L : List Int} (M : RefMem B w g c a gl cap L) (s : Wk) (hm : L.length ≤ 1000) (hL : WR L) (hf : c.Wf) (hp : PR s.p) (hl : s.p.ln = 46) (h1 : ldV L (aEnt c (s.p.t % 65536 - 1)) % 16 = 1) (h2 : ldV L (aEnt c (s.p.t % 65536 - 1)) / 1048576 = s.p.t / 65536) : Calls Try.prog 39 #[.pointer (some ⟨g, 0, none⟩), wv s] w (RPost B g gl cap c ⟨acc L 1 (aEnt c (s.p.t % 65536 - 1)) 0 0, L, { s.p with ln := 0, v := ldV L (aEnt c (s.p.t % 65536 - 1)), c := ldV L (aEnt c (s.p.t % 65536 - 1)) / 16 % 65536 }, 1, true⟩ s w) := by
  have HLK : RowKit.Hid (∀ (w' : World) (R : RefMem B w' g c a0 gl cap L), _) := Lib.hid (fun w' R => rLookY R s hm hL hf hp h1 h2)
  clear h1 h2
  have f0 : ∀ s : Wk, (wc s)[0]? = some (.int .i64 s.p.ln) := fun _ => rfl
  have f30 : ∀ s : Wk, (wc s)[30]? = some (.int .u64 s.p.t) := fun _ => rfl
  have d1 : decide (20 ≤ s.p.ln) = true := by simp [hl]
  have d2 : decide (s.p.ln ≤ 25) = false := by simp [hl]
  have d3 : (s.p.ln != 60) = true := by simp [hl]
  have d4 : decide (s.p.ln < 40) = false := by simp [hl]
  have d5 : decide (46 < s.p.ln) = false := by simp [hl]
  have t40 : (s.p.ln == 40) = false := by simp [hl]
  have t41 : (s.p.ln == 41) = false := by simp [hl]
  have t43 : (s.p.ln == 43) = false := by simp [hl]
  have t45 : (s.p.ln == 45) = false := by simp [hl]
  have HUT := Lib.hid (fun w => rUnticket s.p.t hp.t w)
  have H0 := RX.start M s
  have H1 := H0.wipe
  have hba := build_acc0
  have x0 := H0.X.cells
  obtain ⟨w1, hw1⟩ : ∃ u, u = (w.alloc (.cells (wc s) 46)).alloc (.cells (wc wz) 46) := ⟨_, rfl⟩
  rw [← hw1] at H0 H1 x0
  obtain ⟨w2, hw2⟩ : ∃ u, u = w1.setRow g (rc c a0 ⟨some ⟨gl, 0, none⟩, L.length, cap⟩) := ⟨_, rfl⟩
  rw [← hw2] at H1
  have x1 := H1.X.cells
  have l1 := H1.lt
  have HW1 := Lib.hid hw1
  have HW2 := Lib.hid hw2
  clear hl hw1 hw2
  go_enter Try.func39, Try.ntmps39
  go_wp2_with (first | ((with_reducible refine wpList_alloc_wz rfl rfl ?_); rw [← HW1.out]; clear HW1) | ((with_reducible refine Sub.wpList_store_sub rfl 78 _ _ rfl g 9 #[.int .i64 0, .int .i64 0, .int .u64 0, .int .u64 0, .int .u64 0] ?_ ?_ 103 (rc c a ⟨some ⟨gl, 0, none⟩, L.length, cap⟩) (rc c a0 ⟨some ⟨gl, 0, none⟩, L.length, cap⟩) ?_ ?_ ?_ ?_ ?_ ?_); exact rfl; exact rfl; exact H0.M.B; kernel_rfl; exact Nat.le_of_ble_eq_true (by kernel_rfl); kernel_rfl; kernel_rfl; rw [← HW2.out]; clear HW2 H0 x0))
  refine (HUT.out _).mono ?_
  rintro en w3 ⟨rfl, hb3⟩
  have H3 := H1.keep hb3
  clear x1 l1 H1 hb3
  go_wp2_with (refine wpList_load_row rfl 46 _ rfl w.heap.size rfl _ (wc s) (0, 0) _ (by exact H3.X) Try.underlying46 rfl (by kernel_rfl) ?_)
  refine (HLK.out _ H3.M).mono ?_
  rintro en w4 ⟨rfl, M4, T4⟩
  have H4 := H3.mem M4 T4
  clear HLK M4 T4
  go_wp2_with (refine wpList_store_row rfl 46 _ _ rfl (w.heap.size + 1) (wc ({ s with p := { s.p with ln := 0, v := ldV L (aEnt c (s.p.t % 65536 - 1)), c := ldV L (aEnt c (s.p.t % 65536 - 1)) / 16 % 65536 } } : Wk)) rfl rfl _ _ (by exact H4.Z) (by kernel_rfl) (by kernel_rfl) (by kernel_rfl) ?_)
  have ZF := H4.Z.setRow (wc ({ s with p := { s.p with ln := 0, v := ldV L (aEnt c (s.p.t % 65536 - 1)), c := ldV L (aEnt c (s.p.t % 65536 - 1)) / 16 % 65536 } } : Wk))
  refine bodyPost_ret (v := .tuple #[wv ({ s with p := { s.p with ln := 0, v := ldV L (aEnt c (s.p.t % 65536 - 1)), c := ldV L (aEnt c (s.p.t % 65536 - 1)) / 16 % 65536 } } : Wk), .int .i64 1, .bool true]) ?_ rfl ?_
  · exact Rw.results_cell_slot2 (p := 4) (q := 5) (r := 6) (ty := 46) Try.results39 _ _ (w.heap.size + 1) 46 _ (0, 0) _ rfl ZF Try.underlying46 rfl (by kernel_rfl)
  · exact ⟨rfl, H4.fin _⟩
set_option maxRecDepth 10000 in
set_option maxHeartbeats 4000000 in
theorem ren60Y {B : Nat} {w : World} {g gl cap : Nat} {c : Cfg} {a : Acc} {L : List Int} (M : RefMem B w g c a gl cap L) (s : Wk) (hm : L.length ≤ 1000) (hL : WR L) (hf : c.Wf) (hp : PR s.p) (hl : s.p.ln = 60) (h1 : ldV L (aEnt c (s.p.t % 65536 - 1)) % 16 = 1) (h2 : ldV L (aEnt c (s.p.t % 65536 - 1)) / 1048576 = s.p.t / 65536) : Calls Try.prog 39 #[.pointer (some ⟨g, 0, none⟩), wv s] w (RPost B g gl cap c ⟨acc L 1 (aEnt c (s.p.t % 65536 - 1)) 0 0, L, { s.p with ln := 0, v := ldV L (aEnt c (s.p.t % 65536 - 1)), c := ldV L (aEnt c (s.p.t % 65536 - 1)) / 16 % 65536 }, 1, true⟩ s w) := by
  have HLK : RowKit.Hid (∀ (w' : World) (R : RefMem B w' g c a0 gl cap L), _) := Lib.hid (fun w' R => rLookY R s hm hL hf hp h1 h2)
  clear h1 h2
  have f0 : ∀ s : Wk, (wc s)[0]? = some (.int .i64 s.p.ln) := fun _ => rfl
  have f30 : ∀ s : Wk, (wc s)[30]? = some (.int .u64 s.p.t) := fun _ => rfl
  have d1 : decide (20 ≤ s.p.ln) = true := by simp [hl]
  have d2 : decide (s.p.ln ≤ 25) = false := by simp [hl]
  have d3 : (s.p.ln != 60) = false := by simp [hl]
  have d4 : decide (s.p.ln < 40) = false := by simp [hl]
  have d5 : decide (46 < s.p.ln) = true := by simp [hl]
  have t40 : (s.p.ln == 40) = false := by simp [hl]
  have t41 : (s.p.ln == 41) = false := by simp [hl]
  have t43 : (s.p.ln == 43) = false := by simp [hl]
  have t45 : (s.p.ln == 45) = false := by simp [hl]
  have HUT := Lib.hid (fun w => rUnticket s.p.t hp.t w)
  have H0 := RX.start M s
  have H1 := H0.wipe
  have hba := build_acc0
  have x0 := H0.X.cells
  obtain ⟨w1, hw1⟩ : ∃ u, u = (w.alloc (.cells (wc s) 46)).alloc (.cells (wc wz) 46) := ⟨_, rfl⟩
  rw [← hw1] at H0 H1 x0
  obtain ⟨w2, hw2⟩ : ∃ u, u = w1.setRow g (rc c a0 ⟨some ⟨gl, 0, none⟩, L.length, cap⟩) := ⟨_, rfl⟩
  rw [← hw2] at H1
  have x1 := H1.X.cells
  have l1 := H1.lt
  have HW1 := Lib.hid hw1
  have HW2 := Lib.hid hw2
  clear hl hw1 hw2
  go_enter Try.func39, Try.ntmps39
  go_wp2_with (first | ((with_reducible refine wpList_alloc_wz rfl rfl ?_); rw [← HW1.out]; clear HW1) | ((with_reducible refine Sub.wpList_store_sub rfl 78 _ _ rfl g 9 #[.int .i64 0, .int .i64 0, .int .u64 0, .int .u64 0, .int .u64 0] ?_ ?_ 103 (rc c a ⟨some ⟨gl, 0, none⟩, L.length, cap⟩) (rc c a0 ⟨some ⟨gl, 0, none⟩, L.length, cap⟩) ?_ ?_ ?_ ?_ ?_ ?_); exact rfl; exact rfl; exact H0.M.B; kernel_rfl; exact Nat.le_of_ble_eq_true (by kernel_rfl); kernel_rfl; kernel_rfl; rw [← HW2.out]; clear HW2 H0 x0))
  refine (HUT.out _).mono ?_
  rintro en w3 ⟨rfl, hb3⟩
  have H3 := H1.keep hb3
  clear x1 l1 H1 hb3
  go_wp2_with (refine wpList_load_row rfl 46 _ rfl w.heap.size rfl _ (wc s) (0, 0) _ (by exact H3.X) Try.underlying46 rfl (by kernel_rfl) ?_)
  refine (HLK.out _ H3.M).mono ?_
  rintro en w4 ⟨rfl, M4, T4⟩
  have H4 := H3.mem M4 T4
  clear HLK M4 T4
  go_wp2_with (refine wpList_store_row rfl 46 _ _ rfl (w.heap.size + 1) (wc ({ s with p := { s.p with ln := 0, v := ldV L (aEnt c (s.p.t % 65536 - 1)), c := ldV L (aEnt c (s.p.t % 65536 - 1)) / 16 % 65536 } } : Wk)) rfl rfl _ _ (by exact H4.Z) (by kernel_rfl) (by kernel_rfl) (by kernel_rfl) ?_)
  have ZF := H4.Z.setRow (wc ({ s with p := { s.p with ln := 0, v := ldV L (aEnt c (s.p.t % 65536 - 1)), c := ldV L (aEnt c (s.p.t % 65536 - 1)) / 16 % 65536 } } : Wk))
  refine bodyPost_ret (v := .tuple #[wv ({ s with p := { s.p with ln := 0, v := ldV L (aEnt c (s.p.t % 65536 - 1)), c := ldV L (aEnt c (s.p.t % 65536 - 1)) / 16 % 65536 } } : Wk), .int .i64 1, .bool true]) ?_ rfl ?_
  · exact Rw.results_cell_slot2 (p := 4) (q := 5) (r := 6) (ty := 46) Try.results39 _ _ (w.heap.size + 1) 46 _ (0, 0) _ rfl ZF Try.underlying46 rfl (by kernel_rfl)
  · exact ⟨rfl, H4.fin _⟩
set_option maxRecDepth 10000 in
set_option maxHeartbeats 4000000 in
theorem ren42M {B : Nat} {w : World} {g gl cap : Nat} {c : Cfg} {a : Acc} {L : List Int} (M : RefMem B w g c a gl cap L) (s : Wk) (hm : L.length ≤ 1000) (hL : WR L) (hf : c.Wf) (hp : PR s.p) (hl : s.p.ln = 42) (h1 : ldV L (aEnt c (s.p.t % 65536 - 1)) % 16 ≠ 1) : Calls Try.prog 39 #[.pointer (some ⟨g, 0, none⟩), wv s] w (RPost B g gl cap c ⟨acc L 1 (aEnt c (s.p.t % 65536 - 1)) 0 0, L, { s.p with ln := 0 }, 2, true⟩ s w) := by
  have HLK : RowKit.Hid (∀ (w' : World) (R : RefMem B w' g c a0 gl cap L), _) := Lib.hid (fun w' R => rLookM R s hm hL hf hp h1)
  clear h1
  have f0 : ∀ s : Wk, (wc s)[0]? = some (.int .i64 s.p.ln) := fun _ => rfl
  have f30 : ∀ s : Wk, (wc s)[30]? = some (.int .u64 s.p.t) := fun _ => rfl
  have d1 : decide (20 ≤ s.p.ln) = true := by simp [hl]
  have d2 : decide (s.p.ln ≤ 25) = false := by simp [hl]
  have d3 : (s.p.ln != 60) = true := by simp [hl]
  have d4 : decide (s.p.ln < 40) = false := by simp [hl]
  have d5 : decide (46 < s.p.ln) = false := by simp [hl]
  have t40 : (s.p.ln == 40) = false := by simp [hl]
  have t41 : (s.p.ln == 41) = false := by simp [hl]
  have t43 : (s.p.ln == 43) = false := by simp [hl]
  have t45 : (s.p.ln == 45) = false := by simp [hl]
  have HUT := Lib.hid (fun w => rUnticket s.p.t hp.t w)
  have H0 := RX.start M s
  have H1 := H0.wipe
  have hba := build_acc0
  have x0 := H0.X.cells
  obtain ⟨w1, hw1⟩ : ∃ u, u = (w.alloc (.cells (wc s) 46)).alloc (.cells (wc wz) 46) := ⟨_, rfl⟩
  rw [← hw1] at H0 H1 x0
  obtain ⟨w2, hw2⟩ : ∃ u, u = w1.setRow g (rc c a0 ⟨some ⟨gl, 0, none⟩, L.length, cap⟩) := ⟨_, rfl⟩
  rw [← hw2] at H1
  have x1 := H1.X.cells
  have l1 := H1.lt
  have HW1 := Lib.hid hw1
  have HW2 := Lib.hid hw2
  clear hl hw1 hw2
  go_enter Try.func39, Try.ntmps39
  go_wp2_with (first | ((with_reducible refine wpList_alloc_wz rfl rfl ?_); rw [← HW1.out]; clear HW1) | ((with_reducible refine Sub.wpList_store_sub rfl 78 _ _ rfl g 9 #[.int .i64 0, .int .i64 0, .int .u64 0, .int .u64 0, .int .u64 0] ?_ ?_ 103 (rc c a ⟨some ⟨gl, 0, none⟩, L.length, cap⟩) (rc c a0 ⟨some ⟨gl, 0, none⟩, L.length, cap⟩) ?_ ?_ ?_ ?_ ?_ ?_); exact rfl; exact rfl; exact H0.M.B; kernel_rfl; exact Nat.le_of_ble_eq_true (by kernel_rfl); kernel_rfl; kernel_rfl; rw [← HW2.out]; clear HW2 H0 x0))
  refine (HUT.out _).mono ?_
  rintro en w3 ⟨rfl, hb3⟩
  have H3 := H1.keep hb3
  clear x1 l1 H1 hb3
  go_wp2_with (refine wpList_load_row rfl 46 _ rfl w.heap.size rfl _ (wc s) (0, 0) _ (by exact H3.X) Try.underlying46 rfl (by kernel_rfl) ?_)
  refine (HLK.out _ H3.M).mono ?_
  rintro en w4 ⟨rfl, M4, T4⟩
  have H4 := H3.mem M4 T4
  clear HLK M4 T4
  go_wp2_with (refine wpList_store_row rfl 46 _ _ rfl (w.heap.size + 1) (wc ({ s with p := { s.p with ln := 0 } } : Wk)) rfl rfl _ _ (by exact H4.Z) (by kernel_rfl) (by kernel_rfl) (by kernel_rfl) ?_)
  have ZF := H4.Z.setRow (wc ({ s with p := { s.p with ln := 0 } } : Wk))
  refine bodyPost_ret (v := .tuple #[wv ({ s with p := { s.p with ln := 0 } } : Wk), .int .i64 2, .bool true]) ?_ rfl ?_
  · exact Rw.results_cell_slot2 (p := 4) (q := 5) (r := 6) (ty := 46) Try.results39 _ _ (w.heap.size + 1) 46 _ (0, 0) _ rfl ZF Try.underlying46 rfl (by kernel_rfl)
  · exact ⟨rfl, H4.fin _⟩
set_option maxRecDepth 10000 in
set_option maxHeartbeats 4000000 in
theorem ren44M {B : Nat} {w : World} {g gl cap : Nat} {c : Cfg} {a : Acc} {L : List Int} (M : RefMem B w g c a gl cap L) (s : Wk) (hm : L.length ≤ 1000) (hL : WR L) (hf : c.Wf) (hp : PR s.p) (hl : s.p.ln = 44) (h1 : ldV L (aEnt c (s.p.t % 65536 - 1)) % 16 ≠ 1) : Calls Try.prog 39 #[.pointer (some ⟨g, 0, none⟩), wv s] w (RPost B g gl cap c ⟨acc L 1 (aEnt c (s.p.t % 65536 - 1)) 0 0, L, { s.p with ln := 0 }, 2, true⟩ s w) := by
  have HLK : RowKit.Hid (∀ (w' : World) (R : RefMem B w' g c a0 gl cap L), _) := Lib.hid (fun w' R => rLookM R s hm hL hf hp h1)
  clear h1
  have f0 : ∀ s : Wk, (wc s)[0]? = some (.int .i64 s.p.ln) := fun _ => rfl
  have f30 : ∀ s : Wk, (wc s)[30]? = some (.int .u64 s.p.t) := fun _ => rfl
  have d1 : decide (20 ≤ s.p.ln) = true := by simp [hl]
  have d2 : decide (s.p.ln ≤ 25) = false := by simp [hl]
  have d3 : (s.p.ln != 60) = true := by simp [hl]
  have d4 : decide (s.p.ln < 40) = false := by simp [hl]
  have d5 : decide (46 < s.p.ln) = false := by simp [hl]
  have t40 : (s.p.ln == 40) = false := by simp [hl]
  have t41 : (s.p.ln == 41) = false := by simp [hl]
  have t43 : (s.p.ln == 43) = false := by simp [hl]
  have t45 : (s.p.ln == 45) = false := by simp [hl]
  have HUT := Lib.hid (fun w => rUnticket s.p.t hp.t w)
  have H0 := RX.start M s
  have H1 := H0.wipe
  have hba := build_acc0
  have x0 := H0.X.cells
  obtain ⟨w1, hw1⟩ : ∃ u, u = (w.alloc (.cells (wc s) 46)).alloc (.cells (wc wz) 46) := ⟨_, rfl⟩
  rw [← hw1] at H0 H1 x0
  obtain ⟨w2, hw2⟩ : ∃ u, u = w1.setRow g (rc c a0 ⟨some ⟨gl, 0, none⟩, L.length, cap⟩) := ⟨_, rfl⟩
  rw [← hw2] at H1
  have x1 := H1.X.cells
  have l1 := H1.lt
  have HW1 := Lib.hid hw1
  have HW2 := Lib.hid hw2
  clear hl hw1 hw2
  go_enter Try.func39, Try.ntmps39
  go_wp2_with (first | ((with_reducible refine wpList_alloc_wz rfl rfl ?_); rw [← HW1.out]; clear HW1) | ((with_reducible refine Sub.wpList_store_sub rfl 78 _ _ rfl g 9 #[.int .i64 0, .int .i64 0, .int .u64 0, .int .u64 0, .int .u64 0] ?_ ?_ 103 (rc c a ⟨some ⟨gl, 0, none⟩, L.length, cap⟩) (rc c a0 ⟨some ⟨gl, 0, none⟩, L.length, cap⟩) ?_ ?_ ?_ ?_ ?_ ?_); exact rfl; exact rfl; exact H0.M.B; kernel_rfl; exact Nat.le_of_ble_eq_true (by kernel_rfl); kernel_rfl; kernel_rfl; rw [← HW2.out]; clear HW2 H0 x0))
  refine (HUT.out _).mono ?_
  rintro en w3 ⟨rfl, hb3⟩
  have H3 := H1.keep hb3
  clear x1 l1 H1 hb3
  go_wp2_with (refine wpList_load_row rfl 46 _ rfl w.heap.size rfl _ (wc s) (0, 0) _ (by exact H3.X) Try.underlying46 rfl (by kernel_rfl) ?_)
  refine (HLK.out _ H3.M).mono ?_
  rintro en w4 ⟨rfl, M4, T4⟩
  have H4 := H3.mem M4 T4
  clear HLK M4 T4
  go_wp2_with (refine wpList_store_row rfl 46 _ _ rfl (w.heap.size + 1) (wc ({ s with p := { s.p with ln := 0 } } : Wk)) rfl rfl _ _ (by exact H4.Z) (by kernel_rfl) (by kernel_rfl) (by kernel_rfl) ?_)
  have ZF := H4.Z.setRow (wc ({ s with p := { s.p with ln := 0 } } : Wk))
  refine bodyPost_ret (v := .tuple #[wv ({ s with p := { s.p with ln := 0 } } : Wk), .int .i64 2, .bool true]) ?_ rfl ?_
  · exact Rw.results_cell_slot2 (p := 4) (q := 5) (r := 6) (ty := 46) Try.results39 _ _ (w.heap.size + 1) 46 _ (0, 0) _ rfl ZF Try.underlying46 rfl (by kernel_rfl)
  · exact ⟨rfl, H4.fin _⟩
set_option maxRecDepth 10000 in
set_option maxHeartbeats 4000000 in
theorem ren46M {B : Nat} {w : World} {g gl cap : Nat} {c : Cfg} {a : Acc} {L : List Int} (M : RefMem B w g c a gl cap L) (s : Wk) (hm : L.length ≤ 1000) (hL : WR L) (hf : c.Wf) (hp : PR s.p) (hl : s.p.ln = 46) (h1 : ldV L (aEnt c (s.p.t % 65536 - 1)) % 16 ≠ 1) : Calls Try.prog 39 #[.pointer (some ⟨g, 0, none⟩), wv s] w (RPost B g gl cap c ⟨acc L 1 (aEnt c (s.p.t % 65536 - 1)) 0 0, L, { s.p with ln := 0 }, 2, true⟩ s w) := by
  have HLK : RowKit.Hid (∀ (w' : World) (R : RefMem B w' g c a0 gl cap L), _) := Lib.hid (fun w' R => rLookM R s hm hL hf hp h1)
  clear h1
  have f0 : ∀ s : Wk, (wc s)[0]? = some (.int .i64 s.p.ln) := fun _ => rfl
  have f30 : ∀ s : Wk, (wc s)[30]? = some (.int .u64 s.p.t) := fun _ => rfl
  have d1 : decide (20 ≤ s.p.ln) = true := by simp [hl]
  have d2 : decide (s.p.ln ≤ 25) = false := by simp [hl]
  have d3 : (s.p.ln != 60) = true := by simp [hl]
  have d4 : decide (s.p.ln < 40) = false := by simp [hl]
  have d5 : decide (46 < s.p.ln) = false := by simp [hl]
  have t40 : (s.p.ln == 40) = false := by simp [hl]
  have t41 : (s.p.ln == 41) = false := by simp [hl]
  have t43 : (s.p.ln == 43) = false := by simp [hl]
  have t45 : (s.p.ln == 45) = false := by simp [hl]
  have HUT := Lib.hid (fun w => rUnticket s.p.t hp.t w)
  have H0 := RX.start M s
  have H1 := H0.wipe
  have hba := build_acc0
  have x0 := H0.X.cells
  obtain ⟨w1, hw1⟩ : ∃ u, u = (w.alloc (.cells (wc s) 46)).alloc (.cells (wc wz) 46) := ⟨_, rfl⟩
  rw [← hw1] at H0 H1 x0
  obtain ⟨w2, hw2⟩ : ∃ u, u = w1.setRow g (rc c a0 ⟨some ⟨gl, 0, none⟩, L.length, cap⟩) := ⟨_, rfl⟩
  rw [← hw2] at H1
  have x1 := H1.X.cells
  have l1 := H1.lt
  have HW1 := Lib.hid hw1
  have HW2 := Lib.hid hw2
  clear hl hw1 hw2
  go_enter Try.func39, Try.ntmps39
  go_wp2_with (first | ((with_reducible refine wpList_alloc_wz rfl rfl ?_); rw [← HW1.out]; clear HW1) | ((with_reducible refine Sub.wpList_store_sub rfl 78 _ _ rfl g 9 #[.int .i64 0, .int .i64 0, .int .u64 0, .int .u64 0, .int .u64 0] ?_ ?_ 103 (rc c a ⟨some ⟨gl, 0, none⟩, L.length, cap⟩) (rc c a0 ⟨some ⟨gl, 0, none⟩, L.length, cap⟩) ?_ ?_ ?_ ?_ ?_ ?_); exact rfl; exact rfl; exact H0.M.B; kernel_rfl; exact Nat.le_of_ble_eq_true (by kernel_rfl); kernel_rfl; kernel_rfl; rw [← HW2.out]; clear HW2 H0 x0))
  refine (HUT.out _).mono ?_
  rintro en w3 ⟨rfl, hb3⟩
  have H3 := H1.keep hb3
  clear x1 l1 H1 hb3
  go_wp2_with (refine wpList_load_row rfl 46 _ rfl w.heap.size rfl _ (wc s) (0, 0) _ (by exact H3.X) Try.underlying46 rfl (by kernel_rfl) ?_)
  refine (HLK.out _ H3.M).mono ?_
  rintro en w4 ⟨rfl, M4, T4⟩
  have H4 := H3.mem M4 T4
  clear HLK M4 T4
  go_wp2_with (refine wpList_store_row rfl 46 _ _ rfl (w.heap.size + 1) (wc ({ s with p := { s.p with ln := 0 } } : Wk)) rfl rfl _ _ (by exact H4.Z) (by kernel_rfl) (by kernel_rfl) (by kernel_rfl) ?_)
  have ZF := H4.Z.setRow (wc ({ s with p := { s.p with ln := 0 } } : Wk))
  refine bodyPost_ret (v := .tuple #[wv ({ s with p := { s.p with ln := 0 } } : Wk), .int .i64 2, .bool true]) ?_ rfl ?_
  · exact Rw.results_cell_slot2 (p := 4) (q := 5) (r := 6) (ty := 46) Try.results39 _ _ (w.heap.size + 1) 46 _ (0, 0) _ rfl ZF Try.underlying46 rfl (by kernel_rfl)
  · exact ⟨rfl, H4.fin _⟩
set_option maxRecDepth 10000 in
set_option maxHeartbeats 4000000 in
theorem ren60M {B : Nat} {w : World} {g gl cap : Nat} {c : Cfg} {a : Acc} {L : List Int} (M : RefMem B w g c a gl cap L) (s : Wk) (hm : L.length ≤ 1000) (hL : WR L) (hf : c.Wf) (hp : PR s.p) (hl : s.p.ln = 60) (h1 : ldV L (aEnt c (s.p.t % 65536 - 1)) % 16 ≠ 1) : Calls Try.prog 39 #[.pointer (some ⟨g, 0, none⟩), wv s] w (RPost B g gl cap c ⟨acc L 1 (aEnt c (s.p.t % 65536 - 1)) 0 0, L, { s.p with ln := 0 }, 2, true⟩ s w) := by
  have HLK : RowKit.Hid (∀ (w' : World) (R : RefMem B w' g c a0 gl cap L), _) := Lib.hid (fun w' R => rLookM R s hm hL hf hp h1)
  clear h1
  have f0 : ∀ s : Wk, (wc s)[0]? = some (.int .i64 s.p.ln) := fun _ => rfl
  have f30 : ∀ s : Wk, (wc s)[30]? = some (.int .u64 s.p.t) := fun _ => rfl
  have d1 : decide (20 ≤ s.p.ln) = true := by simp [hl]
  have d2 : decide (s.p.ln ≤ 25) = false := by simp [hl]
  have d3 : (s.p.ln != 60) = false := by simp [hl]
  have d4 : decide (s.p.ln < 40) = false := by simp [hl]
  have d5 : decide (46 < s.p.ln) = true := by simp [hl]
  have t40 : (s.p.ln == 40) = false := by simp [hl]
  have t41 : (s.p.ln == 41) = false := by simp [hl]
  have t43 : (s.p.ln == 43) = false := by simp [hl]
  have t45 : (s.p.ln == 45) = false := by simp [hl]
  have HUT := Lib.hid (fun w => rUnticket s.p.t hp.t w)
  have H0 := RX.start M s
  have H1 := H0.wipe
  have hba := build_acc0
  have x0 := H0.X.cells
  obtain ⟨w1, hw1⟩ : ∃ u, u = (w.alloc (.cells (wc s) 46)).alloc (.cells (wc wz) 46) := ⟨_, rfl⟩
  rw [← hw1] at H0 H1 x0
  obtain ⟨w2, hw2⟩ : ∃ u, u = w1.setRow g (rc c a0 ⟨some ⟨gl, 0, none⟩, L.length, cap⟩) := ⟨_, rfl⟩
  rw [← hw2] at H1
  have x1 := H1.X.cells
  have l1 := H1.lt
  have HW1 := Lib.hid hw1
  have HW2 := Lib.hid hw2
  clear hl hw1 hw2
  go_enter Try.func39, Try.ntmps39
  go_wp2_with (first | ((with_reducible refine wpList_alloc_wz rfl rfl ?_); rw [← HW1.out]; clear HW1) | ((with_reducible refine Sub.wpList_store_sub rfl 78 _ _ rfl g 9 #[.int .i64 0, .int .i64 0, .int .u64 0, .int .u64 0, .int .u64 0] ?_ ?_ 103 (rc c a ⟨some ⟨gl, 0, none⟩, L.length, cap⟩) (rc c a0 ⟨some ⟨gl, 0, none⟩, L.length, cap⟩) ?_ ?_ ?_ ?_ ?_ ?_); exact rfl; exact rfl; exact H0.M.B; kernel_rfl; exact Nat.le_of_ble_eq_true (by kernel_rfl); kernel_rfl; kernel_rfl; rw [← HW2.out]; clear HW2 H0 x0))
  refine (HUT.out _).mono ?_
  rintro en w3 ⟨rfl, hb3⟩
  have H3 := H1.keep hb3
  clear x1 l1 H1 hb3
  go_wp2_with (refine wpList_load_row rfl 46 _ rfl w.heap.size rfl _ (wc s) (0, 0) _ (by exact H3.X) Try.underlying46 rfl (by kernel_rfl) ?_)
  refine (HLK.out _ H3.M).mono ?_
  rintro en w4 ⟨rfl, M4, T4⟩
  have H4 := H3.mem M4 T4
  clear HLK M4 T4
  go_wp2_with (refine wpList_store_row rfl 46 _ _ rfl (w.heap.size + 1) (wc ({ s with p := { s.p with ln := 0 } } : Wk)) rfl rfl _ _ (by exact H4.Z) (by kernel_rfl) (by kernel_rfl) (by kernel_rfl) ?_)
  have ZF := H4.Z.setRow (wc ({ s with p := { s.p with ln := 0 } } : Wk))
  refine bodyPost_ret (v := .tuple #[wv ({ s with p := { s.p with ln := 0 } } : Wk), .int .i64 2, .bool true]) ?_ rfl ?_
  · exact Rw.results_cell_slot2 (p := 4) (q := 5) (r := 6) (ty := 46) Try.results39 _ _ (w.heap.size + 1) 46 _ (0, 0) _ rfl ZF Try.underlying46 rfl (by kernel_rfl)
  · exact ⟨rfl, H4.fin _⟩
set_option maxRecDepth 10000 in
set_option maxHeartbeats 4000000 in
theorem ren42N {B : Nat} {w : World} {g gl cap : Nat} {c : Cfg} {a : Acc} {L : List Int} (M : RefMem B w g c a gl cap L) (s : Wk) (hm : L.length ≤ 1000) (hL : WR L) (hf : c.Wf) (hp : PR s.p) (hl : s.p.ln = 42) (h1 : ldV L (aEnt c (s.p.t % 65536 - 1)) % 16 = 1) (h2 : ldV L (aEnt c (s.p.t % 65536 - 1)) / 1048576 ≠ s.p.t / 65536) : Calls Try.prog 39 #[.pointer (some ⟨g, 0, none⟩), wv s] w (RPost B g gl cap c ⟨acc L 1 (aEnt c (s.p.t % 65536 - 1)) 0 0, L, { s.p with ln := 0 }, 2, true⟩ s w) := by
  have HLK : RowKit.Hid (∀ (w' : World) (R : RefMem B w' g c a0 gl cap L), _) := Lib.hid (fun w' R => rLookN R s hm hL hf hp h1 h2)
  clear h1 h2
  have f0 : ∀ s : Wk, (wc s)[0]? = some (.int .i64 s.p.ln) := fun _ => rfl
  have f30 : ∀ s : Wk, (wc s)[30]? = some (.int .u64 s.p.t) := fun _ => rfl
  have d1 : decide (20 ≤ s.p.ln) = true := by simp [hl]
  have d2 : decide (s.p.ln ≤ 25) = false := by simp [hl]
  have d3 : (s.p.ln != 60) = true := by simp [hl]
  have d4 : decide (s.p.ln < 40) = false := by simp [hl]
  have d5 : decide (46 < s.p.ln) = false := by simp [hl]
  have t40 : (s.p.ln == 40) = false := by simp [hl]
  have t41 : (s.p.ln == 41) = false := by simp [hl]
  have t43 : (s.p.ln == 43) = false := by simp [hl]
  have t45 : (s.p.ln == 45) = false := by simp [hl]
  have HUT := Lib.hid (fun w => rUnticket s.p.t hp.t w)
  have H0 := RX.start M s
  have H1 := H0.wipe
  have hba := build_acc0
  have x0 := H0.X.cells
  obtain ⟨w1, hw1⟩ : ∃ u, u = (w.alloc (.cells (wc s) 46)).alloc (.cells (wc wz) 46) := ⟨_, rfl⟩
  rw [← hw1] at H0 H1 x0
  obtain ⟨w2, hw2⟩ : ∃ u, u = w1.setRow g (rc c a0 ⟨some ⟨gl, 0, none⟩, L.length, cap⟩) := ⟨_, rfl⟩
  rw [← hw2] at H1
  have x1 := H1.X.cells
  have l1 := H1.lt
  have HW1 := Lib.hid hw1
  have HW2 := Lib.hid hw2
  clear hl hw1 hw2
  go_enter Try.func39, Try.ntmps39
  go_wp2_with (first | ((with_reducible refine wpList_alloc_wz rfl rfl ?_); rw [← HW1.out]; clear HW1) | ((with_reducible refine Sub.wpList_store_sub rfl 78 _ _ rfl g 9 #[.int .i64 0, .int .i64 0, .int .u64 0, .int .u64 0, .int .u64 0] ?_ ?_ 103 (rc c a ⟨some ⟨gl, 0, none⟩, L.length, cap⟩) (rc c a0 ⟨some ⟨gl, 0, none⟩, L.length, cap⟩) ?_ ?_ ?_ ?_ ?_ ?_); exact rfl; exact rfl; exact H0.M.B; kernel_rfl; exact Nat.le_of_ble_eq_true (by kernel_rfl); kernel_rfl; kernel_rfl; rw [← HW2.out]; clear HW2 H0 x0))
  refine (HUT.out _).mono ?_
  rintro en w3 ⟨rfl, hb3⟩
  have H3 := H1.keep hb3
  clear x1 l1 H1 hb3
  go_wp2_with (refine wpList_load_row rfl 46 _ rfl w.heap.size rfl _ (wc s) (0, 0) _ (by exact H3.X) Try.underlying46 rfl (by kernel_rfl) ?_)
  refine (HLK.out _ H3.M).mono ?_
  rintro en w4 ⟨rfl, M4, T4⟩
  have H4 := H3.mem M4 T4
  clear HLK M4 T4
  go_wp2_with (refine wpList_store_row rfl 46 _ _ rfl (w.heap.size + 1) (wc ({ s with p := { s.p with ln := 0 } } : Wk)) rfl rfl _ _ (by exact H4.Z) (by kernel_rfl) (by kernel_rfl) (by kernel_rfl) ?_)
  have ZF := H4.Z.setRow (wc ({ s with p := { s.p with ln := 0 } } : Wk))
  refine bodyPost_ret (v := .tuple #[wv ({ s with p := { s.p with ln := 0 } } : Wk), .int .i64 2, .bool true]) ?_ rfl ?_
  · exact Rw.results_cell_slot2 (p := 4) (q := 5) (r := 6) (ty := 46) Try.results39 _ _ (w.heap.size + 1) 46 _ (0, 0) _ rfl ZF Try.underlying46 rfl (by kernel_rfl)
  · exact ⟨rfl, H4.fin _⟩
set_option maxRecDepth 10000 in
set_option maxHeartbeats 4000000 in
theorem ren44N {B : Nat} {w : World} {g gl cap : Nat} {c : Cfg} {a : Acc} {L : List Int} (M : RefMem B w g c a gl cap L) (s : Wk) (hm : L.length ≤ 1000) (hL : WR L) (hf : c.Wf) (hp : PR s.p) (hl : s.p.ln = 44) (h1 : ldV L (aEnt c (s.p.t % 65536 - 1)) % 16 = 1) (h2 : ldV L (aEnt c (s.p.t % 65536 - 1)) / 1048576 ≠ s.p.t / 65536) : Calls Try.prog 39 #[.pointer (some ⟨g, 0, none⟩), wv s] w (RPost B g gl cap c ⟨acc L 1 (aEnt c (s.p.t % 65536 - 1)) 0 0, L, { s.p with ln := 0 }, 2, true⟩ s w) := by
  have HLK : RowKit.Hid (∀ (w' : World) (R : RefMem B w' g c a0 gl cap L), _) := Lib.hid (fun w' R => rLookN R s hm hL hf hp h1 h2)
  clear h1 h2
  have f0 : ∀ s : Wk, (wc s)[0]? = some (.int .i64 s.p.ln) := fun _ => rfl
  have f30 : ∀ s : Wk, (wc s)[30]? = some (.int .u64 s.p.t) := fun _ => rfl
  have d1 : decide (20 ≤ s.p.ln) = true := by simp [hl]
  have d2 : decide (s.p.ln ≤ 25) = false := by simp [hl]
  have d3 : (s.p.ln != 60) = true := by simp [hl]
  have d4 : decide (s.p.ln < 40) = false := by simp [hl]
  have d5 : decide (46 < s.p.ln) = false := by simp [hl]
  have t40 : (s.p.ln == 40) = false := by simp [hl]
  have t41 : (s.p.ln == 41) = false := by simp [hl]
  have t43 : (s.p.ln == 43) = false := by simp [hl]
  have t45 : (s.p.ln == 45) = false := by simp [hl]
  have HUT := Lib.hid (fun w => rUnticket s.p.t hp.t w)
  have H0 := RX.start M s
  have H1 := H0.wipe
  have hba := build_acc0
  have x0 := H0.X.cells
  obtain ⟨w1, hw1⟩ : ∃ u, u = (w.alloc (.cells (wc s) 46)).alloc (.cells (wc wz) 46) := ⟨_, rfl⟩
  rw [← hw1] at H0 H1 x0
  obtain ⟨w2, hw2⟩ : ∃ u, u = w1.setRow g (rc c a0 ⟨some ⟨gl, 0, none⟩, L.length, cap⟩) := ⟨_, rfl⟩
  rw [← hw2] at H1
  have x1 := H1.X.cells
  have l1 := H1.lt
  have HW1 := Lib.hid hw1
  have HW2 := Lib.hid hw2
  clear hl hw1 hw2
  go_enter Try.func39, Try.ntmps39
  go_wp2_with (first | ((with_reducible refine wpList_alloc_wz rfl rfl ?_); rw [← HW1.out]; clear HW1) | ((with_reducible refine Sub.wpList_store_sub rfl 78 _ _ rfl g 9 #[.int .i64 0, .int .i64 0, .int .u64 0, .int .u64 0, .int .u64 0] ?_ ?_ 103 (rc c a ⟨some ⟨gl, 0, none⟩, L.length, cap⟩) (rc c a0 ⟨some ⟨gl, 0, none⟩, L.length, cap⟩) ?_ ?_ ?_ ?_ ?_ ?_); exact rfl; exact rfl; exact H0.M.B; kernel_rfl; exact Nat.le_of_ble_eq_true (by kernel_rfl); kernel_rfl; kernel_rfl; rw [← HW2.out]; clear HW2 H0 x0))
  refine (HUT.out _).mono ?_
  rintro en w3 ⟨rfl, hb3⟩
  have H3 := H1.keep hb3
  clear x1 l1 H1 hb3
  go_wp2_with (refine wpList_load_row rfl 46 _ rfl w.heap.size rfl _ (wc s) (0, 0) _ (by exact H3.X) Try.underlying46 rfl (by kernel_rfl) ?_)
  refine (HLK.out _ H3.M).mono ?_
  rintro en w4 ⟨rfl, M4, T4⟩
  have H4 := H3.mem M4 T4
  clear HLK M4 T4
  go_wp2_with (refine wpList_store_row rfl 46 _ _ rfl (w.heap.size + 1) (wc ({ s with p := { s.p with ln := 0 } } : Wk)) rfl rfl _ _ (by exact H4.Z) (by kernel_rfl) (by kernel_rfl) (by kernel_rfl) ?_)
  have ZF := H4.Z.setRow (wc ({ s with p := { s.p with ln := 0 } } : Wk))
  refine bodyPost_ret (v := .tuple #[wv ({ s with p := { s.p with ln := 0 } } : Wk), .int .i64 2, .bool true]) ?_ rfl ?_
  · exact Rw.results_cell_slot2 (p := 4) (q := 5) (r := 6) (ty := 46) Try.results39 _ _ (w.heap.size + 1) 46 _ (0, 0) _ rfl ZF Try.underlying46 rfl (by kernel_rfl)
  · exact ⟨rfl, H4.fin _⟩
set_option maxRecDepth 10000 in
set_option maxHeartbeats 4000000 in
theorem ren46N {B : Nat} {w : World} {g gl cap : Nat} {c : Cfg} {a : Acc} {L : List Int} (M : RefMem B w g c a gl cap L) (s : Wk) (hm : L.length ≤ 1000) (hL : WR L) (hf : c.Wf) (hp : PR s.p) (hl : s.p.ln = 46) (h1 : ldV L (aEnt c (s.p.t % 65536 - 1)) % 16 = 1) (h2 : ldV L (aEnt c (s.p.t % 65536 - 1)) / 1048576 ≠ s.p.t / 65536) : Calls Try.prog 39 #[.pointer (some ⟨g, 0, none⟩), wv s] w (RPost B g gl cap c ⟨acc L 1 (aEnt c (s.p.t % 65536 - 1)) 0 0, L, { s.p with ln := 0 }, 2, true⟩ s w) := by
  have HLK : RowKit.Hid (∀ (w' : World) (R : RefMem B w' g c a0 gl cap L), _) := Lib.hid (fun w' R => rLookN R s hm hL hf hp h1 h2)
  clear h1 h2
  have f0 : ∀ s : Wk, (wc s)[0]? = some (.int .i64 s.p.ln) := fun _ => rfl
  have f30 : ∀ s : Wk, (wc s)[30]? = some (.int .u64 s.p.t) := fun _ => rfl
  have d1 : decide (20 ≤ s.p.ln) = true := by simp [hl]
  have d2 : decide (s.p.ln ≤ 25) = false := by simp [hl]
  have d3 : (s.p.ln != 60) = true := by simp [hl]
  have d4 : decide (s.p.ln < 40) = false := by simp [hl]
  have d5 : decide (46 < s.p.ln) = false := by simp [hl]
  have t40 : (s.p.ln == 40) = false := by simp [hl]
  have t41 : (s.p.ln == 41) = false := by simp [hl]
  have t43 : (s.p.ln == 43) = false := by simp [hl]
  have t45 : (s.p.ln == 45) = false := by simp [hl]
  have HUT := Lib.hid (fun w => rUnticket s.p.t hp.t w)
  have H0 := RX.start M s
  have H1 := H0.wipe
  have hba := build_acc0
  have x0 := H0.X.cells
  obtain ⟨w1, hw1⟩ : ∃ u, u = (w.alloc (.cells (wc s) 46)).alloc (.cells (wc wz) 46) := ⟨_, rfl⟩
  rw [← hw1] at H0 H1 x0
  obtain ⟨w2, hw2⟩ : ∃ u, u = w1.setRow g (rc c a0 ⟨some ⟨gl, 0, none⟩, L.length, cap⟩) := ⟨_, rfl⟩
  rw [← hw2] at H1
  have x1 := H1.X.cells
  have l1 := H1.lt
  have HW1 := Lib.hid hw1
  have HW2 := Lib.hid hw2
  clear hl hw1 hw2
  go_enter Try.func39, Try.ntmps39
  go_wp2_with (first | ((with_reducible refine wpList_alloc_wz rfl rfl ?_); rw [← HW1.out]; clear HW1) | ((with_reducible refine Sub.wpList_store_sub rfl 78 _ _ rfl g 9 #[.int .i64 0, .int .i64 0, .int .u64 0, .int .u64 0, .int .u64 0] ?_ ?_ 103 (rc c a ⟨some ⟨gl, 0, none⟩, L.length, cap⟩) (rc c a0 ⟨some ⟨gl, 0, none⟩, L.length, cap⟩) ?_ ?_ ?_ ?_ ?_ ?_); exact rfl; exact rfl; exact H0.M.B; kernel_rfl; exact Nat.le_of_ble_eq_true (by kernel_rfl); kernel_rfl; kernel_rfl; rw [← HW2.out]; clear HW2 H0 x0))
  refine (HUT.out _).mono ?_
  rintro en w3 ⟨rfl, hb3⟩
  have H3 := H1.keep hb3
  clear x1 l1 H1 hb3
  go_wp2_with (refine wpList_load_row rfl 46 _ rfl w.heap.size rfl _ (wc s) (0, 0) _ (by exact H3.X) Try.underlying46 rfl (by kernel_rfl) ?_)
  refine (HLK.out _ H3.M).mono ?_
  rintro en w4 ⟨rfl, M4, T4⟩
  have H4 := H3.mem M4 T4
  clear HLK M4 T4
  go_wp2_with (refine wpList_store_row rfl 46 _ _ rfl (w.heap.size + 1) (wc ({ s with p := { s.p with ln := 0 } } : Wk)) rfl rfl _ _ (by exact H4.Z) (by kernel_rfl) (by kernel_rfl) (by kernel_rfl) ?_)
  have ZF := H4.Z.setRow (wc ({ s with p := { s.p with ln := 0 } } : Wk))
  refine bodyPost_ret (v := .tuple #[wv ({ s with p := { s.p with ln := 0 } } : Wk), .int .i64 2, .bool true]) ?_ rfl ?_
  · exact Rw.results_cell_slot2 (p := 4) (q := 5) (r := 6) (ty := 46) Try.results39 _ _ (w.heap.size + 1) 46 _ (0, 0) _ rfl ZF Try.underlying46 rfl (by kernel_rfl)
  · exact ⟨rfl, H4.fin _⟩
set_option maxRecDepth 10000 in
set_option maxHeartbeats 4000000 in
theorem ren60N {B : Nat} {w : World} {g gl cap : Nat} {c : Cfg} {a : Acc} {L : List Int} (M : RefMem B w g c a gl cap L) (s : Wk) (hm : L.length ≤ 1000) (hL : WR L) (hf : c.Wf) (hp : PR s.p) (hl : s.p.ln = 60) (h1 : ldV L (aEnt c (s.p.t % 65536 - 1)) % 16 = 1) (h2 : ldV L (aEnt c (s.p.t % 65536 - 1)) / 1048576 ≠ s.p.t / 65536) : Calls Try.prog 39 #[.pointer (some ⟨g, 0, none⟩), wv s] w (RPost B g gl cap c ⟨acc L 1 (aEnt c (s.p.t % 65536 - 1)) 0 0, L, { s.p with ln := 0 }, 2, true⟩ s w) := by
  have HLK : RowKit.Hid (∀ (w' : World) (R : RefMem B w' g c a0 gl cap L), _) := Lib.hid (fun w' R => rLookN R s hm hL hf hp h1 h2)
  clear h1 h2
  have f0 : ∀ s : Wk, (wc s)[0]? = some (.int .i64 s.p.ln) := fun _ => rfl
  have f30 : ∀ s : Wk, (wc s)[30]? = some (.int .u64 s.p.t) := fun _ => rfl
  have d1 : decide (20 ≤ s.p.ln) = true := by simp [hl]
  have d2 : decide (s.p.ln ≤ 25) = false := by simp [hl]
  have d3 : (s.p.ln != 60) = false := by simp [hl]
  have d4 : decide (s.p.ln < 40) = false := by simp [hl]
  have d5 : decide (46 < s.p.ln) = true := by simp [hl]
  have t40 : (s.p.ln == 40) = false := by simp [hl]
  have t41 : (s.p.ln == 41) = false := by simp [hl]
  have t43 : (s.p.ln == 43) = false := by simp [hl]
  have t45 : (s.p.ln == 45) = false := by simp [hl]
  have HUT := Lib.hid (fun w => rUnticket s.p.t hp.t w)
  have H0 := RX.start M s
  have H1 := H0.wipe
  have hba := build_acc0
  have x0 := H0.X.cells
  obtain ⟨w1, hw1⟩ : ∃ u, u = (w.alloc (.cells (wc s) 46)).alloc (.cells (wc wz) 46) := ⟨_, rfl⟩
  rw [← hw1] at H0 H1 x0
  obtain ⟨w2, hw2⟩ : ∃ u, u = w1.setRow g (rc c a0 ⟨some ⟨gl, 0, none⟩, L.length, cap⟩) := ⟨_, rfl⟩
  rw [← hw2] at H1
  have x1 := H1.X.cells
  have l1 := H1.lt
  have HW1 := Lib.hid hw1
  have HW2 := Lib.hid hw2
  clear hl hw1 hw2
  go_enter Try.func39, Try.ntmps39
  go_wp2_with (first | ((with_reducible refine wpList_alloc_wz rfl rfl ?_); rw [← HW1.out]; clear HW1) | ((with_reducible refine Sub.wpList_store_sub rfl 78 _ _ rfl g 9 #[.int .i64 0, .int .i64 0, .int .u64 0, .int .u64 0, .int .u64 0] ?_ ?_ 103 (rc c a ⟨some ⟨gl, 0, none⟩, L.length, cap⟩) (rc c a0 ⟨some ⟨gl, 0, none⟩, L.length, cap⟩) ?_ ?_ ?_ ?_ ?_ ?_); exact rfl; exact rfl; exact H0.M.B; kernel_rfl; exact Nat.le_of_ble_eq_true (by kernel_rfl); kernel_rfl; kernel_rfl; rw [← HW2.out]; clear HW2 H0 x0))
  refine (HUT.out _).mono ?_
  rintro en w3 ⟨rfl, hb3⟩
  have H3 := H1.keep hb3
  clear x1 l1 H1 hb3
  go_wp2_with (refine wpList_load_row rfl 46 _ rfl w.heap.size rfl _ (wc s) (0, 0) _ (by exact H3.X) Try.underlying46 rfl (by kernel_rfl) ?_)
  refine (HLK.out _ H3.M).mono ?_
  rintro en w4 ⟨rfl, M4, T4⟩
  have H4 := H3.mem M4 T4
  clear HLK M4 T4
  go_wp2_with (refine wpList_store_row rfl 46 _ _ rfl (w.heap.size + 1) (wc ({ s with p := { s.p with ln := 0 } } : Wk)) rfl rfl _ _ (by exact H4.Z) (by kernel_rfl) (by kernel_rfl) (by kernel_rfl) ?_)
  have ZF := H4.Z.setRow (wc ({ s with p := { s.p with ln := 0 } } : Wk))
  refine bodyPost_ret (v := .tuple #[wv ({ s with p := { s.p with ln := 0 } } : Wk), .int .i64 2, .bool true]) ?_ rfl ?_
  · exact Rw.results_cell_slot2 (p := 4) (q := 5) (r := 6) (ty := 46) Try.results39 _ _ (w.heap.size + 1) 46 _ (0, 0) _ rfl ZF Try.underlying46 rfl (by kernel_rfl)
  · exact ⟨rfl, H4.fin _⟩
set_option maxRecDepth 10000 in
set_option maxHeartbeats 4000000 in
theorem ren40 {B : Nat} {w : World} {g gl cap : Nat} {c : Cfg} {a : Acc} {L : List Int} (M : RefMem B w g c a gl cap L) (s : Wk) (hm : L.length ≤ 1000) (hL : WR L) (hf : c.Wf) (hp : PR s.p) (hl : s.p.ln = 40) : Calls Try.prog 39 #[.pointer (some ⟨g, 0, none⟩), wv s] w (RPost B g gl cap c ⟨acc L 1 (aEnt c (wrap64 (s.p.i - 1))) 0 0, L, { s.p with g := ldV L (aEnt c (wrap64 (s.p.i - 1))) / 1048576, ln := 41 }, 0, true⟩ s w) := by
  have hv := ldV_wr hL (aEnt c (wrap64 (s.p.i - 1)))
  have f0 : ∀ s : Wk, (wc s)[0]? = some (.int .i64 s.p.ln) := fun _ => rfl
  have f20 : ∀ s : Wk, (wc s)[20]? = some (.int .i64 s.p.i) := fun _ => rfl
  have f27 : ∀ s : Wk, (wc s)[27]? = some (.int .u64 s.p.g) := fun _ => rfl
  have f30 : ∀ s : Wk, (wc s)[30]? = some (.int .u64 s.p.t) := fun _ => rfl
  have d1 : decide (20 ≤ s.p.ln) = true := by simp [hl]
  have d2 : decide (s.p.ln ≤ 25) = false := by simp [hl]
  have d3 : (s.p.ln != 60) = true := by simp [hl]
  have d4 : decide (s.p.ln < 40) = false := by simp [hl]
  have d5 : decide (46 < s.p.ln) = false := by simp [hl]
  have t40 : (s.p.ln == 40) = true := by simp [hl]
  have HUT := Lib.hid (fun w => rUnticket s.p.t hp.t w)
  have H0 := RX.start M s
  have H1 := H0.wipe
  have hba := build_acc0
  have x0 := H0.X.cells
  obtain ⟨w1, hw1⟩ : ∃ u, u = (w.alloc (.cells (wc s) 46)).alloc (.cells (wc wz) 46) := ⟨_, rfl⟩
  rw [← hw1] at H0 H1 x0
  obtain ⟨w2, hw2⟩ : ∃ u, u = w1.setRow g (rc c a0 ⟨some ⟨gl, 0, none⟩, L.length, cap⟩) := ⟨_, rfl⟩
  rw [← hw2] at H1
  have x1 := H1.X.cells
  have l1 := H1.lt
  have HW1 := Lib.hid hw1
  have HW2 := Lib.hid hw2
  clear hl hw1 hw2
  go_enter Try.func39, Try.ntmps39
  go_wp2_with (first | ((with_reducible refine wpList_alloc_wz rfl rfl ?_); rw [← HW1.out]; clear HW1) | ((with_reducible refine Sub.wpList_store_sub rfl 78 _ _ rfl g 9 #[.int .i64 0, .int .i64 0, .int .u64 0, .int .u64 0, .int .u64 0] ?_ ?_ 103 (rc c a ⟨some ⟨gl, 0, none⟩, L.length, cap⟩) (rc c a0 ⟨some ⟨gl, 0, none⟩, L.length, cap⟩) ?_ ?_ ?_ ?_ ?_ ?_); exact rfl; exact rfl; exact H0.M.B; kernel_rfl; exact Nat.le_of_ble_eq_true (by kernel_rfl); kernel_rfl; kernel_rfl; rw [← HW2.out]; clear HW2 H0 x0))
  refine (HUT.out _).mono ?_
  rintro en w3 ⟨rfl, hb3⟩
  have H3 := H1.keep hb3
  clear x1 l1 H1 hb3
  have x3 := H3.X.cells
  go_wp2_with fail
  refine (rEntryA H3.M hf _).mono ?_
  rintro en w4 ⟨rfl, hb4⟩
  have H4 := H3.keep hb4
  clear x3 H3 hb4
  go_wp2_with fail
  refine (rload_any H4.M hm _).mono ?_
  rintro en w5 ⟨rfl, Mw5, Tw5⟩
  have H5 := H4.mem Mw5 Tw5
  obtain ⟨v0, hv0⟩ : ∃ v, v = ldV L (aEnt c (wrap64 (s.p.i - 1))) := ⟨_, rfl⟩
  simp only [← hv0]
  rw [← hv0] at hv
  have HV := Lib.hid hv0
  clear hv0 Mw5 Tw5 H4
  go_wp2_with fail
  refine (rUnentry v0 hv _).mono ?_
  rintro en w6 ⟨rfl, hb6⟩
  have H6 := H5.keep hb6
  clear H5 hb6 hv
  have H7 := H6.set (s' := { s with p := { s.p with g := v0 / 1048576 } }) 27 (.int .u64 (v0 / 1048576)) rfl
  have xw6 := H6.X.cells
  have zw6 := H6.X.frozen
  have ew6_27 : (w6.cell? ⟨w.heap.size, 27, none⟩).isSome = true := by rw [xw6, f27]; rfl
  have H8 := H7.set (s' := { s with p := { s.p with g := v0 / 1048576, ln := 41 } }) 0 (.int .i64 41) rfl
  have y8 : ((w6.setCell ⟨w.heap.size, 27, none⟩ (.int .u64 (v0 / 1048576))).cell? ⟨w.heap.size, 0, none⟩).isSome = true := by rw [H7.X.cells, f0]; rfl
  go_wp2_with (first | (refine wpList_load_row rfl 46 _ rfl w.heap.size rfl _ (wc ({ s with p := { s.p with g := v0 / 1048576, ln := 41 } } : Wk)) (0, 0) _ (by exact H8.X) Try.underlying46 rfl (by kernel_rfl) ?_) | (refine wpList_store_row rfl 46 _ _ rfl (w.heap.size + 1) (wc ({ s with p := { s.p with g := v0 / 1048576, ln := 41 } } : Wk)) rfl rfl _ _ (by exact H8.Z) (by kernel_rfl) (by kernel_rfl) (by kernel_rfl) ?_))
  have ZF := H8.Z.setRow (wc ({ s with p := { s.p with g := v0 / 1048576, ln := 41 } } : Wk))
  refine bodyPost_ret (v := .tuple #[wv ({ s with p := { s.p with g := v0 / 1048576, ln := 41 } } : Wk), .int .i64 0, .bool true]) ?_ rfl ?_
  · exact Rw.results_cell_slot2 (p := 4) (q := 5) (r := 6) (ty := 46) Try.results39 _ _ (w.heap.size + 1) 46 _ (0, 0) _ rfl ZF Try.underlying46 rfl (by kernel_rfl)
  · have e1 := HV.out
    subst e1
    exact ⟨rfl, H8.fin _⟩
set_option maxRecDepth 10000 in
set_option maxHeartbeats 4000000 in
theorem ren41 {B : Nat} {w : World} {g gl cap : Nat} {c : Cfg} {a : Acc} {L : List Int} (M : RefMem B w g c a gl cap L) (s : Wk) (hm : L.length ≤ 1000) (hL : WR L) (hf : c.Wf) (hp : PR s.p) (hl : s.p.ln = 41) : Calls Try.prog 39 #[.pointer (some ⟨g, 0, none⟩), wv s] w (RPost B g gl cap c ⟨acc L 2 (aEnt c (wrap64 (s.p.i - 1))) (Pk.en s.p.g (wrap64 (s.p.b - 1)) 1) 0, stL L (aEnt c (wrap64 (s.p.i - 1))) (Pk.en s.p.g (wrap64 (s.p.b - 1)) 1), { s.p with t := (Pk.tk (wrap64 (s.p.i - 1)) s.p.g), i := 0, b := 0, ln := 0 }, 1, true⟩ s w) := by
  have HRE := Lib.hid (fun w => Pk.rentry s.p.g (wrap64 (s.p.b - 1)) 1 hp.g.1 hp.g.2 w)
  have HRT := Lib.hid (fun w => Pk.rticket (wrap64 (s.p.i - 1)) s.p.g hp.g.1 hp.g.2 w)
  have f0 : ∀ s : Wk, (wc s)[0]? = some (.int .i64 s.p.ln) := fun _ => rfl
  have f18 : ∀ s : Wk, (wc s)[18]? = some (.int .i64 s.p.b) := fun _ => rfl
  have f20 : ∀ s : Wk, (wc s)[20]? = some (.int .i64 s.p.i) := fun _ => rfl
  have f27 : ∀ s : Wk, (wc s)[27]? = some (.int .u64 s.p.g) := fun _ => rfl
  have f30 : ∀ s : Wk, (wc s)[30]? = some (.int .u64 s.p.t) := fun _ => rfl
  have d1 : decide (20 ≤ s.p.ln) = true := by simp [hl]
  have d2 : decide (s.p.ln ≤ 25) = false := by simp [hl]
  have d3 : (s.p.ln != 60) = true := by simp [hl]
  have d4 : decide (s.p.ln < 40) = false := by simp [hl]
  have d5 : decide (46 < s.p.ln) = false := by simp [hl]
  have t40 : (s.p.ln == 40) = false := by simp [hl]
  have t41 : (s.p.ln == 41) = true := by simp [hl]
  have HUT := Lib.hid (fun w => rUnticket s.p.t hp.t w)
  have H0 := RX.start M s
  have H1 := H0.wipe
  have hba := build_acc0
  have x0 := H0.X.cells
  obtain ⟨w1, hw1⟩ : ∃ u, u = (w.alloc (.cells (wc s) 46)).alloc (.cells (wc wz) 46) := ⟨_, rfl⟩
  rw [← hw1] at H0 H1 x0
  obtain ⟨w2, hw2⟩ : ∃ u, u = w1.setRow g (rc c a0 ⟨some ⟨gl, 0, none⟩, L.length, cap⟩) := ⟨_, rfl⟩
  rw [← hw2] at H1
  have x1 := H1.X.cells
  have l1 := H1.lt
  have HW1 := Lib.hid hw1
  have HW2 := Lib.hid hw2
  clear hl hw1 hw2
  go_enter Try.func39, Try.ntmps39
  go_wp2_with (first | ((with_reducible refine wpList_alloc_wz rfl rfl ?_); rw [← HW1.out]; clear HW1) | ((with_reducible refine Sub.wpList_store_sub rfl 78 _ _ rfl g 9 #[.int .i64 0, .int .i64 0, .int .u64 0, .int .u64 0, .int .u64 0] ?_ ?_ 103 (rc c a ⟨some ⟨gl, 0, none⟩, L.length, cap⟩) (rc c a0 ⟨some ⟨gl, 0, none⟩, L.length, cap⟩) ?_ ?_ ?_ ?_ ?_ ?_); exact rfl; exact rfl; exact H0.M.B; kernel_rfl; exact Nat.le_of_ble_eq_true (by kernel_rfl); kernel_rfl; kernel_rfl; rw [← HW2.out]; clear HW2 H0 x0))
  refine (HUT.out _).mono ?_
  rintro en w3 ⟨rfl, hb3⟩
  have H3 := H1.keep hb3
  clear x1 l1 H1 hb3
  have HEA := Lib.hid (fun (n : Gr w3) i => rEntryA (H3.M.keep n.2) hf i)
  have x3 := H3.X.cells
  have l3 := H3.lt
  have lg3 := H3.M.lt.1
  go_wp2
  refine wp_region_grown_tail 12 (by kernel_rfl) (by kernel_rfl) ?_
  simp only [List.take_succ_cons, List.take_zero, List.drop_succ_cons, List.drop_zero]
  have hg := @gcell
  repeat (go_big_quiet_step (first | exact grown_of (HEA.out _ _) | exact grown_same (HRE.out _)))
  refine wpQuiet_nil ?_
  rintro w4 ⟨⟨_, hbw4⟩, rfl⟩
  clear hg
  have H4 := H3.keep hbw4
  clear x3 l3 lg3 H3 hbw4
  clear HEA
  go_wp2_with fail
  refine (rstore_any H4.M hm _ _).mono ?_
  rintro en w5 ⟨rfl, M5, T5⟩
  have H5 := H4.mem M5 T5
  have x5 := H5.X.cells
  have z5 := H5.X.frozen
  have e5 : (w5.cell? ⟨w.heap.size, 30, none⟩).isSome = true := by rw [x5, f30]; rfl
  clear M5 T5 H4
  go_wp2_with fail
  refine (HRT.out _).mono ?_
  rintro en w6 ⟨rfl, rfl⟩
  clear x5 z5 e5
  have H6 := H5.set (s' := { s with p := { s.p with t := (Pk.tk (wrap64 (s.p.i - 1)) s.p.g) } }) 30 (.int .u64 (Pk.tk (wrap64 (s.p.i - 1)) s.p.g)) rfl
  have zw5 := H5.X.frozen
  have xw5 : w5.cell? ⟨w.heap.size, 30, none⟩ = some (.int .u64 s.p.t) := (H5.X.cells 30).trans (f30 _)
  obtain ⟨w6, hw6⟩ : ∃ u, u = w5.setCell ⟨w.heap.size, 30, none⟩ (.int .u64 (Pk.tk (wrap64 (s.p.i - 1)) s.p.g)) := ⟨_, rfl⟩
  rw [← hw6] at H6
  have HHw6 := Lib.hid hw6
  clear hw6
  have H7 := H6.set (s' := { s with p := { s.p with t := (Pk.tk (wrap64 (s.p.i - 1)) s.p.g), i := 0 } }) 20 (.int .i64 0) rfl
  have zw6 := H6.X.frozen
  have xw6 : w6.cell? ⟨w.heap.size, 20, none⟩ = some (.int .i64 s.p.i) := (H6.X.cells 20).trans (f20 _)
  obtain ⟨w7, hw7⟩ : ∃ u, u = w6.setCell ⟨w.heap.size, 20, none⟩ (.int .i64 0) := ⟨_, rfl⟩
  rw [← hw7] at H7
  have HHw7 := Lib.hid hw7
  clear hw7
  have H8 := H7.set (s' := { s with p := { s.p with t := (Pk.tk (wrap64 (s.p.i - 1)) s.p.g), i := 0, b := 0 } }) 18 (.int .i64 0) rfl
  have zw7 := H7.X.frozen
  have xw7 : w7.cell? ⟨w.heap.size, 18, none⟩ = some (.int .i64 s.p.b) := (H7.X.cells 18).trans (f18 _)
  obtain ⟨w8, hw8⟩ : ∃ u, u = w7.setCell ⟨w.heap.size, 18, none⟩ (.int .i64 0) := ⟨_, rfl⟩
  rw [← hw8] at H8
  have HHw8 := Lib.hid hw8
  clear hw8
  have H9 := H8.set (s' := { s with p := { s.p with t := (Pk.tk (wrap64 (s.p.i - 1)) s.p.g), i := 0, b := 0, ln := 0 } }) 0 (.int .i64 0) rfl
  have zw8 := H8.X.frozen
  have xw8 : w8.cell? ⟨w.heap.size, 0, none⟩ = some (.int .i64 s.p.ln) := (H8.X.cells 0).trans (f0 _)
  obtain ⟨w9, hw9⟩ : ∃ u, u = w8.setCell ⟨w.heap.size, 0, none⟩ (.int .i64 0) := ⟨_, rfl⟩
  rw [← hw9] at H9
  have HHw9 := Lib.hid hw9
  clear hw9
  go_wp2_with (first | (rw [← HHw6.out]; clear HHw6 zw5 xw5) | (rw [← HHw7.out]; clear HHw7 zw6 xw6) | (rw [← HHw8.out]; clear HHw8 zw7 xw7) | (rw [← HHw9.out]; clear HHw9 zw8 xw8) | (refine wpList_load_row rfl 46 _ rfl w.heap.size rfl _ (wc ({ s with p := { s.p with t := (Pk.tk (wrap64 (s.p.i - 1)) s.p.g), i := 0, b := 0, ln := 0 } } : Wk)) (0, 0) _ (by exact H9.X) Try.underlying46 rfl (by kernel_rfl) ?_) | (refine wpList_store_row rfl 46 _ _ rfl (w.heap.size + 1) (wc ({ s with p := { s.p with t := (Pk.tk (wrap64 (s.p.i - 1)) s.p.g), i := 0, b := 0, ln := 0 } } : Wk)) rfl rfl _ _ (by exact H9.Z) (by kernel_rfl) (by kernel_rfl) (by kernel_rfl) ?_))
  have ZF := H9.Z.setRow (wc ({ s with p := { s.p with t := (Pk.tk (wrap64 (s.p.i - 1)) s.p.g), i := 0, b := 0, ln := 0 } } : Wk))
  refine bodyPost_ret (v := .tuple #[wv ({ s with p := { s.p with t := (Pk.tk (wrap64 (s.p.i - 1)) s.p.g), i := 0, b := 0, ln := 0 } } : Wk), .int .i64 1, .bool true]) ?_ rfl ?_
  · exact Rw.results_cell_slot2 (p := 4) (q := 5) (r := 6) (ty := 46) Try.results39 _ _ (w.heap.size + 1) 46 _ (0, 0) _ rfl ZF Try.underlying46 rfl (by kernel_rfl)
  · exact ⟨rfl, H9.fin _⟩
set_option maxRecDepth 10000 in
set_option maxHeartbeats 4000000 in
theorem ren45y {B : Nat} {w : World} {g gl cap : Nat} {c : Cfg} {a : Acc} {L : List Int} (M : RefMem B w g c a gl cap L) (s : Wk) (hm : L.length ≤ 1000) (hL : WR L) (hf : c.Wf) (hp : PR s.p) (hl : s.p.ln = 45) (hb : csB L (aEnt c (s.p.t % 65536 - 1)) s.p.v = true) : Calls Try.prog 39 #[.pointer (some ⟨g, 0, none⟩), wv s] w (RPost B g gl cap c ⟨acc L 3 (aEnt c (s.p.t % 65536 - 1)) s.p.v (Pk.en (s.p.t / 65536) (wrap64 (s.p.b - 1)) 1), csL L (aEnt c (s.p.t % 65536 - 1)) s.p.v (Pk.en (s.p.t / 65536) (wrap64 (s.p.b - 1)) 1), { s.p with b := 0, ln := 0 }, 1, true⟩ s w) := by
  have HB := Lib.hid hb
  have HRE := Lib.hid (fun w => Pk.rentry (s.p.t / 65536) (wrap64 (s.p.b - 1)) 1 (by have := hp.t; omega) (by have := hp.t; omega) w)
  clear hb
  have f0 : ∀ s : Wk, (wc s)[0]? = some (.int .i64 s.p.ln) := fun _ => rfl
  have f18 : ∀ s : Wk, (wc s)[18]? = some (.int .i64 s.p.b) := fun _ => rfl
  have f25 : ∀ s : Wk, (wc s)[25]? = some (.int .u64 s.p.v) := fun _ => rfl
  have f30 : ∀ s : Wk, (wc s)[30]? = some (.int .u64 s.p.t) := fun _ => rfl
  have d1 : decide (20 ≤ s.p.ln) = true := by simp [hl]
  have d2 : decide (s.p.ln ≤ 25) = false := by simp [hl]
  have d3 : (s.p.ln != 60) = true := by simp [hl]
  have d4 : decide (s.p.ln < 40) = false := by simp [hl]
  have d5 : decide (46 < s.p.ln) = false := by simp [hl]
  have t40 : (s.p.ln == 40) = false := by simp [hl]
  have t41 : (s.p.ln == 41) = false := by simp [hl]
  have t43 : (s.p.ln == 43) = false := by simp [hl]
  have t45 : (s.p.ln == 45) = true := by simp [hl]
  have HUT := Lib.hid (fun w => rUnticket s.p.t hp.t w)
  have H0 := RX.start M s
  have H1 := H0.wipe
  have hba := build_acc0
  have x0 := H0.X.cells
  obtain ⟨w1, hw1⟩ : ∃ u, u = (w.alloc (.cells (wc s) 46)).alloc (.cells (wc wz) 46) := ⟨_, rfl⟩
  rw [← hw1] at H0 H1 x0
  obtain ⟨w2, hw2⟩ : ∃ u, u = w1.setRow g (rc c a0 ⟨some ⟨gl, 0, none⟩, L.length, cap⟩) := ⟨_, rfl⟩
  rw [← hw2] at H1
  have x1 := H1.X.cells
  have l1 := H1.lt
  have HW1 := Lib.hid hw1
  have HW2 := Lib.hid hw2
  clear hl hw1 hw2
  go_enter Try.func39, Try.ntmps39
  go_wp2_with (first | ((with_reducible refine wpList_alloc_wz rfl rfl ?_); rw [← HW1.out]; clear HW1) | ((with_reducible refine Sub.wpList_store_sub rfl 78 _ _ rfl g 9 #[.int .i64 0, .int .i64 0, .int .u64 0, .int .u64 0, .int .u64 0] ?_ ?_ 103 (rc c a ⟨some ⟨gl, 0, none⟩, L.length, cap⟩) (rc c a0 ⟨some ⟨gl, 0, none⟩, L.length, cap⟩) ?_ ?_ ?_ ?_ ?_ ?_); exact rfl; exact rfl; exact H0.M.B; kernel_rfl; exact Nat.le_of_ble_eq_true (by kernel_rfl); kernel_rfl; kernel_rfl; rw [← HW2.out]; clear HW2 H0 x0))
  refine (HUT.out _).mono ?_
  rintro en w3 ⟨rfl, hb3⟩
  have H3 := H1.keep hb3
  clear x1 l1 H1 hb3
  have HEA := Lib.hid (fun (n : Gr w3) i => rEntryA (H3.M.keep n.2) hf i)
  have x3 := H3.X.cells
  have l3 := H3.lt
  have lg3 := H3.M.lt.1
  go_wp2
  refine wp_region_grown_tail 11 (by kernel_rfl) (by kernel_rfl) ?_
  simp only [List.take_succ_cons, List.take_zero, List.drop_succ_cons, List.drop_zero]
  have hg := @gcell
  repeat (go_big_quiet_step (first | exact grown_of (HEA.out _ _) | exact grown_same (HRE.out _)))
  refine wpQuiet_nil ?_
  rintro w4 ⟨⟨_, hbw4⟩, rfl⟩
  clear hg
  have H4 := H3.keep hbw4
  clear x3 l3 lg3 H3 hbw4
  have hcas := rcas_any H4.M hm (aEnt c (s.p.t % 65536 - 1)) s.p.v (Pk.en (s.p.t / 65536) (wrap64 (s.p.b - 1)) 1)
  rw [HB.out] at hcas
  have HCA := Lib.hid hcas
  clear hcas HEA
  go_wp2_with fail
  refine HCA.out.mono ?_
  rintro en w5 ⟨rfl, M5, T5⟩
  have H5 := H4.mem M5 T5
  clear HCA H4 M5 T5
  have H6 := H5.set (s' := { s with p := { s.p with b := 0 } }) 18 (.int .i64 0) rfl
  have xw5 := H5.X.cells
  have zw5 := H5.X.frozen
  have ew5_18 : (w5.cell? ⟨w.heap.size, 18, none⟩).isSome = true := by rw [xw5, f18]; rfl
  have H7 := H6.set (s' := { s with p := { s.p with b := 0, ln := 0 } }) 0 (.int .i64 0) rfl
  have y7 : ((w5.setCell ⟨w.heap.size, 18, none⟩ (.int .i64 0)).cell? ⟨w.heap.size, 0, none⟩).isSome = true := by rw [H6.X.cells, f0]; rfl
  go_wp2_with (first | (refine wpList_load_row rfl 46 _ rfl w.heap.size rfl _ (wc ({ s with p := { s.p with b := 0, ln := 0 } } : Wk)) (0, 0) _ (by exact H7.X) Try.underlying46 rfl (by kernel_rfl) ?_) | (refine wpList_store_row rfl 46 _ _ rfl (w.heap.size + 1) (wc ({ s with p := { s.p with b := 0, ln := 0 } } : Wk)) rfl rfl _ _ (by exact H7.Z) (by kernel_rfl) (by kernel_rfl) (by kernel_rfl) ?_))
  have ZF := H7.Z.setRow (wc ({ s with p := { s.p with b := 0, ln := 0 } } : Wk))
  refine bodyPost_ret (v := .tuple #[wv ({ s with p := { s.p with b := 0, ln := 0 } } : Wk), .int .i64 1, .bool true]) ?_ rfl ?_
  · exact Rw.results_cell_slot2 (p := 4) (q := 5) (r := 6) (ty := 46) Try.results39 _ _ (w.heap.size + 1) 46 _ (0, 0) _ rfl ZF Try.underlying46 rfl (by kernel_rfl)
  · exact ⟨rfl, H7.fin _⟩
set_option maxRecDepth 10000 in
set_option maxHeartbeats 4000000 in
theorem ren45n {B : Nat} {w : World} {g gl cap : Nat} {c : Cfg} {a : Acc} {L : List Int} (M : RefMem B w g c a gl cap L) (s : Wk) (hm : L.length ≤ 1000) (hL : WR L) (hf : c.Wf) (hp : PR s.p) (hl : s.p.ln = 45) (hb : csB L (aEnt c (s.p.t % 65536 - 1)) s.p.v = false) : Calls Try.prog 39 #[.pointer (some ⟨g, 0, none⟩), wv s] w (RPost B g gl cap c ⟨acc L 3 (aEnt c (s.p.t % 65536 - 1)) s.p.v (Pk.en (s.p.t / 65536) (wrap64 (s.p.b - 1)) 1), csL L (aEnt c (s.p.t % 65536 - 1)) s.p.v (Pk.en (s.p.t / 65536) (wrap64 (s.p.b - 1)) 1), { s.p with ln := 44 }, 0, true⟩ s w) := by
  have HB := Lib.hid hb
  have HRE := Lib.hid (fun w => Pk.rentry (s.p.t / 65536) (wrap64 (s.p.b - 1)) 1 (by have := hp.t; omega) (by have := hp.t; omega) w)
  clear hb
  have f0 : ∀ s : Wk, (wc s)[0]? = some (.int .i64 s.p.ln) := fun _ => rfl
  have f18 : ∀ s : Wk, (wc s)[18]? = some (.int .i64 s.p.b) := fun _ => rfl
  have f25 : ∀ s : Wk, (wc s)[25]? = some (.int .u64 s.p.v) := fun _ => rfl
  have f30 : ∀ s : Wk, (wc s)[30]? = some (.int .u64 s.p.t) := fun _ => rfl
  have d1 : decide (20 ≤ s.p.ln) = true := by simp [hl]
  have d2 : decide (s.p.ln ≤ 25) = false := by simp [hl]
  have d3 : (s.p.ln != 60) = true := by simp [hl]
  have d4 : decide (s.p.ln < 40) = false := by simp [hl]
  have d5 : decide (46 < s.p.ln) = false := by simp [hl]
  have t40 : (s.p.ln == 40) = false := by simp [hl]
  have t41 : (s.p.ln == 41) = false := by simp [hl]
  have t43 : (s.p.ln == 43) = false := by simp [hl]
  have t45 : (s.p.ln == 45) = true := by simp [hl]
  have HUT := Lib.hid (fun w => rUnticket s.p.t hp.t w)
  have H0 := RX.start M s
  have H1 := H0.wipe
  have hba := build_acc0
  have x0 := H0.X.cells
  obtain ⟨w1, hw1⟩ : ∃ u, u = (w.alloc (.cells (wc s) 46)).alloc (.cells (wc wz) 46) := ⟨_, rfl⟩
  rw [← hw1] at H0 H1 x0
  obtain ⟨w2, hw2⟩ : ∃ u, u = w1.setRow g (rc c a0 ⟨some ⟨gl, 0, none⟩, L.length, cap⟩) := ⟨_, rfl⟩
  rw [← hw2] at H1
  have x1 := H1.X.cells
  have l1 := H1.lt
  have HW1 := Lib.hid hw1
  have HW2 := Lib.hid hw2
  clear hl hw1 hw2
  go_enter Try.func39, Try.ntmps39
  go_wp2_with (first | ((with_reducible refine wpList_alloc_wz rfl rfl ?_); rw [← HW1.out]; clear HW1) | ((with_reducible refine Sub.wpList_store_sub rfl 78 _ _ rfl g 9 #[.int .i64 0, .int .i64 0, .int .u64 0, .int .u64 0, .int .u64 0] ?_ ?_ 103 (rc c a ⟨some ⟨gl, 0, none⟩, L.length, cap⟩) (rc c a0 ⟨some ⟨gl, 0, none⟩, L.length, cap⟩) ?_ ?_ ?_ ?_ ?_ ?_); exact rfl; exact rfl; exact H0.M.B; kernel_rfl; exact Nat.le_of_ble_eq_true (by kernel_rfl); kernel_rfl; kernel_rfl; rw [← HW2.out]; clear HW2 H0 x0))
  refine (HUT.out _).mono ?_
  rintro en w3 ⟨rfl, hb3⟩
  have H3 := H1.keep hb3
  clear x1 l1 H1 hb3
  have HEA := Lib.hid (fun (n : Gr w3) i => rEntryA (H3.M.keep n.2) hf i)
  have x3 := H3.X.cells
  have l3 := H3.lt
  have lg3 := H3.M.lt.1
  go_wp2
  refine wp_region_grown_tail 11 (by kernel_rfl) (by kernel_rfl) ?_
  simp only [List.take_succ_cons, List.take_zero, List.drop_succ_cons, List.drop_zero]
  have hg := @gcell
  repeat (go_big_quiet_step (first | exact grown_of (HEA.out _ _) | exact grown_same (HRE.out _)))
  refine wpQuiet_nil ?_
  rintro w4 ⟨⟨_, hbw4⟩, rfl⟩
  clear hg
  have H4 := H3.keep hbw4
  clear x3 l3 lg3 H3 hbw4
  have hcas := rcas_any H4.M hm (aEnt c (s.p.t % 65536 - 1)) s.p.v (Pk.en (s.p.t / 65536) (wrap64 (s.p.b - 1)) 1)
  rw [HB.out] at hcas
  have HCA := Lib.hid hcas
  clear hcas HEA
  go_wp2_with fail
  refine HCA.out.mono ?_
  rintro en w5 ⟨rfl, M5, T5⟩
  have H5 := H4.mem M5 T5
  clear HCA H4 M5 T5
  have H6 := H5.set (s' := { s with p := { s.p with ln := 44 } }) 0 (.int .i64 44) rfl
  have xw5 := H5.X.cells
  have zw5 := H5.X.frozen
  have ew5_0 : (w5.cell? ⟨w.heap.size, 0, none⟩).isSome = true := by rw [xw5, f0]; rfl
  go_wp2_with (first | (refine wpList_load_row rfl 46 _ rfl w.heap.size rfl _ (wc ({ s with p := { s.p with ln := 44 } } : Wk)) (0, 0) _ (by exact H6.X) Try.underlying46 rfl (by kernel_rfl) ?_) | (refine wpList_store_row rfl 46 _ _ rfl (w.heap.size + 1) (wc ({ s with p := { s.p with ln := 44 } } : Wk)) rfl rfl _ _ (by exact H6.Z) (by kernel_rfl) (by kernel_rfl) (by kernel_rfl) ?_))
  have ZF := H6.Z.setRow (wc ({ s with p := { s.p with ln := 44 } } : Wk))
  refine bodyPost_ret (v := .tuple #[wv ({ s with p := { s.p with ln := 44 } } : Wk), .int .i64 0, .bool true]) ?_ rfl ?_
  · exact Rw.results_cell_slot2 (p := 4) (q := 5) (r := 6) (ty := 46) Try.results39 _ _ (w.heap.size + 1) 46 _ (0, 0) _ rfl ZF Try.underlying46 rfl (by kernel_rfl)
  · exact ⟨rfl, H6.fin _⟩
set_option maxRecDepth 10000 in
set_option maxHeartbeats 4000000 in
theorem ren431y {B : Nat} {w : World} {g gl cap : Nat} {c : Cfg} {a : Acc} {L : List Int} (M : RefMem B w g c a gl cap L) (s : Wk) (hm : L.length ≤ 1000) (hL : WR L) (hf : c.Wf) (hp : PR s.p) (hl : s.p.ln = 43) (hg : c.la ≤ s.p.t / 65536) (hb : csB L (aEnt c (s.p.t % 65536 - 1)) s.p.v = true) : Calls Try.prog 39 #[.pointer (some ⟨g, 0, none⟩), wv s] w (RPost B g gl cap c ⟨acc L 3 (aEnt c (s.p.t % 65536 - 1)) s.p.v (Pk.en (s.p.t / 65536) (-1) 2), csL L (aEnt c (s.p.t % 65536 - 1)) s.p.v (Pk.en (s.p.t / 65536) (-1) 2), { s.p with i := 0, ln := 0 }, 1, true⟩ s w) := by
  have HB := Lib.hid hb
  have HR1 := Lib.hid (fun w => Pk.rentry (s.p.t / 65536 + 1) (-1) 0 (by have := hp.t; omega) (by have := hp.t; omega) w)
  have HR2 := Lib.hid (fun w => Pk.rentry (s.p.t / 65536) (-1) 2 (by have := hp.t; omega) (by have := hp.t; omega) w)
  have tg : decide (c.la ≤ s.p.t / 65536) = true := by simp [hg]
  have HW := Lib.hid (show wrap64 (s.p.t % 65536 - 1 + 1) = s.p.t % 65536 by rw [IntWalk.wrap64_in _ (by omega)]; omega)
  have HU := Lib.hid (show IntKind.u64.wrap (s.p.t / 65536 + 1) = s.p.t / 65536 + 1 by have := hp.t; rw [IntKind.wrap_u64]; omega)
  clear hg hb
  have f0 : ∀ s : Wk, (wc s)[0]? = some (.int .i64 s.p.ln) := fun _ => rfl
  have f20 : ∀ s : Wk, (wc s)[20]? = some (.int .i64 s.p.i) := fun _ => rfl
  have f25 : ∀ s : Wk, (wc s)[25]? = some (.int .u64 s.p.v) := fun _ => rfl
  have f30 : ∀ s : Wk, (wc s)[30]? = some (.int .u64 s.p.t) := fun _ => rfl
  have d1 : decide (20 ≤ s.p.ln) = true := by simp [hl]
  have d2 : decide (s.p.ln ≤ 25) = false := by simp [hl]
  have d3 : (s.p.ln != 60) = true := by simp [hl]
  have d4 : decide (s.p.ln < 40) = false := by simp [hl]
  have d5 : decide (46 < s.p.ln) = false := by simp [hl]
  have t40 : (s.p.ln == 40) = false := by simp [hl]
  have t41 : (s.p.ln == 41) = false := by simp [hl]
  have t43 : (s.p.ln == 43) = true := by simp [hl]
  have HUT := Lib.hid (fun w => rUnticket s.p.t hp.t w)
  have H0 := RX.start M s
  have H1 := H0.wipe
  have hba := build_acc0
  have x0 := H0.X.cells
  obtain ⟨w1, hw1⟩ : ∃ u, u = (w.alloc (.cells (wc s) 46)).alloc (.cells (wc wz) 46) := ⟨_, rfl⟩
  rw [← hw1] at H0 H1 x0
  obtain ⟨w2, hw2⟩ : ∃ u, u = w1.setRow g (rc c a0 ⟨some ⟨gl, 0, none⟩, L.length, cap⟩) := ⟨_, rfl⟩
  rw [← hw2] at H1
  have x1 := H1.X.cells
  have l1 := H1.lt
  have HW1 := Lib.hid hw1
  have HW2 := Lib.hid hw2
  clear hl hw1 hw2
  go_enter Try.func39, Try.ntmps39
  go_wp2_with (first | ((with_reducible refine wpList_alloc_wz rfl rfl ?_); rw [← HW1.out]; clear HW1) | ((with_reducible refine Sub.wpList_store_sub rfl 78 _ _ rfl g 9 #[.int .i64 0, .int .i64 0, .int .u64 0, .int .u64 0, .int .u64 0] ?_ ?_ 103 (rc c a ⟨some ⟨gl, 0, none⟩, L.length, cap⟩) (rc c a0 ⟨some ⟨gl, 0, none⟩, L.length, cap⟩) ?_ ?_ ?_ ?_ ?_ ?_); exact rfl; exact rfl; exact H0.M.B; kernel_rfl; exact Nat.le_of_ble_eq_true (by kernel_rfl); kernel_rfl; kernel_rfl; rw [← HW2.out]; clear HW2 H0 x0))
  refine (HUT.out _).mono ?_
  rintro en w3 ⟨rfl, hb3⟩
  have H3 := H1.keep hb3
  clear x1 l1 H1 hb3
  go_wp2_with fail
  try rw [HU.out]
  refine (HR1.out _).mono ?_
  rintro en w4 ⟨rfl, rfl⟩
  have c7 : w3.cell? ⟨g, 7, none⟩ = some (.int .u64 c.la) := H3.M.B.cells 7
  go_wp2_with fail
  refine (HR2.out _).mono ?_
  rintro en w4 ⟨rfl, rfl⟩
  clear c7
  have HEA := Lib.hid (fun (n : Gr w3) i => rEntryA (H3.M.keep n.2) hf i)
  have x3 := H3.X.cells
  have l3 := H3.lt
  have lg3 := H3.M.lt.1
  go_wp2
  refine wp_region_grown_tail 7 (by kernel_rfl) (by kernel_rfl) ?_
  simp only [List.take_succ_cons, List.take_zero, List.drop_succ_cons, List.drop_zero]
  have hg := @gcell
  repeat (go_big_quiet_step (first | exact grown_of (HEA.out _ _)))
  refine wpQuiet_nil ?_
  rintro w4 ⟨⟨_, hbw4⟩, rfl⟩
  clear hg
  have H4 := H3.keep hbw4
  clear x3 l3 lg3 H3 hbw4
  have hcas := rcas_any H4.M hm (aEnt c (s.p.t % 65536 - 1)) s.p.v (Pk.en (s.p.t / 65536) (-1) 2)
  rw [HB.out] at hcas
  have HCA := Lib.hid hcas
  clear hcas HEA
  go_wp2_with fail
  refine HCA.out.mono ?_
  rintro en w5 ⟨rfl, M5, T5⟩
  have H5 := H4.mem M5 T5
  clear HCA H4 M5 T5
  try rw [HW.out]
  have H6 := H5.set (s' := { s with p := { s.p with i := 0 } }) 20 (.int .i64 0) rfl
  have xw5 := H5.X.cells
  have zw5 := H5.X.frozen
  have ew5_20 : (w5.cell? ⟨w.heap.size, 20, none⟩).isSome = true := by rw [xw5, f20]; rfl
  have H7 := H6.set (s' := { s with p := { s.p with i := 0, ln := 0 } }) 0 (.int .i64 0) rfl
  have y7 : ((w5.setCell ⟨w.heap.size, 20, none⟩ (.int .i64 0)).cell? ⟨w.heap.size, 0, none⟩).isSome = true := by rw [H6.X.cells, f0]; rfl
  go_wp2_with (first | rw [HW.out] | (refine wpList_load_row rfl 46 _ rfl w.heap.size rfl _ (wc ({ s with p := { s.p with i := 0, ln := 0 } } : Wk)) (0, 0) _ (by exact H7.X) Try.underlying46 rfl (by kernel_rfl) ?_) | (refine wpList_store_row rfl 46 _ _ rfl (w.heap.size + 1) (wc ({ s with p := { s.p with i := 0, ln := 0 } } : Wk)) rfl rfl _ _ (by exact H7.Z) (by kernel_rfl) (by kernel_rfl) (by kernel_rfl) ?_))
  have ZF := H7.Z.setRow (wc ({ s with p := { s.p with i := 0, ln := 0 } } : Wk))
  refine bodyPost_ret (v := .tuple #[wv ({ s with p := { s.p with i := 0, ln := 0 } } : Wk), .int .i64 1, .bool true]) ?_ rfl ?_
  · exact Rw.results_cell_slot2 (p := 4) (q := 5) (r := 6) (ty := 46) Try.results39 _ _ (w.heap.size + 1) 46 _ (0, 0) _ rfl ZF Try.underlying46 rfl (by kernel_rfl)
  · exact ⟨rfl, H7.fin _⟩
set_option maxRecDepth 10000 in
set_option maxHeartbeats 4000000 in
theorem ren431n {B : Nat} {w : World} {g gl cap : Nat} {c : Cfg} {a : Acc} {L : List Int} (M : RefMem B w g c a gl cap L) (s : Wk) (hm : L.length ≤ 1000) (hL : WR L) (hf : c.Wf) (hp : PR s.p) (hl : s.p.ln = 43) (hg : c.la ≤ s.p.t / 65536) (hb : csB L (aEnt c (s.p.t % 65536 - 1)) s.p.v = false) : Calls Try.prog 39 #[.pointer (some ⟨g, 0, none⟩), wv s] w (RPost B g gl cap c ⟨acc L 3 (aEnt c (s.p.t % 65536 - 1)) s.p.v (Pk.en (s.p.t / 65536) (-1) 2), csL L (aEnt c (s.p.t % 65536 - 1)) s.p.v (Pk.en (s.p.t / 65536) (-1) 2), { s.p with ln := 42 }, 0, true⟩ s w) := by
  have HB := Lib.hid hb
  have HR1 := Lib.hid (fun w => Pk.rentry (s.p.t / 65536 + 1) (-1) 0 (by have := hp.t; omega) (by have := hp.t; omega) w)
  have HR2 := Lib.hid (fun w => Pk.rentry (s.p.t / 65536) (-1) 2 (by have := hp.t; omega) (by have := hp.t; omega) w)
  have tg : decide (c.la ≤ s.p.t / 65536) = true := by simp [hg]
  have HW := Lib.hid (show wrap64 (s.p.t % 65536 - 1 + 1) = s.p.t % 65536 by rw [IntWalk.wrap64_in _ (by omega)]; omega)
  have HU := Lib.hid (show IntKind.u64.wrap (s.p.t / 65536 + 1) = s.p.t / 65536 + 1 by have := hp.t; rw [IntKind.wrap_u64]; omega)
  clear hg hb
  have f0 : ∀ s : Wk, (wc s)[0]? = some (.int .i64 s.p.ln) := fun _ => rfl
  have f20 : ∀ s : Wk, (wc s)[20]? = some (.int .i64 s.p.i) := fun _ => rfl
  have f25 : ∀ s : Wk, (wc s)[25]? = some (.int .u64 s.p.v) := fun _ => rfl
  have f30 : ∀ s : Wk, (wc s)[30]? = some (.int .u64 s.p.t) := fun _ => rfl
  have d1 : decide (20 ≤ s.p.ln) = true := by simp [hl]
  have d2 : decide (s.p.ln ≤ 25) = false := by simp [hl]
  have d3 : (s.p.ln != 60) = true := by simp [hl]
  have d4 : decide (s.p.ln < 40) = false := by simp [hl]
  have d5 : decide (46 < s.p.ln) = false := by simp [hl]
  have t40 : (s.p.ln == 40) = false := by simp [hl]
  have t41 : (s.p.ln == 41) = false := by simp [hl]
  have t43 : (s.p.ln == 43) = true := by simp [hl]
  have HUT := Lib.hid (fun w => rUnticket s.p.t hp.t w)
  have H0 := RX.start M s
  have H1 := H0.wipe
  have hba := build_acc0
  have x0 := H0.X.cells
  obtain ⟨w1, hw1⟩ : ∃ u, u = (w.alloc (.cells (wc s) 46)).alloc (.cells (wc wz) 46) := ⟨_, rfl⟩
  rw [← hw1] at H0 H1 x0
  obtain ⟨w2, hw2⟩ : ∃ u, u = w1.setRow g (rc c a0 ⟨some ⟨gl, 0, none⟩, L.length, cap⟩) := ⟨_, rfl⟩
  rw [← hw2] at H1
  have x1 := H1.X.cells
  have l1 := H1.lt
  have HW1 := Lib.hid hw1
  have HW2 := Lib.hid hw2
  clear hl hw1 hw2
  go_enter Try.func39, Try.ntmps39
  go_wp2_with (first | ((with_reducible refine wpList_alloc_wz rfl rfl ?_); rw [← HW1.out]; clear HW1) | ((with_reducible refine Sub.wpList_store_sub rfl 78 _ _ rfl g 9 #[.int .i64 0, .int .i64 0, .int .u64 0, .int .u64 0, .int .u64 0] ?_ ?_ 103 (rc c a ⟨some ⟨gl, 0, none⟩, L.length, cap⟩) (rc c a0 ⟨some ⟨gl, 0, none⟩, L.length, cap⟩) ?_ ?_ ?_ ?_ ?_ ?_); exact rfl; exact rfl; exact H0.M.B; kernel_rfl; exact Nat.le_of_ble_eq_true (by kernel_rfl); kernel_rfl; kernel_rfl; rw [← HW2.out]; clear HW2 H0 x0))
  refine (HUT.out _).mono ?_
  rintro en w3 ⟨rfl, hb3⟩
  have H3 := H1.keep hb3
  clear x1 l1 H1 hb3
  go_wp2_with fail
  try rw [HU.out]
  refine (HR1.out _).mono ?_
  rintro en w4 ⟨rfl, rfl⟩
  have c7 : w3.cell? ⟨g, 7, none⟩ = some (.int .u64 c.la) := H3.M.B.cells 7
  go_wp2_with fail
  refine (HR2.out _).mono ?_
  rintro en w4 ⟨rfl, rfl⟩
  clear c7
  have HEA := Lib.hid (fun (n : Gr w3) i => rEntryA (H3.M.keep n.2) hf i)
  have x3 := H3.X.cells
  have l3 := H3.lt
  have lg3 := H3.M.lt.1
  go_wp2
  refine wp_region_grown_tail 7 (by kernel_rfl) (by kernel_rfl) ?_
  simp only [List.take_succ_cons, List.take_zero, List.drop_succ_cons, List.drop_zero]
  have hg := @gcell
  repeat (go_big_quiet_step (first | exact grown_of (HEA.out _ _)))
  refine wpQuiet_nil ?_
  rintro w4 ⟨⟨_, hbw4⟩, rfl⟩
  clear hg
  have H4 := H3.keep hbw4
  clear x3 l3 lg3 H3 hbw4
  have hcas := rcas_any H4.M hm (aEnt c (s.p.t % 65536 - 1)) s.p.v (Pk.en (s.p.t / 65536) (-1) 2)
  rw [HB.out] at hcas
  have HCA := Lib.hid hcas
  clear hcas HEA
  go_wp2_with fail
  refine HCA.out.mono ?_
  rintro en w5 ⟨rfl, M5, T5⟩
  have H5 := H4.mem M5 T5
  clear HCA H4 M5 T5
  have H6 := H5.set (s' := { s with p := { s.p with ln := 42 } }) 0 (.int .i64 42) rfl
  have xw5 := H5.X.cells
  have zw5 := H5.X.frozen
  have ew5_0 : (w5.cell? ⟨w.heap.size, 0, none⟩).isSome = true := by rw [xw5, f0]; rfl
  go_wp2_with (first | (refine wpList_load_row rfl 46 _ rfl w.heap.size rfl _ (wc ({ s with p := { s.p with ln := 42 } } : Wk)) (0, 0) _ (by exact H6.X) Try.underlying46 rfl (by kernel_rfl) ?_) | (refine wpList_store_row rfl 46 _ _ rfl (w.heap.size + 1) (wc ({ s with p := { s.p with ln := 42 } } : Wk)) rfl rfl _ _ (by exact H6.Z) (by kernel_rfl) (by kernel_rfl) (by kernel_rfl) ?_))
  have ZF := H6.Z.setRow (wc ({ s with p := { s.p with ln := 42 } } : Wk))
  refine bodyPost_ret (v := .tuple #[wv ({ s with p := { s.p with ln := 42 } } : Wk), .int .i64 0, .bool true]) ?_ rfl ?_
  · exact Rw.results_cell_slot2 (p := 4) (q := 5) (r := 6) (ty := 46) Try.results39 _ _ (w.heap.size + 1) 46 _ (0, 0) _ rfl ZF Try.underlying46 rfl (by kernel_rfl)
  · exact ⟨rfl, H6.fin _⟩
set_option maxRecDepth 10000 in
set_option maxHeartbeats 4000000 in
theorem ren430y {B : Nat} {w : World} {g gl cap : Nat} {c : Cfg} {a : Acc} {L : List Int} (M : RefMem B w g c a gl cap L) (s : Wk) (hm : L.length ≤ 1000) (hL : WR L) (hf : c.Wf) (hp : PR s.p) (hl : s.p.ln = 43) (hg : ¬ c.la ≤ s.p.t / 65536) (hb : csB L (aEnt c (s.p.t % 65536 - 1)) s.p.v = true) : Calls Try.prog 39 #[.pointer (some ⟨g, 0, none⟩), wv s] w (RPost B g gl cap c ⟨acc L 3 (aEnt c (s.p.t % 65536 - 1)) s.p.v (Pk.en (s.p.t / 65536 + 1) (-1) 0), csL L (aEnt c (s.p.t % 65536 - 1)) s.p.v (Pk.en (s.p.t / 65536 + 1) (-1) 0), { s.p with i := (s.p.t % 65536), ln := 0 }, 1, true⟩ s w) := by
  have HB := Lib.hid hb
  have HR1 := Lib.hid (fun w => Pk.rentry (s.p.t / 65536 + 1) (-1) 0 (by have := hp.t; omega) (by have := hp.t; omega) w)
  have HR2 := Lib.hid (fun w => Pk.rentry (s.p.t / 65536) (-1) 2 (by have := hp.t; omega) (by have := hp.t; omega) w)
  have tg : decide (c.la ≤ s.p.t / 65536) = false := by simp; omega
  have HW := Lib.hid (show wrap64 (s.p.t % 65536 - 1 + 1) = s.p.t % 65536 by rw [IntWalk.wrap64_in _ (by omega)]; omega)
  have HU := Lib.hid (show IntKind.u64.wrap (s.p.t / 65536 + 1) = s.p.t / 65536 + 1 by have := hp.t; rw [IntKind.wrap_u64]; omega)
  clear hg hb
  have f0 : ∀ s : Wk, (wc s)[0]? = some (.int .i64 s.p.ln) := fun _ => rfl
  have f20 : ∀ s : Wk, (wc s)[20]? = some (.int .i64 s.p.i) := fun _ => rfl
  have f25 : ∀ s : Wk, (wc s)[25]? = some (.int .u64 s.p.v) := fun _ => rfl
  have f30 : ∀ s : Wk, (wc s)[30]? = some (.int .u64 s.p.t) := fun _ => rfl
  have d1 : decide (20 ≤ s.p.ln) = true := by simp [hl]
  have d2 : decide (s.p.ln ≤ 25) = false := by simp [hl]
  have d3 : (s.p.ln != 60) = true := by simp [hl]
  have d4 : decide (s.p.ln < 40) = false := by simp [hl]
  have d5 : decide (46 < s.p.ln) = false := by simp [hl]
  have t40 : (s.p.ln == 40) = false := by simp [hl]
  have t41 : (s.p.ln == 41) = false := by simp [hl]
  have t43 : (s.p.ln == 43) = true := by simp [hl]
  have HUT := Lib.hid (fun w => rUnticket s.p.t hp.t w)
  have H0 := RX.start M s
  have H1 := H0.wipe
  have hba := build_acc0
  have x0 := H0.X.cells
  obtain ⟨w1, hw1⟩ : ∃ u, u = (w.alloc (.cells (wc s) 46)).alloc (.cells (wc wz) 46) := ⟨_, rfl⟩
  rw [← hw1] at H0 H1 x0
  obtain ⟨w2, hw2⟩ : ∃ u, u = w1.setRow g (rc c a0 ⟨some ⟨gl, 0, none⟩, L.length, cap⟩) := ⟨_, rfl⟩
  rw [← hw2] at H1
  have x1 := H1.X.cells
  have l1 := H1.lt
  have HW1 := Lib.hid hw1
  have HW2 := Lib.hid hw2
  clear hl hw1 hw2
  go_enter Try.func39, Try.ntmps39
  go_wp2_with (first | ((with_reducible refine wpList_alloc_wz rfl rfl ?_); rw [← HW1.out]; clear HW1) | ((with_reducible refine Sub.wpList_store_sub rfl 78 _ _ rfl g 9 #[.int .i64 0, .int .i64 0, .int .u64 0, .int .u64 0, .int .u64 0] ?_ ?_ 103 (rc c a ⟨some ⟨gl, 0, none⟩, L.length, cap⟩) (rc c a0 ⟨some ⟨gl, 0, none⟩, L.length, cap⟩) ?_ ?_ ?_ ?_ ?_ ?_); exact rfl; exact rfl; exact H0.M.B; kernel_rfl; exact Nat.le_of_ble_eq_true (by kernel_rfl); kernel_rfl; kernel_rfl; rw [← HW2.out]; clear HW2 H0 x0))
  refine (HUT.out _).mono ?_
  rintro en w3 ⟨rfl, hb3⟩
  have H3 := H1.keep hb3
  clear x1 l1 H1 hb3
  go_wp2_with fail
  try rw [HU.out]
  refine (HR1.out _).mono ?_
  rintro en w4 ⟨rfl, rfl⟩
  have c7 : w3.cell? ⟨g, 7, none⟩ = some (.int .u64 c.la) := H3.M.B.cells 7
  have HEA := Lib.hid (fun (n : Gr w3) i => rEntryA (H3.M.keep n.2) hf i)
  have x3 := H3.X.cells
  have l3 := H3.lt
  have lg3 := H3.M.lt.1
  go_wp2
  refine wp_region_grown_tail 7 (by kernel_rfl) (by kernel_rfl) ?_
  simp only [List.take_succ_cons, List.take_zero, List.drop_succ_cons, List.drop_zero]
  have hg := @gcell
  repeat (go_big_quiet_step (first | exact grown_of (HEA.out _ _)))
  refine wpQuiet_nil ?_
  rintro w4 ⟨⟨_, hbw4⟩, rfl⟩
  clear hg
  have H4 := H3.keep hbw4
  clear x3 l3 lg3 H3 hbw4
  have hcas := rcas_any H4.M hm (aEnt c (s.p.t % 65536 - 1)) s.p.v (Pk.en (s.p.t / 65536 + 1) (-1) 0)
  rw [HB.out] at hcas
  have HCA := Lib.hid hcas
  clear hcas HEA
  go_wp2_with fail
  refine HCA.out.mono ?_
  rintro en w5 ⟨rfl, M5, T5⟩
  have H5 := H4.mem M5 T5
  clear HCA H4 M5 T5
  try rw [HW.out]
  have H6 := H5.set (s' := { s with p := { s.p with i := (s.p.t % 65536) } }) 20 (.int .i64 (s.p.t % 65536)) rfl
  have xw5 := H5.X.cells
  have zw5 := H5.X.frozen
  have ew5_20 : (w5.cell? ⟨w.heap.size, 20, none⟩).isSome = true := by rw [xw5, f20]; rfl
  have H7 := H6.set (s' := { s with p := { s.p with i := (s.p.t % 65536), ln := 0 } }) 0 (.int .i64 0) rfl
  have y7 : ((w5.setCell ⟨w.heap.size, 20, none⟩ (.int .i64 (s.p.t % 65536))).cell? ⟨w.heap.size, 0, none⟩).isSome = true := by rw [H6.X.cells, f0]; rfl
  go_wp2_with (first | rw [HW.out] | (refine wpList_load_row rfl 46 _ rfl w.heap.size rfl _ (wc ({ s with p := { s.p with i := (s.p.t % 65536), ln := 0 } } : Wk)) (0, 0) _ (by exact H7.X) Try.underlying46 rfl (by kernel_rfl) ?_) | (refine wpList_store_row rfl 46 _ _ rfl (w.heap.size + 1) (wc ({ s with p := { s.p with i := (s.p.t % 65536), ln := 0 } } : Wk)) rfl rfl _ _ (by exact H7.Z) (by kernel_rfl) (by kernel_rfl) (by kernel_rfl) ?_))
  have ZF := H7.Z.setRow (wc ({ s with p := { s.p with i := (s.p.t % 65536), ln := 0 } } : Wk))
  refine bodyPost_ret (v := .tuple #[wv ({ s with p := { s.p with i := (s.p.t % 65536), ln := 0 } } : Wk), .int .i64 1, .bool true]) ?_ rfl ?_
  · exact Rw.results_cell_slot2 (p := 4) (q := 5) (r := 6) (ty := 46) Try.results39 _ _ (w.heap.size + 1) 46 _ (0, 0) _ rfl ZF Try.underlying46 rfl (by kernel_rfl)
  · exact ⟨rfl, H7.fin _⟩
set_option maxRecDepth 10000 in
set_option maxHeartbeats 4000000 in
theorem ren430n {B : Nat} {w : World} {g gl cap : Nat} {c : Cfg} {a : Acc} {L : List Int} (M : RefMem B w g c a gl cap L) (s : Wk) (hm : L.length ≤ 1000) (hL : WR L) (hf : c.Wf) (hp : PR s.p) (hl : s.p.ln = 43) (hg : ¬ c.la ≤ s.p.t / 65536) (hb : csB L (aEnt c (s.p.t % 65536 - 1)) s.p.v = false) : Calls Try.prog 39 #[.pointer (some ⟨g, 0, none⟩), wv s] w (RPost B g gl cap c ⟨acc L 3 (aEnt c (s.p.t % 65536 - 1)) s.p.v (Pk.en (s.p.t / 65536 + 1) (-1) 0), csL L (aEnt c (s.p.t % 65536 - 1)) s.p.v (Pk.en (s.p.t / 65536 + 1) (-1) 0), { s.p with ln := 42 }, 0, true⟩ s w) := by
  have HB := Lib.hid hb
  have HR1 := Lib.hid (fun w => Pk.rentry (s.p.t / 65536 + 1) (-1) 0 (by have := hp.t; omega) (by have := hp.t; omega) w)
  have HR2 := Lib.hid (fun w => Pk.rentry (s.p.t / 65536) (-1) 2 (by have := hp.t; omega) (by have := hp.t; omega) w)
  have tg : decide (c.la ≤ s.p.t / 65536) = false := by simp; omega
  have HW := Lib.hid (show wrap64 (s.p.t % 65536 - 1 + 1) = s.p.t % 65536 by rw [IntWalk.wrap64_in _ (by omega)]; omega)
  have HU := Lib.hid (show IntKind.u64.wrap (s.p.t / 65536 + 1) = s.p.t / 65536 + 1 by have := hp.t; rw [IntKind.wrap_u64]; omega)
  clear hg hb
  have f0 : ∀ s : Wk, (wc s)[0]? = some (.int .i64 s.p.ln) := fun _ => rfl
  have f20 : ∀ s : Wk, (wc s)[20]? = some (.int .i64 s.p.i) := fun _ => rfl
  have f25 : ∀ s : Wk, (wc s)[25]? = some (.int .u64 s.p.v) := fun _ => rfl
  have f30 : ∀ s : Wk, (wc s)[30]? = some (.int .u64 s.p.t) := fun _ => rfl
  have d1 : decide (20 ≤ s.p.ln) = true := by simp [hl]
  have d2 : decide (s.p.ln ≤ 25) = false := by simp [hl]
  have d3 : (s.p.ln != 60) = true := by simp [hl]
  have d4 : decide (s.p.ln < 40) = false := by simp [hl]
  have d5 : decide (46 < s.p.ln) = false := by simp [hl]
  have t40 : (s.p.ln == 40) = false := by simp [hl]
  have t41 : (s.p.ln == 41) = false := by simp [hl]
  have t43 : (s.p.ln == 43) = true := by simp [hl]
  have HUT := Lib.hid (fun w => rUnticket s.p.t hp.t w)
  have H0 := RX.start M s
  have H1 := H0.wipe
  have hba := build_acc0
  have x0 := H0.X.cells
  obtain ⟨w1, hw1⟩ : ∃ u, u = (w.alloc (.cells (wc s) 46)).alloc (.cells (wc wz) 46) := ⟨_, rfl⟩
  rw [← hw1] at H0 H1 x0
  obtain ⟨w2, hw2⟩ : ∃ u, u = w1.setRow g (rc c a0 ⟨some ⟨gl, 0, none⟩, L.length, cap⟩) := ⟨_, rfl⟩
  rw [← hw2] at H1
  have x1 := H1.X.cells
  have l1 := H1.lt
  have HW1 := Lib.hid hw1
  have HW2 := Lib.hid hw2
  clear hl hw1 hw2
  go_enter Try.func39, Try.ntmps39
  go_wp2_with (first | ((with_reducible refine wpList_alloc_wz rfl rfl ?_); rw [← HW1.out]; clear HW1) | ((with_reducible refine Sub.wpList_store_sub rfl 78 _ _ rfl g 9 #[.int .i64 0, .int .i64 0, .int .u64 0, .int .u64 0, .int .u64 0] ?_ ?_ 103 (rc c a ⟨some ⟨gl, 0, none⟩, L.length, cap⟩) (rc c a0 ⟨some ⟨gl, 0, none⟩, L.length, cap⟩) ?_ ?_ ?_ ?_ ?_ ?_); exact rfl; exact rfl; exact H0.M.B; kernel_rfl; exact Nat.le_of_ble_eq_true (by kernel_rfl); kernel_rfl; kernel_rfl; rw [← HW2.out]; clear HW2 H0 x0))
  refine (HUT.out _).mono ?_
  rintro en w3 ⟨rfl, hb3⟩
  have H3 := H1.keep hb3
  clear x1 l1 H1 hb3
  go_wp2_with fail
  try rw [HU.out]
  refine (HR1.out _).mono ?_
  rintro en w4 ⟨rfl, rfl⟩
  have c7 : w3.cell? ⟨g, 7, none⟩ = some (.int .u64 c.la) := H3.M.B.cells 7
  have HEA := Lib.hid (fun (n : Gr w3) i => rEntryA (H3.M.keep n.2) hf i)
  have x3 := H3.X.cells
  have l3 := H3.lt
  have lg3 := H3.M.lt.1
  go_wp2
  refine wp_region_grown_tail 7 (by kernel_rfl) (by kernel_rfl) ?_
  simp only [List.take_succ_cons, List.take_zero, List.drop_succ_cons, List.drop_zero]
  have hg := @gcell
  repeat (go_big_quiet_step (first | exact grown_of (HEA.out _ _)))
  refine wpQuiet_nil ?_
  rintro w4 ⟨⟨_, hbw4⟩, rfl⟩
  clear hg
  have H4 := H3.keep hbw4
  clear x3 l3 lg3 H3 hbw4
  have hcas := rcas_any H4.M hm (aEnt c (s.p.t % 65536 - 1)) s.p.v (Pk.en (s.p.t / 65536 + 1) (-1) 0)
  rw [HB.out] at hcas
  have HCA := Lib.hid hcas
  clear hcas HEA
  go_wp2_with fail
  refine HCA.out.mono ?_
  rintro en w5 ⟨rfl, M5, T5⟩
  have H5 := H4.mem M5 T5
  clear HCA H4 M5 T5
  have H6 := H5.set (s' := { s with p := { s.p with ln := 42 } }) 0 (.int .i64 42) rfl
  have xw5 := H5.X.cells
  have zw5 := H5.X.frozen
  have ew5_0 : (w5.cell? ⟨w.heap.size, 0, none⟩).isSome = true := by rw [xw5, f0]; rfl
  go_wp2_with (first | (refine wpList_load_row rfl 46 _ rfl w.heap.size rfl _ (wc ({ s with p := { s.p with ln := 42 } } : Wk)) (0, 0) _ (by exact H6.X) Try.underlying46 rfl (by kernel_rfl) ?_) | (refine wpList_store_row rfl 46 _ _ rfl (w.heap.size + 1) (wc ({ s with p := { s.p with ln := 42 } } : Wk)) rfl rfl _ _ (by exact H6.Z) (by kernel_rfl) (by kernel_rfl) (by kernel_rfl) ?_))
  have ZF := H6.Z.setRow (wc ({ s with p := { s.p with ln := 42 } } : Wk))
  refine bodyPost_ret (v := .tuple #[wv ({ s with p := { s.p with ln := 42 } } : Wk), .int .i64 0, .bool true]) ?_ rfl ?_
  · exact Rw.results_cell_slot2 (p := 4) (q := 5) (r := 6) (ty := 46) Try.results39 _ _ (w.heap.size + 1) 46 _ (0, 0) _ rfl ZF Try.underlying46 rfl (by kernel_rfl)
  · exact ⟨rfl, H6.fin _⟩
set_option maxRecDepth 10000 in
set_option maxHeartbeats 4000000 in
theorem ren_popY {B : Nat} {w : World} {g gl cap : Nat} {c : Cfg} {a : Acc} {L : List Int} (M : RefMem B w g c a gl cap L) (s : Wk) (hm : L.length ≤ 1000) (hL : WR L) (hf : c.Wf) (hp : PR s.p) (h20 : 20 ≤ s.p.ln) (h22 : s.p.ln ≤ 22) (r : Res) (hr : (stackLn c a L s.p).fin = r) (ho : r.way = 1) : Calls Try.prog 39 #[.pointer (some ⟨g, 0, none⟩), wv s] w (RPost B g gl cap c ⟨r.a, r.L, { r.p with i := wrap64 r.p.h, ln := 40 }, 0, true⟩ s w) := by
  have f0 : ∀ s : Wk, (wc s)[0]? = some (.int .i64 s.p.ln) := fun _ => rfl
  have f20 : ∀ s : Wk, (wc s)[20]? = some (.int .i64 s.p.i) := fun _ => rfl
  have f23 : ∀ s : Wk, (wc s)[23]? = some (.int .u64 s.p.h) := fun _ => rfl
  have HST := Lib.hid (fun w' (R : RefMem B w' g c a gl cap L) => hr ▸ rStackStep R s hm hL hf hp)
  have d1 : decide (20 ≤ s.p.ln) = true := by simp; omega
  have d2 : decide (s.p.ln ≤ 25) = true := by simp; omega
  have d3 : decide (s.p.ln ≤ 22) = true := by simp; omega
  have t1 : (r.way == 1) = true := by simp [ho]
  clear h20 h22 hr
  have HO := Lib.hid ho
  clear ho
  have H0 := RX.start M s
  have x0 := H0.X.cells
  obtain ⟨w1, hw1⟩ : ∃ u, u = (w.alloc (.cells (wc s) 46)).alloc (.cells (wc wz) 46) := ⟨_, rfl⟩
  rw [← hw1] at H0 x0
  have HW1 := Lib.hid hw1
  clear hw1
  go_enter Try.func39, Try.ntmps39
  go_wp2_with (first | ((with_reducible refine wpList_alloc_wz rfl rfl ?_); rw [← HW1.out]; clear HW1) | (refine wpList_load_row rfl 46 _ rfl w.heap.size rfl _ (wc s) (0, 0) _ (by exact H0.X) Try.underlying46 rfl (by kernel_rfl) ?_))
  refine (HST.out _ H0.M).mono ?_
  rintro en w4 ⟨rfl, M4, T4⟩
  have H4 := H0.mem M4 T4
  clear HST M4 T4 H0 x0
  have Z4 := Bk.new w4 (wc wz) 46
  have Y5 := boxed_bk w4 ({ s with p := r.p } : Wk)
  have b5 := boxed_below w4 ({ s with p := r.p } : Wk)
  have sz5 := b5.size
  obtain ⟨w5, hw5⟩ : ∃ u, u = (w4.alloc (.cells (wc wz) 46)).setRow w4.heap.size (wc ({ s with p := r.p } : Wk)) := ⟨_, rfl⟩
  rw [← hw5] at Y5 b5 sz5
  have HW5 := Lib.hid hw5
  clear hw5
  have x5 := Y5.cells
  have z5 := Y5.frozen
  have e5 : (w5.cell? ⟨w4.heap.size, 20, none⟩).isSome = true := by rw [x5, f20]; rfl
  have Y6 : Bk _ w4.heap.size (wc ({ s with p := { r.p with i := wrap64 r.p.h } } : Wk)) 46 := Y5.setCell 20 (.int .i64 (wrap64 r.p.h))
  have b6 := b5.setCell (p := ⟨w4.heap.size, 20, none⟩) (Nat.le_refl _) (.int .i64 (wrap64 r.p.h))
  have e6 : ((w5.setCell ⟨w4.heap.size, 20, none⟩ (.int .i64 (wrap64 r.p.h))).cell? ⟨w4.heap.size, 0, none⟩).isSome = true := by rw [Y6.cells, f0]; rfl
  have Y7 : Bk _ w4.heap.size (wc ({ s with p := { r.p with i := wrap64 r.p.h, ln := 40 } } : Wk)) 46 := Y6.setCell 0 (.int .i64 40)
  have b7 := b6.setCell (p := ⟨w4.heap.size, 0, none⟩) (Nat.le_refl _) (.int .i64 40)
  have H7 := H4.keep b7
  go_wp2_with (first | ((with_reducible refine wpList_alloc_wz rfl rfl ?_)) | (refine wpList_store_row rfl 46 _ _ rfl w4.heap.size (wc ({ s with p := r.p } : Wk)) rfl rfl _ _ (by exact Z4) (by kernel_rfl) (by kernel_rfl) (by kernel_rfl) ?_; rw [← HW5.out]; clear HW5 Z4) | (refine wpList_load_row rfl 46 _ rfl w4.heap.size rfl _ (wc ({ s with p := { r.p with i := wrap64 r.p.h, ln := 40 } } : Wk)) (0, 0) _ (by exact Y7) Try.underlying46 rfl (by kernel_rfl) ?_) | (refine wpList_store_row rfl 46 _ _ rfl (w.heap.size + 1) (wc ({ s with p := { r.p with i := wrap64 r.p.h, ln := 40 } } : Wk)) rfl rfl _ _ (by exact H7.Z) (by kernel_rfl) (by kernel_rfl) (by kernel_rfl) ?_))
  have ZF := H7.Z.setRow (wc ({ s with p := { r.p with i := wrap64 r.p.h, ln := 40 } } : Wk))
  refine bodyPost_ret (v := .tuple #[wv ({ s with p := { r.p with i := wrap64 r.p.h, ln := 40 } } : Wk), .int .i64 (0), .bool true]) ?_ rfl ?_
  · exact Rw.results_cell_slot2 (p := 4) (q := 5) (r := 6) (ty := 46) Try.results39 _ _ (w.heap.size + 1) 46 _ (0, 0) _ rfl ZF Try.underlying46 rfl (by kernel_rfl)
  · exact ⟨rfl, H7.fin _⟩
set_option maxRecDepth 10000 in
set_option maxHeartbeats 4000000 in
theorem ren_popN {B : Nat} {w : World} {g gl cap : Nat} {c : Cfg} {a : Acc} {L : List Int} (M : RefMem B w g c a gl cap L) (s : Wk) (hm : L.length ≤ 1000) (hL : WR L) (hf : c.Wf) (hp : PR s.p) (h20 : 20 ≤ s.p.ln) (h22 : s.p.ln ≤ 22) (r : Res) (hr : (stackLn c a L s.p).fin = r) (ho : r.way ≠ 1) : Calls Try.prog 39 #[.pointer (some ⟨g, 0, none⟩), wv s] w (RPost B g gl cap c ⟨r.a, r.L, r.p, r.way, true⟩ s w) := by
  have f0 : ∀ s : Wk, (wc s)[0]? = some (.int .i64 s.p.ln) := fun _ => rfl
  have f20 : ∀ s : Wk, (wc s)[20]? = some (.int .i64 s.p.i) := fun _ => rfl
  have f23 : ∀ s : Wk, (wc s)[23]? = some (.int .u64 s.p.h) := fun _ => rfl
  have HST := Lib.hid (fun w' (R : RefMem B w' g c a gl cap L) => hr ▸ rStackStep R s hm hL hf hp)
  have d1 : decide (20 ≤ s.p.ln) = true := by simp; omega
  have d2 : decide (s.p.ln ≤ 25) = true := by simp; omega
  have d3 : decide (s.p.ln ≤ 22) = true := by simp; omega
  have t1 : (r.way == 1) = false := by simp [ho]
  clear h20 h22 hr ho
  have H0 := RX.start M s
  have x0 := H0.X.cells
  obtain ⟨w1, hw1⟩ : ∃ u, u = (w.alloc (.cells (wc s) 46)).alloc (.cells (wc wz) 46) := ⟨_, rfl⟩
  rw [← hw1] at H0 x0
  have HW1 := Lib.hid hw1
  clear hw1
  go_enter Try.func39, Try.ntmps39
  go_wp2_with (first | ((with_reducible refine wpList_alloc_wz rfl rfl ?_); rw [← HW1.out]; clear HW1) | (refine wpList_load_row rfl 46 _ rfl w.heap.size rfl _ (wc s) (0, 0) _ (by exact H0.X) Try.underlying46 rfl (by kernel_rfl) ?_))
  refine (HST.out _ H0.M).mono ?_
  rintro en w4 ⟨rfl, M4, T4⟩
  have H4 := H0.mem M4 T4
  clear HST M4 T4 H0 x0
  have Z4 := Bk.new w4 (wc wz) 46
  have Y5 := boxed_bk w4 ({ s with p := r.p } : Wk)
  have b5 := boxed_below w4 ({ s with p := r.p } : Wk)
  have sz5 := b5.size
  obtain ⟨w5, hw5⟩ : ∃ u, u = (w4.alloc (.cells (wc wz) 46)).setRow w4.heap.size (wc ({ s with p := r.p } : Wk)) := ⟨_, rfl⟩
  rw [← hw5] at Y5 b5 sz5
  have HW5 := Lib.hid hw5
  clear hw5
  have H7 := H4.keep b5
  go_wp2_with (first | ((with_reducible refine wpList_alloc_wz rfl rfl ?_)) | (refine wpList_store_row rfl 46 _ _ rfl w4.heap.size (wc ({ s with p := r.p } : Wk)) rfl rfl _ _ (by exact Z4) (by kernel_rfl) (by kernel_rfl) (by kernel_rfl) ?_; rw [← HW5.out]; clear HW5 Z4) | (refine wpList_load_row rfl 46 _ rfl w4.heap.size rfl _ (wc ({ s with p := r.p } : Wk)) (0, 0) _ (by exact Y5) Try.underlying46 rfl (by kernel_rfl) ?_) | (refine wpList_store_row rfl 46 _ _ rfl (w.heap.size + 1) (wc ({ s with p := r.p } : Wk)) rfl rfl _ _ (by exact H7.Z) (by kernel_rfl) (by kernel_rfl) (by kernel_rfl) ?_))
  have ZF := H7.Z.setRow (wc ({ s with p := r.p } : Wk))
  refine bodyPost_ret (v := .tuple #[wv ({ s with p := r.p } : Wk), .int .i64 (r.way), .bool true]) ?_ rfl ?_
  · exact Rw.results_cell_slot2 (p := 4) (q := 5) (r := 6) (ty := 46) Try.results39 _ _ (w.heap.size + 1) 46 _ (0, 0) _ rfl ZF Try.underlying46 rfl (by kernel_rfl)
  · exact ⟨rfl, H7.fin _⟩
set_option maxRecDepth 10000 in
set_option maxHeartbeats 4000000 in
theorem ren_pushY {B : Nat} {w : World} {g gl cap : Nat} {c : Cfg} {a : Acc} {L : List Int} (M : RefMem B w g c a gl cap L) (s : Wk) (hm : L.length ≤ 1000) (hL : WR L) (hf : c.Wf) (hp : PR s.p) (h20 : 23 ≤ s.p.ln) (h22 : s.p.ln ≤ 25) (r : Res) (hr : (stackLn c a L s.p).fin = r) (ho : r.way = 1) : Calls Try.prog 39 #[.pointer (some ⟨g, 0, none⟩), wv s] w (RPost B g gl cap c ⟨r.a, r.L, { r.p with i := 0 }, 1, true⟩ s w) := by
  have f0 : ∀ s : Wk, (wc s)[0]? = some (.int .i64 s.p.ln) := fun _ => rfl
  have f20 : ∀ s : Wk, (wc s)[20]? = some (.int .i64 s.p.i) := fun _ => rfl
  have f23 : ∀ s : Wk, (wc s)[23]? = some (.int .u64 s.p.h) := fun _ => rfl
  have HST := Lib.hid (fun w' (R : RefMem B w' g c a gl cap L) => hr ▸ rStackStep R s hm hL hf hp)
  have d1 : decide (20 ≤ s.p.ln) = true := by simp; omega
  have d2 : decide (s.p.ln ≤ 25) = true := by simp; omega
  have d3 : decide (s.p.ln ≤ 22) = false := by simp; omega
  have t1 : (r.way == 1) = true := by simp [ho]
  clear h20 h22 hr
  have HO := Lib.hid ho
  clear ho
  have H0 := RX.start M s
  have x0 := H0.X.cells
  obtain ⟨w1, hw1⟩ : ∃ u, u = (w.alloc (.cells (wc s) 46)).alloc (.cells (wc wz) 46) := ⟨_, rfl⟩
  rw [← hw1] at H0 x0
  have HW1 := Lib.hid hw1
  clear hw1
  go_enter Try.func39, Try.ntmps39
  go_wp2_with (first | ((with_reducible refine wpList_alloc_wz rfl rfl ?_); rw [← HW1.out]; clear HW1) | (refine wpList_load_row rfl 46 _ rfl w.heap.size rfl _ (wc s) (0, 0) _ (by exact H0.X) Try.underlying46 rfl (by kernel_rfl) ?_))
  refine (HST.out _ H0.M).mono ?_
  rintro en w4 ⟨rfl, M4, T4⟩
  have H4 := H0.mem M4 T4
  clear HST M4 T4 H0 x0
  have Z4 := Bk.new w4 (wc wz) 46
  have Y5 := boxed_bk w4 ({ s with p := r.p } : Wk)
  have b5 := boxed_below w4 ({ s with p := r.p } : Wk)
  have sz5 := b5.size
  obtain ⟨w5, hw5⟩ : ∃ u, u = (w4.alloc (.cells (wc wz) 46)).setRow w4.heap.size (wc ({ s with p := r.p } : Wk)) := ⟨_, rfl⟩
  rw [← hw5] at Y5 b5 sz5
  have HW5 := Lib.hid hw5
  clear hw5
  have x5 := Y5.cells
  have z5 := Y5.frozen
  have e5 : (w5.cell? ⟨w4.heap.size, 20, none⟩).isSome = true := by rw [x5, f20]; rfl
  have Y7 : Bk _ w4.heap.size (wc ({ s with p := { r.p with i := 0 } } : Wk)) 46 := Y5.setCell 20 (.int .i64 0)
  have b7 := b5.setCell (p := ⟨w4.heap.size, 20, none⟩) (Nat.le_refl _) (.int .i64 0)
  have H7 := H4.keep b7
  go_wp2_with (first | ((with_reducible refine wpList_alloc_wz rfl rfl ?_)) | (refine wpList_store_row rfl 46 _ _ rfl w4.heap.size (wc ({ s with p := r.p } : Wk)) rfl rfl _ _ (by exact Z4) (by kernel_rfl) (by kernel_rfl) (by kernel_rfl) ?_; rw [← HW5.out]; clear HW5 Z4) | (refine wpList_load_row rfl 46 _ rfl w4.heap.size rfl _ (wc ({ s with p := { r.p with i := 0 } } : Wk)) (0, 0) _ (by exact Y7) Try.underlying46 rfl (by kernel_rfl) ?_) | (refine wpList_store_row rfl 46 _ _ rfl (w.heap.size + 1) (wc ({ s with p := { r.p with i := 0 } } : Wk)) rfl rfl _ _ (by exact H7.Z) (by kernel_rfl) (by kernel_rfl) (by kernel_rfl) ?_))
  have ZF := H7.Z.setRow (wc ({ s with p := { r.p with i := 0 } } : Wk))
  refine bodyPost_ret (v := .tuple #[wv ({ s with p := { r.p with i := 0 } } : Wk), .int .i64 (r.way), .bool true]) ?_ rfl ?_
  · exact Rw.results_cell_slot2 (p := 4) (q := 5) (r := 6) (ty := 46) Try.results39 _ _ (w.heap.size + 1) 46 _ (0, 0) _ rfl ZF Try.underlying46 rfl (by kernel_rfl)
  · rw [HO.out]
    exact ⟨rfl, H7.fin _⟩
set_option maxRecDepth 10000 in
set_option maxHeartbeats 4000000 in
theorem ren_pushN {B : Nat} {w : World} {g gl cap : Nat} {c : Cfg} {a : Acc} {L : List Int} (M : RefMem B w g c a gl cap L) (s : Wk) (hm : L.length ≤ 1000) (hL : WR L) (hf : c.Wf) (hp : PR s.p) (h20 : 23 ≤ s.p.ln) (h22 : s.p.ln ≤ 25) (r : Res) (hr : (stackLn c a L s.p).fin = r) (ho : r.way ≠ 1) : Calls Try.prog 39 #[.pointer (some ⟨g, 0, none⟩), wv s] w (RPost B g gl cap c ⟨r.a, r.L, r.p, r.way, true⟩ s w) := by
  have f0 : ∀ s : Wk, (wc s)[0]? = some (.int .i64 s.p.ln) := fun _ => rfl
  have f20 : ∀ s : Wk, (wc s)[20]? = some (.int .i64 s.p.i) := fun _ => rfl
  have f23 : ∀ s : Wk, (wc s)[23]? = some (.int .u64 s.p.h) := fun _ => rfl
  have HST := Lib.hid (fun w' (R : RefMem B w' g c a gl cap L) => hr ▸ rStackStep R s hm hL hf hp)
  have d1 : decide (20 ≤ s.p.ln) = true := by simp; omega
  have d2 : decide (s.p.ln ≤ 25) = true := by simp; omega
  have d3 : decide (s.p.ln ≤ 22) = false := by simp; omega
  have t1 : (r.way == 1) = false := by simp [ho]
  clear h20 h22 hr ho
  have H0 := RX.start M s
  have x0 := H0.X.cells
  obtain ⟨w1, hw1⟩ : ∃ u, u = (w.alloc (.cells (wc s) 46)).alloc (.cells (wc wz) 46) := ⟨_, rfl⟩
  rw [← hw1] at H0 x0
  have HW1 := Lib.hid hw1
  clear hw1
  go_enter Try.func39, Try.ntmps39
  go_wp2_with (first | ((with_reducible refine wpList_alloc_wz rfl rfl ?_); rw [← HW1.out]; clear HW1) | (refine wpList_load_row rfl 46 _ rfl w.heap.size rfl _ (wc s) (0, 0) _ (by exact H0.X) Try.underlying46 rfl (by kernel_rfl) ?_))
  refine (HST.out _ H0.M).mono ?_
  rintro en w4 ⟨rfl, M4, T4⟩
  have H4 := H0.mem M4 T4
  clear HST M4 T4 H0 x0
  have Z4 := Bk.new w4 (wc wz) 46
  have Y5 := boxed_bk w4 ({ s with p := r.p } : Wk)
  have b5 := boxed_below w4 ({ s with p := r.p } : Wk)
  have sz5 := b5.size
  obtain ⟨w5, hw5⟩ : ∃ u, u = (w4.alloc (.cells (wc wz) 46)).setRow w4.heap.size (wc ({ s with p := r.p } : Wk)) := ⟨_, rfl⟩
  rw [← hw5] at Y5 b5 sz5
  have HW5 := Lib.hid hw5
  clear hw5
  have H7 := H4.keep b5
  go_wp2_with (first | ((with_reducible refine wpList_alloc_wz rfl rfl ?_)) | (refine wpList_store_row rfl 46 _ _ rfl w4.heap.size (wc ({ s with p := r.p } : Wk)) rfl rfl _ _ (by exact Z4) (by kernel_rfl) (by kernel_rfl) (by kernel_rfl) ?_; rw [← HW5.out]; clear HW5 Z4) | (refine wpList_load_row rfl 46 _ rfl w4.heap.size rfl _ (wc ({ s with p := r.p } : Wk)) (0, 0) _ (by exact Y5) Try.underlying46 rfl (by kernel_rfl) ?_) | (refine wpList_store_row rfl 46 _ _ rfl (w.heap.size + 1) (wc ({ s with p := r.p } : Wk)) rfl rfl _ _ (by exact H7.Z) (by kernel_rfl) (by kernel_rfl) (by kernel_rfl) ?_))
  have ZF := H7.Z.setRow (wc ({ s with p := r.p } : Wk))
  refine bodyPost_ret (v := .tuple #[wv ({ s with p := r.p } : Wk), .int .i64 (r.way), .bool true]) ?_ rfl ?_
  · exact Rw.results_cell_slot2 (p := 4) (q := 5) (r := 6) (ty := 46) Try.results39 _ _ (w.heap.size + 1) 46 _ (0, 0) _ rfl ZF Try.underlying46 rfl (by kernel_rfl)
  · exact ⟨rfl, H7.fin _⟩
set_option maxRecDepth 10000 in
set_option maxHeartbeats 4000000 in
theorem renNoneA {B : Nat} {w : World} {g gl cap : Nat} {c : Cfg} {a : Acc} {L : List Int} (M : RefMem B w g c a gl cap L) (s : Wk) (hm : L.length ≤ 1000) (hL : WR L) (hf : c.Wf) (hp : PR s.p) (hl : s.p.ln < 20) : Calls Try.prog 39 #[.pointer (some ⟨g, 0, none⟩), wv s] w (RPost B g gl cap c ⟨a, L, s.p, 0, false⟩ s w) := by
  have f0 : ∀ s : Wk, (wc s)[0]? = some (.int .i64 s.p.ln) := fun _ => rfl
  have d0 : (decide (20 ≤ s.p.ln)) = false := by simp <;> omega
  have d1 : (s.p.ln != 60) = true := by simp <;> omega
  have d2 : (decide (s.p.ln < 40)) = true := by simp <;> omega
  have H0 := RX.start M s
  have x0 := H0.X.cells
  obtain ⟨w1, hw1⟩ : ∃ u, u = (w.alloc (.cells (wc s) 46)).alloc (.cells (wc wz) 46) := ⟨_, rfl⟩
  rw [← hw1] at H0 x0
  have HW1 := Lib.hid hw1
  clear hl hw1
  go_enter Try.func39, Try.ntmps39
  go_wp2_with (first | ((with_reducible refine wpList_alloc_wz rfl rfl ?_); rw [← HW1.out]; clear HW1) | (refine wpList_load_row rfl 46 _ rfl w.heap.size rfl _ (wc s) (0, 0) _ (by exact H0.X) Try.underlying46 rfl (by kernel_rfl) ?_) | (refine wpList_store_row rfl 46 _ _ rfl (w.heap.size + 1) (wc s) rfl rfl _ _ (by exact H0.Z) (by kernel_rfl) (by kernel_rfl) (by kernel_rfl) ?_))
  have ZF := H0.Z.setRow (wc s)
  refine bodyPost_ret (v := .tuple #[wv s, .int .i64 0, .bool false]) ?_ rfl ?_
  · exact Rw.results_cell_slot2 (p := 4) (q := 5) (r := 6) (ty := 46) Try.results39 _ _ (w.heap.size + 1) 46 _ (0, 0) _ rfl ZF Try.underlying46 rfl (by kernel_rfl)
  · exact ⟨rfl, H0.fin _⟩
set_option maxRecDepth 10000 in
set_option maxHeartbeats 4000000 in
theorem renNoneB {B : Nat} {w : World} {g gl cap : Nat} {c : Cfg} {a : Acc} {L : List Int} (M : RefMem B w g c a gl cap L) (s : Wk) (hm : L.length ≤ 1000) (hL : WR L) (hf : c.Wf) (hp : PR s.p) (hl : 25 < s.p.ln ∧ s.p.ln < 40) : Calls Try.prog 39 #[.pointer (some ⟨g, 0, none⟩), wv s] w (RPost B g gl cap c ⟨a, L, s.p, 0, false⟩ s w) := by
  have f0 : ∀ s : Wk, (wc s)[0]? = some (.int .i64 s.p.ln) := fun _ => rfl
  have d0 : (decide (20 ≤ s.p.ln)) = true := by simp <;> omega
  have d1 : (decide (s.p.ln ≤ 25)) = false := by simp <;> omega
  have d2 : (s.p.ln != 60) = true := by simp <;> omega
  have d3 : (decide (s.p.ln < 40)) = true := by simp <;> omega
  have H0 := RX.start M s
  have x0 := H0.X.cells
  obtain ⟨w1, hw1⟩ : ∃ u, u = (w.alloc (.cells (wc s) 46)).alloc (.cells (wc wz) 46) := ⟨_, rfl⟩
  rw [← hw1] at H0 x0
  have HW1 := Lib.hid hw1
  clear hl hw1
  go_enter Try.func39, Try.ntmps39
  go_wp2_with (first | ((with_reducible refine wpList_alloc_wz rfl rfl ?_); rw [← HW1.out]; clear HW1) | (refine wpList_load_row rfl 46 _ rfl w.heap.size rfl _ (wc s) (0, 0) _ (by exact H0.X) Try.underlying46 rfl (by kernel_rfl) ?_) | (refine wpList_store_row rfl 46 _ _ rfl (w.heap.size + 1) (wc s) rfl rfl _ _ (by exact H0.Z) (by kernel_rfl) (by kernel_rfl) (by kernel_rfl) ?_))
  have ZF := H0.Z.setRow (wc s)
  refine bodyPost_ret (v := .tuple #[wv s, .int .i64 0, .bool false]) ?_ rfl ?_
  · exact Rw.results_cell_slot2 (p := 4) (q := 5) (r := 6) (ty := 46) Try.results39 _ _ (w.heap.size + 1) 46 _ (0, 0) _ rfl ZF Try.underlying46 rfl (by kernel_rfl)
  · exact ⟨rfl, H0.fin _⟩
set_option maxRecDepth 10000 in
set_option maxHeartbeats 4000000 in
theorem renNoneC {B : Nat} {w : World} {g gl cap : Nat} {c : Cfg} {a : Acc} {L : List Int} (M : RefMem B w g c a gl cap L) (s : Wk) (hm : L.length ≤ 1000) (hL : WR L) (hf : c.Wf) (hp : PR s.p) (hl : 46 < s.p.ln ∧ s.p.ln ≠ 60) : Calls Try.prog 39 #[.pointer (some ⟨g, 0, none⟩), wv s] w (RPost B g gl cap c ⟨a, L, s.p, 0, false⟩ s w) := by
  have f0 : ∀ s : Wk, (wc s)[0]? = some (.int .i64 s.p.ln) := fun _ => rfl
  have d0 : (decide (20 ≤ s.p.ln)) = true := by simp <;> omega
  have d1 : (decide (s.p.ln ≤ 25)) = false := by simp <;> omega
  have d2 : (s.p.ln != 60) = true := by simp <;> omega
  have d3 : (decide (s.p.ln < 40)) = false := by simp <;> omega
  have d4 : (decide (46 < s.p.ln)) = true := by simp <;> omega
  have H0 := RX.start M s
  have x0 := H0.X.cells
  obtain ⟨w1, hw1⟩ : ∃ u, u = (w.alloc (.cells (wc s) 46)).alloc (.cells (wc wz) 46) := ⟨_, rfl⟩
  rw [← hw1] at H0 x0
  have HW1 := Lib.hid hw1
  clear hl hw1
  go_enter Try.func39, Try.ntmps39
  go_wp2_with (first | ((with_reducible refine wpList_alloc_wz rfl rfl ?_); rw [← HW1.out]; clear HW1) | (refine wpList_load_row rfl 46 _ rfl w.heap.size rfl _ (wc s) (0, 0) _ (by exact H0.X) Try.underlying46 rfl (by kernel_rfl) ?_) | (refine wpList_store_row rfl 46 _ _ rfl (w.heap.size + 1) (wc s) rfl rfl _ _ (by exact H0.Z) (by kernel_rfl) (by kernel_rfl) (by kernel_rfl) ?_))
  have ZF := H0.Z.setRow (wc s)
  refine bodyPost_ret (v := .tuple #[wv s, .int .i64 0, .bool false]) ?_ rfl ?_
  · exact Rw.results_cell_slot2 (p := 4) (q := 5) (r := 6) (ty := 46) Try.results39 _ _ (w.heap.size + 1) 46 _ (0, 0) _ rfl ZF Try.underlying46 rfl (by kernel_rfl)
  · exact ⟨rfl, H0.fin _⟩
theorem fin_ln (r : Res) (h : r.fin.way ≠ 0) : { r.fin.p with ln := 0 } = r.fin.p := by
  unfold Res.fin at *
  split at h
  · rename_i h0; exact absurd h0 h
  · rename_i h0; rw [if_neg h0]
theorem fin_fin (r : Res) : (⟨r.fin.a, r.fin.L, r.fin.p, r.fin.way, true⟩ : Res).fin = ⟨r.fin.a, r.fin.L, r.fin.p, r.fin.way, true⟩ := by
  by_cases h : r.fin.way = 0
  · exact Res.fin0 (r := ⟨r.fin.a, r.fin.L, r.fin.p, r.fin.way, true⟩) h
  · refine (Res.fin1 (r := ⟨r.fin.a, r.fin.L, r.fin.p, r.fin.way, true⟩) h).trans ?_
    simp only [Res.mk.injEq, true_and, and_true]
    exact fin_ln r h
/-- A step of the reference, whichever. -/
theorem rEntryStep {B : Nat} {w : World} {g gl cap : Nat} {c : Cfg} {a : Acc} {L : List Int} (M : RefMem B w g c a gl cap L) (s : Wk) (hm : L.length ≤ 1000) (hL : WR L) (hf : c.Wf) (hp : PR s.p) : Calls Try.prog 39 #[.pointer (some ⟨g, 0, none⟩), wv s] w (RPost B g gl cap c (entryLn c a L s.p).fin s w) := by
  unfold entryLn
  by_cases h20 : s.p.ln = 20 ∨ s.p.ln = 21 ∨ s.p.ln = 22
  · rw [if_pos h20]
    unfold enPop
    by_cases ho : (stackLn c a L s.p).fin.way = 1
    · rw [if_pos ho, Res.fin0 rfl]
      exact ren_popY M s hm hL hf hp (by omega) (by omega) _ rfl ho
    · rw [if_neg ho]
      have e : (⟨(stackLn c a L s.p).fin.a, (stackLn c a L s.p).fin.L, (stackLn c a L s.p).fin.p, (stackLn c a L s.p).fin.way, true⟩ : Res).fin = ⟨(stackLn c a L s.p).fin.a, (stackLn c a L s.p).fin.L, (stackLn c a L s.p).fin.p, (stackLn c a L s.p).fin.way, true⟩ := fin_fin _
      rw [e]
      exact ren_popN M s hm hL hf hp (by omega) (by omega) _ rfl ho
  rw [if_neg h20]
  by_cases h23 : s.p.ln = 23 ∨ s.p.ln = 24 ∨ s.p.ln = 25
  · rw [if_pos h23]
    unfold enPush
    by_cases ho : (stackLn c a L s.p).fin.way = 1
    · rw [if_pos ho]
      have e : (⟨(stackLn c a L s.p).fin.a, (stackLn c a L s.p).fin.L, { (stackLn c a L s.p).fin.p with i := 0 }, 1, true⟩ : Res).fin = ⟨(stackLn c a L s.p).fin.a, (stackLn c a L s.p).fin.L, { (stackLn c a L s.p).fin.p with i := 0 }, 1, true⟩ := by
        rw [Res.fin1 (show (1 : Int) ≠ 0 by decide)]
        have := fin_ln (stackLn c a L s.p) (by rw [ho]; decide)
        simp only [Res.mk.injEq, true_and, and_true]
        rw [← this]
      rw [e]
      exact ren_pushY M s hm hL hf hp (by omega) (by omega) _ rfl ho
    · rw [if_neg ho]
      have e : (⟨(stackLn c a L s.p).fin.a, (stackLn c a L s.p).fin.L, (stackLn c a L s.p).fin.p, (stackLn c a L s.p).fin.way, true⟩ : Res).fin = ⟨(stackLn c a L s.p).fin.a, (stackLn c a L s.p).fin.L, (stackLn c a L s.p).fin.p, (stackLn c a L s.p).fin.way, true⟩ := fin_fin _
      rw [e]
      exact ren_pushN M s hm hL hf hp (by omega) (by omega) _ rfl ho
  rw [if_neg h23]
  by_cases h40 : s.p.ln = 40
  · rw [if_pos h40, Res.fin0 rfl]; exact ren40 M s hm hL hf hp h40
  rw [if_neg h40]
  by_cases h41 : s.p.ln = 41
  · rw [if_pos h41, Res.fin1 (show (1 : Int) ≠ 0 by decide)]; exact ren41 M s hm hL hf hp h41
  rw [if_neg h41]
  by_cases hq : s.p.ln = 42 ∨ s.p.ln = 44 ∨ s.p.ln = 46 ∨ s.p.ln = 60
  · rw [if_pos hq]
    unfold enFind enB enT
    by_cases h1 : ldV L (aEnt c (s.p.t % 65536 - 1)) % 16 = 1
    · by_cases h2 : ldV L (aEnt c (s.p.t % 65536 - 1)) / 1048576 = s.p.t / 65536
      · rw [if_pos (by simp [h1, h2]), Res.fin1 (show (1 : Int) ≠ 0 by decide)]
        rcases hq with e | e | e | e
        · exact ren42Y M s hm hL hf hp e h1 h2
        · exact ren44Y M s hm hL hf hp e h1 h2
        · exact ren46Y M s hm hL hf hp e h1 h2
        · exact ren60Y M s hm hL hf hp e h1 h2
      · rw [if_neg (by simp [h1, h2]), Res.fin1 (show (2 : Int) ≠ 0 by decide)]
        rcases hq with e | e | e | e
        · exact ren42N M s hm hL hf hp e h1 h2
        · exact ren44N M s hm hL hf hp e h1 h2
        · exact ren46N M s hm hL hf hp e h1 h2
        · exact ren60N M s hm hL hf hp e h1 h2
    · rw [if_neg (by simp [h1]), Res.fin1 (show (2 : Int) ≠ 0 by decide)]
      rcases hq with e | e | e | e
      · exact ren42M M s hm hL hf hp e h1
      · exact ren44M M s hm hL hf hp e h1
      · exact ren46M M s hm hL hf hp e h1
      · exact ren60M M s hm hL hf hp e h1
  rw [if_neg hq]
  by_cases h43 : s.p.ln = 43
  · rw [if_pos h43]
    unfold en43 enNext enHand enT
    by_cases hla : c.la ≤ s.p.t / 65536
    · simp only [if_pos hla]
      split
      · rename_i hb; rw [Res.fin1 (show (1 : Int) ≠ 0 by decide)]; exact ren431y M s hm hL hf hp h43 hla hb
      · rename_i hb; rw [Res.fin0 rfl]; exact ren431n M s hm hL hf hp h43 hla (eq_false_of_ne_true hb)
    · simp only [if_neg hla]
      split
      · rename_i hb; rw [Res.fin1 (show (1 : Int) ≠ 0 by decide)]; exact ren430y M s hm hL hf hp h43 hla hb
      · rename_i hb; rw [Res.fin0 rfl]; exact ren430n M s hm hL hf hp h43 hla (eq_false_of_ne_true hb)
  rw [if_neg h43]
  by_cases h45 : s.p.ln = 45
  · rw [if_pos h45]
    unfold en45 enRe enT
    split
    · rename_i hb; rw [Res.fin1 (show (1 : Int) ≠ 0 by decide)]; exact ren45y M s hm hL hf hp h45 hb
    · rename_i hb; rw [Res.fin0 rfl]; exact ren45n M s hm hL hf hp h45 (eq_false_of_ne_true hb)
  rw [if_neg h45, Res.fin0 rfl]
  by_cases hA : s.p.ln < 20
  · exact renNoneA M s hm hL hf hp hA
  by_cases hB : s.p.ln < 40
  · exact renNoneB M s hm hL hf hp ⟨by omega, hB⟩
  · exact renNoneC M s hm hL hf hp ⟨by omega, by omega⟩
end Go.Proofs.Ytblkfbbdeodpjaa.Me
