/- The steps of the reference of layer 8 (made by genslabs.py). -/
import Derived.Test.YticgpikpefgldaaSlabFn
import Derived.Test.YticgpikpefgldaaRefStep
import Derived.Test.YticgpikpefgldaaRefHome
namespace Go.Proofs.Yticgpikpefgldaa.Me
open Go Go.RowKit Go.Proofs.Yticgpikpefgldaa.Gro Go.Proofs.Yticgpikpefgldaa.Own Go.Proofs.Yticgpikpefgldaa.Wd Go.Proofs.Yticgpikpefgldaa.Ap Go.Proofs.Yticgpikpefgldaa.Pl Go.Proofs.Yticgpikpefgldaa.Wo
set_option linter.unusedVariables false
set_option linter.unusedSimpArgs false
theorem rSlabA {B : Nat} {w : World} {g gl cap : Nat} {c : Cfg} {a : Acc} {L : List Int} (M : RefMem B w g c a gl cap L) (hf : c.Wf) (i : Int) : Calls Try.prog 80 #[.pointer (some ⟨g, 0, none⟩), .int .i64 i] w fun e w' => e = .returned (.int .i64 (aSlab c i)) ∧ Below w.heap.size w w' := by
  have HA := Lib.hid (fun w => (refAt_all c i 0).2.1 ▸ refAt_walk c hf (2, i, 0) w)
  have x := M.B.cells
  go_enter Try.func80, Try.ntmps80
  go_wp2_with fail
  refine (HA.out _).mono ?_
  rintro e w1 ⟨rfl, hb⟩
  go_wp2
  go_ret
  exact ⟨rfl, hb⟩
theorem rHome {B : Nat} {w : World} {g gl cap : Nat} {c : Cfg} {a : Acc} {L : List Int} (M : RefMem B w g c a gl cap L) (hf : c.Wf) (i : Int) : Calls Try.prog 77 #[.pointer (some ⟨g, 0, none⟩), .int .i64 i] w fun e w' => e = .returned (.int .i64 (aSlab c (aHom c i))) ∧ Below w.heap.size w w' := by
  have x := M.B.cells
  go_enter Try.func77, Try.ntmps77
  go_wp2_with fail
  refine (refHome c hf i _).mono ?_
  rintro e w1 ⟨rfl, hb1⟩
  have M1 := M.keep hb1
  clear x
  go_wp2_with fail
  refine (rSlabA M1 hf _).mono ?_
  rintro e w2 ⟨rfl, hb2⟩
  go_wp2
  go_ret
  exact ⟨rfl, hb1.trans (hb2.mono hb1.size)⟩
set_option maxRecDepth 10000 in
set_option maxHeartbeats 4000000 in
theorem rEndY (s : Wk) (w : World) : Calls Try.prog 78 #[wv s, .bool true] w fun e w' => e = .returned (.tuple #[wv ({ s with p := { s.p with ln := 0 } } : Wk), .int .i64 1, .bool true]) ∧ Below w.heap.size w w' := by
  have f0 : ∀ s : Wk, (wc s)[0]? = some (.int .i64 s.p.ln) := fun _ => rfl
  have T0 := Two.start w s
  obtain ⟨w1, hw1⟩ : ∃ u, u = (w.alloc (.cells (wc s) 34)).alloc (.cells (wc wz) 34) := ⟨_, rfl⟩
  rw [← hw1] at T0
  have HW1 := Lib.hid hw1
  have hX := T0.X.setCell 0 (.int .i64 0)
  have hX2 : (wc s).setIfInBounds 0 (.int .i64 0) = wc ({ s with p := { s.p with ln := 0 } } : Wk) := rfl
  rw [hX2] at hX
  have hZ := T0.Z.setCell_far (a := ⟨w.heap.size, 0, none⟩) (by simp) (.int .i64 0)
  have hb := T0.below.setCell (p := ⟨w.heap.size, 0, none⟩) (Nat.le_refl _) (.int .i64 0)
  have x0 := T0.X.cells
  have z0 := T0.X.frozen
  have e0 : (w1.cell? ⟨w.heap.size, 0, none⟩).isSome = true := by rw [x0, f0]; rfl
  clear hX2 T0 hw1
  go_enter Try.func78, Try.ntmps78
  go_wp2_with (first | ((with_reducible refine wpList_alloc_wz rfl rfl ?_); rw [← HW1.out]; clear HW1) | (refine wpList_load_row rfl 34 _ rfl w.heap.size rfl _ (wc ({ s with p := { s.p with ln := 0 } } : Wk)) (0, 0) _ (by exact hX) Try.underlying34 rfl (by kernel_rfl) ?_) | (refine wpList_store_row rfl 34 _ _ rfl (w.heap.size + 1) (wc ({ s with p := { s.p with ln := 0 } } : Wk)) rfl rfl _ _ (by exact hZ) (by kernel_rfl) (by kernel_rfl) (by kernel_rfl) ?_))
  have ZF := hZ.setRow (wc ({ s with p := { s.p with ln := 0 } } : Wk))
  refine bodyPost_ret (v := .tuple #[wv ({ s with p := { s.p with ln := 0 } } : Wk), .int .i64 1, .bool true]) ?_ rfl ⟨rfl, below_setRow hb (by omega) _⟩
  exact Rw.results_cell_slot2 (p := 4) (q := 5) (r := 6) (ty := 34) Try.results78 _ _ (w.heap.size + 1) 34 _ (0, 0) _ rfl ZF Try.underlying34 rfl (by kernel_rfl)
set_option maxRecDepth 10000 in
set_option maxHeartbeats 4000000 in
theorem rEndN (s : Wk) (w : World) : Calls Try.prog 78 #[wv s, .bool false] w fun e w' => e = .returned (.tuple #[wv ({ s with p := { s.p with ln := 0 } } : Wk), .int .i64 2, .bool true]) ∧ Below w.heap.size w w' := by
  have f0 : ∀ s : Wk, (wc s)[0]? = some (.int .i64 s.p.ln) := fun _ => rfl
  have T0 := Two.start w s
  obtain ⟨w1, hw1⟩ : ∃ u, u = (w.alloc (.cells (wc s) 34)).alloc (.cells (wc wz) 34) := ⟨_, rfl⟩
  rw [← hw1] at T0
  have HW1 := Lib.hid hw1
  have hX := T0.X.setCell 0 (.int .i64 0)
  have hX2 : (wc s).setIfInBounds 0 (.int .i64 0) = wc ({ s with p := { s.p with ln := 0 } } : Wk) := rfl
  rw [hX2] at hX
  have hZ := T0.Z.setCell_far (a := ⟨w.heap.size, 0, none⟩) (by simp) (.int .i64 0)
  have hb := T0.below.setCell (p := ⟨w.heap.size, 0, none⟩) (Nat.le_refl _) (.int .i64 0)
  have x0 := T0.X.cells
  have z0 := T0.X.frozen
  have e0 : (w1.cell? ⟨w.heap.size, 0, none⟩).isSome = true := by rw [x0, f0]; rfl
  clear hX2 T0 hw1
  go_enter Try.func78, Try.ntmps78
  go_wp2_with (first | ((with_reducible refine wpList_alloc_wz rfl rfl ?_); rw [← HW1.out]; clear HW1) | (refine wpList_load_row rfl 34 _ rfl w.heap.size rfl _ (wc ({ s with p := { s.p with ln := 0 } } : Wk)) (0, 0) _ (by exact hX) Try.underlying34 rfl (by kernel_rfl) ?_) | (refine wpList_store_row rfl 34 _ _ rfl (w.heap.size + 1) (wc ({ s with p := { s.p with ln := 0 } } : Wk)) rfl rfl _ _ (by exact hZ) (by kernel_rfl) (by kernel_rfl) (by kernel_rfl) ?_))
  have ZF := hZ.setRow (wc ({ s with p := { s.p with ln := 0 } } : Wk))
  refine bodyPost_ret (v := .tuple #[wv ({ s with p := { s.p with ln := 0 } } : Wk), .int .i64 2, .bool true]) ?_ rfl ⟨rfl, below_setRow hb (by omega) _⟩
  exact Rw.results_cell_slot2 (p := 4) (q := 5) (r := 6) (ty := 34) Try.results78 _ _ (w.heap.size + 1) 34 _ (0, 0) _ rfl ZF Try.underlying34 rfl (by kernel_rfl)
set_option maxRecDepth 10000 in
set_option maxHeartbeats 4000000 in
theorem rsl30y {B : Nat} {w : World} {g gl cap : Nat} {c : Cfg} {a : Acc} {L : List Int} (M : RefMem B w g c a gl cap L) (s : Wk) (hm : L.length ≤ 1000) (hL : WR L) (hf : c.Wf) (hp : PR s.p) (hl : s.p.ln = 30) (he : slNow L (slHome c s.p.k) / 16 % 4096 = c.bl) : Calls Try.prog 29 #[.pointer (some ⟨g, 0, none⟩), wv s] w (RPost B g gl cap c ⟨acc L 4 (slHome c s.p.k) 16 0, adL L (slHome c s.p.k) 16, { s.p with ln := 31 }, 0, true⟩ s w) := by
  have HE0 := Lib.hid he
  have hv := wrap_rng (ldV L (slHome c s.p.k) + 16)
  have HN := Lib.hid (show IntKind.u64.wrap (ldV L (slHome c s.p.k) + 16) = slNow L (slHome c s.p.k) from rfl)
  rw [HN.out] at hv
  have HUN := Lib.hid (fun w => unslabR (slNow L (slHome c s.p.k)) hv.1 hv.2 w)
  clear he hv
  have f0 : ∀ s : Wk, (wc s)[0]? = some (.int .i64 s.p.ln) := fun _ => rfl
  have f19 : ∀ s : Wk, (wc s)[19]? = some (.int .i64 s.p.k) := fun _ => rfl
  have d1 : decide (s.p.ln < 30) = false := by simp [hl]
  have d2 : (s.p.ln == 38) = false := by simp [hl]
  have d3 : decide (39 < s.p.ln) = false := by simp [hl]
  have t30 : (s.p.ln == 30) = true := by simp [hl]
  have H0 := RX.start M s
  have H1 := H0.wipe
  have hba := build_acc0
  have x0 := H0.X.cells
  obtain ⟨w1, hw1⟩ : ∃ u, u = (w.alloc (.cells (wc s) 34)).alloc (.cells (wc wz) 34) := ⟨_, rfl⟩
  rw [← hw1] at H0 H1 x0
  obtain ⟨w2, hw2⟩ : ∃ u, u = w1.setRow g (rc c a0 ⟨some ⟨gl, 0, none⟩, L.length, cap⟩) := ⟨_, rfl⟩
  rw [← hw2] at H1
  have x1 := H1.X.cells
  have l1 := H1.lt
  have HW1 := Lib.hid hw1
  have HW2 := Lib.hid hw2
  clear hl hw1 hw2
  go_enter Try.func29, Try.ntmps29
  go_wp2_with (first | ((with_reducible refine wpList_alloc_wz rfl rfl ?_); rw [← HW1.out]; clear HW1) | ((with_reducible refine Sub.wpList_store_sub rfl 48 _ _ rfl g 9 #[.int .i64 0, .int .i64 0, .int .u64 0, .int .u64 0, .int .u64 0] ?_ ?_ 50 (rc c a ⟨some ⟨gl, 0, none⟩, L.length, cap⟩) (rc c a0 ⟨some ⟨gl, 0, none⟩, L.length, cap⟩) ?_ ?_ ?_ ?_ ?_ ?_); exact rfl; exact rfl; exact H0.M.B; kernel_rfl; exact Nat.le_of_ble_eq_true (by kernel_rfl); kernel_rfl; kernel_rfl; rw [← HW2.out]; clear HW2 H0 x0))
  refine (rHome H1.M hf (wrap64 (s.p.k - 1))).mono ?_
  rintro en w3 ⟨rfl, hb3⟩
  have H3 := H1.keep hb3
  have hh : aSlab c (aHom c (wrap64 (s.p.k - 1))) = slHome c s.p.k := rfl
  rw [hh]
  clear hh x1 l1 H1 hb3
  go_wp2_with fail
  refine (radd_any H3.M hm _ 16).mono ?_
  rintro en w4 ⟨rfl, M4, T4⟩
  have H4 := H3.mem M4 T4
  clear H3 M4 T4
  go_wp2_with fail
  rw [HN.out]
  refine (HUN.out _).mono ?_
  rintro en w5 ⟨rfl, hb5⟩
  have H5 := H4.keep hb5
  have x5 := H5.X.cells
  have m5 := H5.M.B.cells
  obtain ⟨q, hq⟩ : ∃ q, q = slNow L (slHome c s.p.k) / 16 % 4096 := ⟨_, rfl⟩
  rw [← hq] at HE0
  simp only [← hq]
  clear hq H4 hb5
  have te : (q != c.bl) = false := by have := HE0.out; simp [this]
  have H6 := H5.set (s' := { s with p := { s.p with ln := 31 } }) 0 (.int .i64 31) rfl
  have xw5 := H5.X.cells
  have zw5 := H5.X.frozen
  have ew5_0 : (w5.cell? ⟨w.heap.size, 0, none⟩).isSome = true := by rw [xw5, f0]; rfl
  go_wp2_with (first | (refine wpList_load_row rfl 34 _ rfl w.heap.size rfl _ (wc ({ s with p := { s.p with ln := 31 } } : Wk)) (0, 0) _ (by exact H6.X) Try.underlying34 rfl (by kernel_rfl) ?_) | (refine wpList_store_row rfl 34 _ _ rfl (w.heap.size + 1) (wc ({ s with p := { s.p with ln := 31 } } : Wk)) rfl rfl _ _ (by exact H6.Z) (by kernel_rfl) (by kernel_rfl) (by kernel_rfl) ?_))
  have ZF := H6.Z.setRow (wc ({ s with p := { s.p with ln := 31 } } : Wk))
  refine bodyPost_ret (v := .tuple #[wv ({ s with p := { s.p with ln := 31 } } : Wk), .int .i64 0, .bool true]) ?_ rfl ?_
  · exact Rw.results_cell_slot2 (p := 4) (q := 5) (r := 6) (ty := 34) Try.results29 _ _ (w.heap.size + 1) 34 _ (0, 0) _ rfl ZF Try.underlying34 rfl (by kernel_rfl)
  · exact ⟨rfl, H6.fin _⟩
set_option maxRecDepth 10000 in
set_option maxHeartbeats 4000000 in
theorem rsl30n {B : Nat} {w : World} {g gl cap : Nat} {c : Cfg} {a : Acc} {L : List Int} (M : RefMem B w g c a gl cap L) (s : Wk) (hm : L.length ≤ 1000) (hL : WR L) (hf : c.Wf) (hp : PR s.p) (hl : s.p.ln = 30) (he : slNow L (slHome c s.p.k) / 16 % 4096 ≠ c.bl) : Calls Try.prog 29 #[.pointer (some ⟨g, 0, none⟩), wv s] w (RPost B g gl cap c ⟨acc L 4 (slHome c s.p.k) 16 0, adL L (slHome c s.p.k) 16, { s.p with k := 0, ln := 0 }, 1, true⟩ s w) := by
  have HE0 := Lib.hid he
  have hv := wrap_rng (ldV L (slHome c s.p.k) + 16)
  have HN := Lib.hid (show IntKind.u64.wrap (ldV L (slHome c s.p.k) + 16) = slNow L (slHome c s.p.k) from rfl)
  rw [HN.out] at hv
  have HUN := Lib.hid (fun w => unslabR (slNow L (slHome c s.p.k)) hv.1 hv.2 w)
  clear he hv
  have f0 : ∀ s : Wk, (wc s)[0]? = some (.int .i64 s.p.ln) := fun _ => rfl
  have f19 : ∀ s : Wk, (wc s)[19]? = some (.int .i64 s.p.k) := fun _ => rfl
  have d1 : decide (s.p.ln < 30) = false := by simp [hl]
  have d2 : (s.p.ln == 38) = false := by simp [hl]
  have d3 : decide (39 < s.p.ln) = false := by simp [hl]
  have t30 : (s.p.ln == 30) = true := by simp [hl]
  have H0 := RX.start M s
  have H1 := H0.wipe
  have hba := build_acc0
  have x0 := H0.X.cells
  obtain ⟨w1, hw1⟩ : ∃ u, u = (w.alloc (.cells (wc s) 34)).alloc (.cells (wc wz) 34) := ⟨_, rfl⟩
  rw [← hw1] at H0 H1 x0
  obtain ⟨w2, hw2⟩ : ∃ u, u = w1.setRow g (rc c a0 ⟨some ⟨gl, 0, none⟩, L.length, cap⟩) := ⟨_, rfl⟩
  rw [← hw2] at H1
  have x1 := H1.X.cells
  have l1 := H1.lt
  have HW1 := Lib.hid hw1
  have HW2 := Lib.hid hw2
  clear hl hw1 hw2
  go_enter Try.func29, Try.ntmps29
  go_wp2_with (first | ((with_reducible refine wpList_alloc_wz rfl rfl ?_); rw [← HW1.out]; clear HW1) | ((with_reducible refine Sub.wpList_store_sub rfl 48 _ _ rfl g 9 #[.int .i64 0, .int .i64 0, .int .u64 0, .int .u64 0, .int .u64 0] ?_ ?_ 50 (rc c a ⟨some ⟨gl, 0, none⟩, L.length, cap⟩) (rc c a0 ⟨some ⟨gl, 0, none⟩, L.length, cap⟩) ?_ ?_ ?_ ?_ ?_ ?_); exact rfl; exact rfl; exact H0.M.B; kernel_rfl; exact Nat.le_of_ble_eq_true (by kernel_rfl); kernel_rfl; kernel_rfl; rw [← HW2.out]; clear HW2 H0 x0))
  refine (rHome H1.M hf (wrap64 (s.p.k - 1))).mono ?_
  rintro en w3 ⟨rfl, hb3⟩
  have H3 := H1.keep hb3
  have hh : aSlab c (aHom c (wrap64 (s.p.k - 1))) = slHome c s.p.k := rfl
  rw [hh]
  clear hh x1 l1 H1 hb3
  go_wp2_with fail
  refine (radd_any H3.M hm _ 16).mono ?_
  rintro en w4 ⟨rfl, M4, T4⟩
  have H4 := H3.mem M4 T4
  clear H3 M4 T4
  go_wp2_with fail
  rw [HN.out]
  refine (HUN.out _).mono ?_
  rintro en w5 ⟨rfl, hb5⟩
  have H5 := H4.keep hb5
  have x5 := H5.X.cells
  have m5 := H5.M.B.cells
  obtain ⟨q, hq⟩ : ∃ q, q = slNow L (slHome c s.p.k) / 16 % 4096 := ⟨_, rfl⟩
  rw [← hq] at HE0
  simp only [← hq]
  clear hq H4 hb5
  have te : (q != c.bl) = true := by have := HE0.out; simp [this]
  have H6 := H5.set (s' := { s with p := { s.p with k := 0 } }) 19 (.int .i64 0) rfl
  have xw5 := H5.X.cells
  have zw5 := H5.X.frozen
  have ew5_19 : (w5.cell? ⟨w.heap.size, 19, none⟩).isSome = true := by rw [xw5, f19]; rfl
  go_wp2_with (first | (refine wpList_load_row rfl 34 _ rfl w.heap.size rfl _ (wc ({ s with p := { s.p with k := 0 } } : Wk)) (0, 0) _ (by exact H6.X) Try.underlying34 rfl (by kernel_rfl) ?_))
  refine (rEndY ({ s with p := { s.p with k := 0 } } : Wk) _).mono ?_
  rintro en wE ⟨rfl, hbE⟩
  have HE := H6.keep hbE
  clear hbE
  go_wp2_with (first | (refine wpList_store_row rfl 34 _ _ rfl (w.heap.size + 1) (wc ({ s with p := { s.p with k := 0, ln := 0 } } : Wk)) rfl rfl _ _ (by exact HE.Z) (by kernel_rfl) (by kernel_rfl) (by kernel_rfl) ?_))
  have ZF := HE.Z.setRow (wc ({ s with p := { s.p with k := 0, ln := 0 } } : Wk))
  refine bodyPost_ret (v := .tuple #[wv ({ s with p := { s.p with k := 0, ln := 0 } } : Wk), .int .i64 1, .bool true]) ?_ rfl ?_
  · exact Rw.results_cell_slot2 (p := 4) (q := 5) (r := 6) (ty := 34) Try.results29 _ _ (w.heap.size + 1) 34 _ (0, 0) _ rfl ZF Try.underlying34 rfl (by kernel_rfl)
  · exact ⟨rfl, HE.fin _⟩
set_option maxRecDepth 10000 in
set_option maxHeartbeats 4000000 in
theorem rsl31 {B : Nat} {w : World} {g gl cap : Nat} {c : Cfg} {a : Acc} {L : List Int} (M : RefMem B w g c a gl cap L) (s : Wk) (hm : L.length ≤ 1000) (hL : WR L) (hf : c.Wf) (hp : PR s.p) (hl : s.p.ln = 31) : Calls Try.prog 29 #[.pointer (some ⟨g, 0, none⟩), wv s] w (RPost B g gl cap c ⟨acc L 1 0 0 0, L, { s.p with v := ldV L 0, ln := 32 }, 0, true⟩ s w) := by
  have f0 : ∀ s : Wk, (wc s)[0]? = some (.int .i64 s.p.ln) := fun _ => rfl
  have f25 : ∀ s : Wk, (wc s)[25]? = some (.int .u64 s.p.v) := fun _ => rfl
  have d1 : decide (s.p.ln < 30) = false := by simp [hl]
  have d2 : (s.p.ln == 38) = false := by simp [hl]
  have d3 : decide (39 < s.p.ln) = false := by simp [hl]
  have t30 : (s.p.ln == 30) = false := by simp [hl]
  have t31 : (s.p.ln == 31) = true := by simp [hl]
  have H0 := RX.start M s
  have H1 := H0.wipe
  have hba := build_acc0
  have x0 := H0.X.cells
  obtain ⟨w1, hw1⟩ : ∃ u, u = (w.alloc (.cells (wc s) 34)).alloc (.cells (wc wz) 34) := ⟨_, rfl⟩
  rw [← hw1] at H0 H1 x0
  obtain ⟨w2, hw2⟩ : ∃ u, u = w1.setRow g (rc c a0 ⟨some ⟨gl, 0, none⟩, L.length, cap⟩) := ⟨_, rfl⟩
  rw [← hw2] at H1
  have x1 := H1.X.cells
  have l1 := H1.lt
  have HW1 := Lib.hid hw1
  have HW2 := Lib.hid hw2
  clear hl hw1 hw2
  go_enter Try.func29, Try.ntmps29
  go_wp2_with (first | ((with_reducible refine wpList_alloc_wz rfl rfl ?_); rw [← HW1.out]; clear HW1) | ((with_reducible refine Sub.wpList_store_sub rfl 48 _ _ rfl g 9 #[.int .i64 0, .int .i64 0, .int .u64 0, .int .u64 0, .int .u64 0] ?_ ?_ 50 (rc c a ⟨some ⟨gl, 0, none⟩, L.length, cap⟩) (rc c a0 ⟨some ⟨gl, 0, none⟩, L.length, cap⟩) ?_ ?_ ?_ ?_ ?_ ?_); exact rfl; exact rfl; exact H0.M.B; kernel_rfl; exact Nat.le_of_ble_eq_true (by kernel_rfl); kernel_rfl; kernel_rfl; rw [← HW2.out]; clear HW2 H0 x0))
  refine (rload_any H1.M hm _).mono ?_
  rintro en w4 ⟨rfl, Mw4, Tw4⟩
  have H4 := H1.mem Mw4 Tw4
  obtain ⟨v0, hv0⟩ : ∃ v, v = ldV L 0 := ⟨_, rfl⟩
  simp only [← hv0]
  try rw [← hv0] at hv
  try rw [← hv0] at HR
  have HV := Lib.hid hv0
  clear hv0 Mw4 Tw4 H1 x1 l1
  have H5 := H4.set (s' := { s with p := { s.p with v := v0 } }) 25 (.int .u64 v0) rfl
  have xw4 := H4.X.cells
  have zw4 := H4.X.frozen
  have ew4_25 : (w4.cell? ⟨w.heap.size, 25, none⟩).isSome = true := by rw [xw4, f25]; rfl
  have H6 := H5.set (s' := { s with p := { s.p with v := v0, ln := 32 } }) 0 (.int .i64 32) rfl
  have y6 : ((w4.setCell ⟨w.heap.size, 25, none⟩ (.int .u64 v0)).cell? ⟨w.heap.size, 0, none⟩).isSome = true := by rw [H5.X.cells, f0]; rfl
  go_wp2_with (first | (refine wpList_load_row rfl 34 _ rfl w.heap.size rfl _ (wc ({ s with p := { s.p with v := v0, ln := 32 } } : Wk)) (0, 0) _ (by exact H6.X) Try.underlying34 rfl (by kernel_rfl) ?_) | (refine wpList_store_row rfl 34 _ _ rfl (w.heap.size + 1) (wc ({ s with p := { s.p with v := v0, ln := 32 } } : Wk)) rfl rfl _ _ (by exact H6.Z) (by kernel_rfl) (by kernel_rfl) (by kernel_rfl) ?_))
  have ZF := H6.Z.setRow (wc ({ s with p := { s.p with v := v0, ln := 32 } } : Wk))
  refine bodyPost_ret (v := .tuple #[wv ({ s with p := { s.p with v := v0, ln := 32 } } : Wk), .int .i64 0, .bool true]) ?_ rfl ?_
  · exact Rw.results_cell_slot2 (p := 4) (q := 5) (r := 6) (ty := 34) Try.results29 _ _ (w.heap.size + 1) 34 _ (0, 0) _ rfl ZF Try.underlying34 rfl (by kernel_rfl)
  · have e1 := HV.out
    subst e1
    exact ⟨rfl, H6.fin _⟩
set_option maxRecDepth 10000 in
set_option maxHeartbeats 4000000 in
theorem rsl32 {B : Nat} {w : World} {g gl cap : Nat} {c : Cfg} {a : Acc} {L : List Int} (M : RefMem B w g c a gl cap L) (s : Wk) (hm : L.length ≤ 1000) (hL : WR L) (hf : c.Wf) (hp : PR s.p) (hl : s.p.ln = 32) : Calls Try.prog 29 #[.pointer (some ⟨g, 0, none⟩), wv s] w (RPost B g gl cap c ⟨acc L 2 (slHome c s.p.k) (Pk.sl 3 0 s.p.v) 0, stL L (slHome c s.p.k) (Pk.sl 3 0 s.p.v), { s.p with k := 0, ln := 0 }, 1, true⟩ s w) := by
  have HRS := Lib.hid (fun w => Pk.rslab 3 0 s.p.v hp.v.1 hp.v.2 w)
  have f0 : ∀ s : Wk, (wc s)[0]? = some (.int .i64 s.p.ln) := fun _ => rfl
  have f19 : ∀ s : Wk, (wc s)[19]? = some (.int .i64 s.p.k) := fun _ => rfl
  have f25 : ∀ s : Wk, (wc s)[25]? = some (.int .u64 s.p.v) := fun _ => rfl
  have d1 : decide (s.p.ln < 30) = false := by simp [hl]
  have d2 : (s.p.ln == 38) = false := by simp [hl]
  have d3 : decide (39 < s.p.ln) = false := by simp [hl]
  have t30 : (s.p.ln == 30) = false := by simp [hl]
  have t31 : (s.p.ln == 31) = false := by simp [hl]
  have t32 : (s.p.ln == 32) = true := by simp [hl]
  have H0 := RX.start M s
  have H1 := H0.wipe
  have hba := build_acc0
  have x0 := H0.X.cells
  obtain ⟨w1, hw1⟩ : ∃ u, u = (w.alloc (.cells (wc s) 34)).alloc (.cells (wc wz) 34) := ⟨_, rfl⟩
  rw [← hw1] at H0 H1 x0
  obtain ⟨w2, hw2⟩ : ∃ u, u = w1.setRow g (rc c a0 ⟨some ⟨gl, 0, none⟩, L.length, cap⟩) := ⟨_, rfl⟩
  rw [← hw2] at H1
  have x1 := H1.X.cells
  have l1 := H1.lt
  have HW1 := Lib.hid hw1
  have HW2 := Lib.hid hw2
  clear hl hw1 hw2
  go_enter Try.func29, Try.ntmps29
  go_wp2_with (first | ((with_reducible refine wpList_alloc_wz rfl rfl ?_); rw [← HW1.out]; clear HW1) | ((with_reducible refine Sub.wpList_store_sub rfl 48 _ _ rfl g 9 #[.int .i64 0, .int .i64 0, .int .u64 0, .int .u64 0, .int .u64 0] ?_ ?_ 50 (rc c a ⟨some ⟨gl, 0, none⟩, L.length, cap⟩) (rc c a0 ⟨some ⟨gl, 0, none⟩, L.length, cap⟩) ?_ ?_ ?_ ?_ ?_ ?_); exact rfl; exact rfl; exact H0.M.B; kernel_rfl; exact Nat.le_of_ble_eq_true (by kernel_rfl); kernel_rfl; kernel_rfl; rw [← HW2.out]; clear HW2 H0 x0))
  have HHO := Lib.hid (fun (n : Gr w2) i => rHome (H1.M.keep n.2) hf i)
  have hh : aSlab c (aHom c (wrap64 (s.p.k - 1))) = slHome c s.p.k := rfl
  have HH := Lib.hid hh
  have lg2 := H1.M.lt.1
  clear hh
  refine wp_region_grown_tail 9 (by kernel_rfl) (by kernel_rfl) ?_
  simp only [List.take_succ_cons, List.take_zero, List.drop_succ_cons, List.drop_zero]
  have hg := @gcell
  repeat (go_big_quiet_step (first | exact grown_of (HHO.out _ _) | exact grown_same (HRS.out _)))
  refine wpQuiet_nil ?_
  rintro w4 ⟨⟨_, hb4⟩, rfl⟩
  clear hg
  rw [HH.out]
  have H4 := H1.keep hb4
  clear x1 l1 lg2 H1 hb4 HHO
  go_wp2_with fail
  refine (rstore_any H4.M hm _ _).mono ?_
  rintro en w5 ⟨rfl, M5, T5⟩
  have H5 := H4.mem M5 T5
  clear H4 M5 T5
  have H6 := H5.set (s' := { s with p := { s.p with k := 0 } }) 19 (.int .i64 0) rfl
  have xw5 := H5.X.cells
  have zw5 := H5.X.frozen
  have ew5_19 : (w5.cell? ⟨w.heap.size, 19, none⟩).isSome = true := by rw [xw5, f19]; rfl
  go_wp2_with (first | (refine wpList_load_row rfl 34 _ rfl w.heap.size rfl _ (wc ({ s with p := { s.p with k := 0 } } : Wk)) (0, 0) _ (by exact H6.X) Try.underlying34 rfl (by kernel_rfl) ?_))
  refine (rEndY ({ s with p := { s.p with k := 0 } } : Wk) _).mono ?_
  rintro en wE ⟨rfl, hbE⟩
  have HE := H6.keep hbE
  clear hbE
  go_wp2_with (first | (refine wpList_store_row rfl 34 _ _ rfl (w.heap.size + 1) (wc ({ s with p := { s.p with k := 0, ln := 0 } } : Wk)) rfl rfl _ _ (by exact HE.Z) (by kernel_rfl) (by kernel_rfl) (by kernel_rfl) ?_))
  have ZF := HE.Z.setRow (wc ({ s with p := { s.p with k := 0, ln := 0 } } : Wk))
  refine bodyPost_ret (v := .tuple #[wv ({ s with p := { s.p with k := 0, ln := 0 } } : Wk), .int .i64 1, .bool true]) ?_ rfl ?_
  · exact Rw.results_cell_slot2 (p := 4) (q := 5) (r := 6) (ty := 34) Try.results29 _ _ (w.heap.size + 1) 34 _ (0, 0) _ rfl ZF Try.underlying34 rfl (by kernel_rfl)
  · exact ⟨rfl, HE.fin _⟩
set_option maxRecDepth 10000 in
set_option maxHeartbeats 4000000 in
theorem rsl33r {B : Nat} {w : World} {g gl cap : Nat} {c : Cfg} {a : Acc} {L : List Int} (M : RefMem B w g c a gl cap L) (s : Wk) (hm : L.length ≤ 1000) (hL : WR L) (hf : c.Wf) (hp : PR s.p) (hl : s.p.ln = 33) (hr : rdyB (ldV L (aSlab c s.p.j)) s.p.ep = true) : Calls Try.prog 29 #[.pointer (some ⟨g, 0, none⟩), wv s] w (RPost B g gl cap c ⟨acc L 1 (aSlab c s.p.j) 0 0, L, { s.p with v := ldV L (aSlab c s.p.j), ln := 34 }, 0, true⟩ s w) := by
  have hv := ldV_wr hL (aSlab c s.p.j)
  have HR := Lib.hid hr
  have HEP := Lib.hid hp.ep.2
  clear hr
  have f0 : ∀ s : Wk, (wc s)[0]? = some (.int .i64 s.p.ln) := fun _ => rfl
  have f9 : ∀ s : Wk, (wc s)[9]? = some (.int .u64 s.p.ep) := fun _ => rfl
  have f25 : ∀ s : Wk, (wc s)[25]? = some (.int .u64 s.p.v) := fun _ => rfl
  have f28 : ∀ s : Wk, (wc s)[28]? = some (.int .i64 s.p.j) := fun _ => rfl
  have d1 : decide (s.p.ln < 30) = false := by simp [hl]
  have d2 : (s.p.ln == 38) = false := by simp [hl]
  have d3 : decide (39 < s.p.ln) = false := by simp [hl]
  have t30 : (s.p.ln == 30) = false := by simp [hl]
  have t31 : (s.p.ln == 31) = false := by simp [hl]
  have t32 : (s.p.ln == 32) = false := by simp [hl]
  have t33 : (s.p.ln == 33) = true := by simp [hl]
  have H0 := RX.start M s
  have H1 := H0.wipe
  have hba := build_acc0
  have x0 := H0.X.cells
  obtain ⟨w1, hw1⟩ : ∃ u, u = (w.alloc (.cells (wc s) 34)).alloc (.cells (wc wz) 34) := ⟨_, rfl⟩
  rw [← hw1] at H0 H1 x0
  obtain ⟨w2, hw2⟩ : ∃ u, u = w1.setRow g (rc c a0 ⟨some ⟨gl, 0, none⟩, L.length, cap⟩) := ⟨_, rfl⟩
  rw [← hw2] at H1
  have x1 := H1.X.cells
  have l1 := H1.lt
  have HW1 := Lib.hid hw1
  have HW2 := Lib.hid hw2
  clear hl hw1 hw2
  go_enter Try.func29, Try.ntmps29
  go_wp2_with (first | ((with_reducible refine wpList_alloc_wz rfl rfl ?_); rw [← HW1.out]; clear HW1) | ((with_reducible refine Sub.wpList_store_sub rfl 48 _ _ rfl g 9 #[.int .i64 0, .int .i64 0, .int .u64 0, .int .u64 0, .int .u64 0] ?_ ?_ 50 (rc c a ⟨some ⟨gl, 0, none⟩, L.length, cap⟩) (rc c a0 ⟨some ⟨gl, 0, none⟩, L.length, cap⟩) ?_ ?_ ?_ ?_ ?_ ?_); exact rfl; exact rfl; exact H0.M.B; kernel_rfl; exact Nat.le_of_ble_eq_true (by kernel_rfl); kernel_rfl; kernel_rfl; rw [← HW2.out]; clear HW2 H0 x0))
  refine (rSlabA H1.M hf s.p.j).mono ?_
  rintro en w3 ⟨rfl, hb3⟩
  have H3 := H1.keep hb3
  clear x1 l1 H1 hb3
  go_wp2_with fail
  refine (rload_any H3.M hm _).mono ?_
  rintro en w4 ⟨rfl, Mw4, Tw4⟩
  have H4 := H3.mem Mw4 Tw4
  obtain ⟨v0, hv0⟩ : ∃ v, v = ldV L (aSlab c s.p.j) := ⟨_, rfl⟩
  simp only [← hv0]
  try rw [← hv0] at hv
  try rw [← hv0] at HR
  have HV := Lib.hid hv0
  clear hv0 Mw4 Tw4 H3
  have H5 := H4.set (s' := { s with p := { s.p with v := v0 } }) 25 (.int .u64 v0) rfl
  have xw4 := H4.X.cells
  have zw4 := H4.X.frozen
  have ew4_25 : (w4.cell? ⟨w.heap.size, 25, none⟩).isSome = true := by rw [xw4, f25]; rfl
  go_wp2_with fail
  generalize w4.setCell ⟨w.heap.size, 25, none⟩ (.int .u64 v0) = w5 at *
  clear xw4 zw4 ew4_25 H4
  refine (HR.out ▸ rready v0 s.p.ep hv.1 hv.2 HEP.out _).mono ?_
  rintro en w6 ⟨rfl, hb6⟩
  have H6 := H5.keep hb6
  clear H5 hb6 hv
  have H7 := H6.set (s' := { s with p := { s.p with v := v0, ln := 34 } }) 0 (.int .i64 34) rfl
  have xw6 := H6.X.cells
  have zw6 := H6.X.frozen
  have ew6_0 : (w6.cell? ⟨w.heap.size, 0, none⟩).isSome = true := by rw [xw6, f0]; rfl
  go_wp2_with (first | (refine wpList_load_row rfl 34 _ rfl w.heap.size rfl _ (wc ({ s with p := { s.p with v := v0, ln := 34 } } : Wk)) (0, 0) _ (by exact H7.X) Try.underlying34 rfl (by kernel_rfl) ?_) | (refine wpList_store_row rfl 34 _ _ rfl (w.heap.size + 1) (wc ({ s with p := { s.p with v := v0, ln := 34 } } : Wk)) rfl rfl _ _ (by exact H7.Z) (by kernel_rfl) (by kernel_rfl) (by kernel_rfl) ?_))
  have ZF := H7.Z.setRow (wc ({ s with p := { s.p with v := v0, ln := 34 } } : Wk))
  refine bodyPost_ret (v := .tuple #[wv ({ s with p := { s.p with v := v0, ln := 34 } } : Wk), .int .i64 0, .bool true]) ?_ rfl ?_
  · exact Rw.results_cell_slot2 (p := 4) (q := 5) (r := 6) (ty := 34) Try.results29 _ _ (w.heap.size + 1) 34 _ (0, 0) _ rfl ZF Try.underlying34 rfl (by kernel_rfl)
  · have e1 := HV.out
    subst e1
    exact ⟨rfl, H7.fin _⟩
set_option maxRecDepth 10000 in
set_option maxHeartbeats 4000000 in
theorem rsl33g {B : Nat} {w : World} {g gl cap : Nat} {c : Cfg} {a : Acc} {L : List Int} (M : RefMem B w g c a gl cap L) (s : Wk) (hm : L.length ≤ 1000) (hL : WR L) (hf : c.Wf) (hp : PR s.p) (hl : s.p.ln = 33) (hr : rdyB (ldV L (aSlab c s.p.j)) s.p.ep = false) (hj : c.sl ≤ wrap64 (s.p.j + 1)) : Calls Try.prog 29 #[.pointer (some ⟨g, 0, none⟩), wv s] w (RPost B g gl cap c ⟨acc L 1 (aSlab c s.p.j) 0 0, L, { s.p with v := ldV L (aSlab c s.p.j), j := wrap64 (s.p.j + 1), ln := 0 }, 2, true⟩ s w) := by
  have hd : decide (wrap64 (c.sl - 1) ≤ s.p.j) = true := by simp [← slab_last hr, hj]
  clear hj
  have hv := ldV_wr hL (aSlab c s.p.j)
  have HR := Lib.hid hr
  have HEP := Lib.hid hp.ep.2
  clear hr
  have f0 : ∀ s : Wk, (wc s)[0]? = some (.int .i64 s.p.ln) := fun _ => rfl
  have f9 : ∀ s : Wk, (wc s)[9]? = some (.int .u64 s.p.ep) := fun _ => rfl
  have f25 : ∀ s : Wk, (wc s)[25]? = some (.int .u64 s.p.v) := fun _ => rfl
  have f28 : ∀ s : Wk, (wc s)[28]? = some (.int .i64 s.p.j) := fun _ => rfl
  have d1 : decide (s.p.ln < 30) = false := by simp [hl]
  have d2 : (s.p.ln == 38) = false := by simp [hl]
  have d3 : decide (39 < s.p.ln) = false := by simp [hl]
  have t30 : (s.p.ln == 30) = false := by simp [hl]
  have t31 : (s.p.ln == 31) = false := by simp [hl]
  have t32 : (s.p.ln == 32) = false := by simp [hl]
  have t33 : (s.p.ln == 33) = true := by simp [hl]
  have H0 := RX.start M s
  have H1 := H0.wipe
  have hba := build_acc0
  have x0 := H0.X.cells
  obtain ⟨w1, hw1⟩ : ∃ u, u = (w.alloc (.cells (wc s) 34)).alloc (.cells (wc wz) 34) := ⟨_, rfl⟩
  rw [← hw1] at H0 H1 x0
  obtain ⟨w2, hw2⟩ : ∃ u, u = w1.setRow g (rc c a0 ⟨some ⟨gl, 0, none⟩, L.length, cap⟩) := ⟨_, rfl⟩
  rw [← hw2] at H1
  have x1 := H1.X.cells
  have l1 := H1.lt
  have HW1 := Lib.hid hw1
  have HW2 := Lib.hid hw2
  clear hl hw1 hw2
  go_enter Try.func29, Try.ntmps29
  go_wp2_with (first | ((with_reducible refine wpList_alloc_wz rfl rfl ?_); rw [← HW1.out]; clear HW1) | ((with_reducible refine Sub.wpList_store_sub rfl 48 _ _ rfl g 9 #[.int .i64 0, .int .i64 0, .int .u64 0, .int .u64 0, .int .u64 0] ?_ ?_ 50 (rc c a ⟨some ⟨gl, 0, none⟩, L.length, cap⟩) (rc c a0 ⟨some ⟨gl, 0, none⟩, L.length, cap⟩) ?_ ?_ ?_ ?_ ?_ ?_); exact rfl; exact rfl; exact H0.M.B; kernel_rfl; exact Nat.le_of_ble_eq_true (by kernel_rfl); kernel_rfl; kernel_rfl; rw [← HW2.out]; clear HW2 H0 x0))
  refine (rSlabA H1.M hf s.p.j).mono ?_
  rintro en w3 ⟨rfl, hb3⟩
  have H3 := H1.keep hb3
  clear x1 l1 H1 hb3
  go_wp2_with fail
  refine (rload_any H3.M hm _).mono ?_
  rintro en w4 ⟨rfl, Mw4, Tw4⟩
  have H4 := H3.mem Mw4 Tw4
  obtain ⟨v0, hv0⟩ : ∃ v, v = ldV L (aSlab c s.p.j) := ⟨_, rfl⟩
  simp only [← hv0]
  try rw [← hv0] at hv
  try rw [← hv0] at HR
  have HV := Lib.hid hv0
  clear hv0 Mw4 Tw4 H3
  have H5 := H4.set (s' := { s with p := { s.p with v := v0 } }) 25 (.int .u64 v0) rfl
  have xw4 := H4.X.cells
  have zw4 := H4.X.frozen
  have ew4_25 : (w4.cell? ⟨w.heap.size, 25, none⟩).isSome = true := by rw [xw4, f25]; rfl
  go_wp2_with fail
  generalize w4.setCell ⟨w.heap.size, 25, none⟩ (.int .u64 v0) = w5 at *
  clear xw4 zw4 ew4_25 H4
  refine (HR.out ▸ rready v0 s.p.ep hv.1 hv.2 HEP.out _).mono ?_
  rintro en w6 ⟨rfl, hb6⟩
  have H6 := H5.keep hb6
  clear H5 hb6 hv
  have x6 := H6.X.cells
  have m6 := H6.M.B.cells
  have lx6 := H6.lt
  have lg6 := H6.M.lt.1
  go_wp2
  refine wp_region_grown (by kernel_rfl) (by kernel_rfl) ?_
  have hg := @gcell
  repeat (go_big_quiet_step (fail))
  refine wpQuiet_nil ?_
  rintro w7 ⟨⟨_, hb7⟩, rfl⟩
  clear hg
  have H7 := H6.keep hb7
  clear x6 m6 lx6 lg6 H6 hb7
  have H8 := H7.set (s' := { s with p := { s.p with v := v0, j := wrap64 (s.p.j + 1) } }) 28 (.int .i64 (wrap64 (s.p.j + 1))) rfl
  have xw7 := H7.X.cells
  have zw7 := H7.X.frozen
  have ew7_28 : (w7.cell? ⟨w.heap.size, 28, none⟩).isSome = true := by rw [xw7, f28]; rfl
  go_wp2_with (first | (refine wpList_load_row rfl 34 _ rfl w.heap.size rfl _ (wc ({ s with p := { s.p with v := v0, j := wrap64 (s.p.j + 1) } } : Wk)) (0, 0) _ (by exact H8.X) Try.underlying34 rfl (by kernel_rfl) ?_))
  refine (rEndN ({ s with p := { s.p with v := v0, j := wrap64 (s.p.j + 1) } } : Wk) _).mono ?_
  rintro en wE ⟨rfl, hbE⟩
  have HE := H8.keep hbE
  clear hbE
  go_wp2_with (first | (refine wpList_store_row rfl 34 _ _ rfl (w.heap.size + 1) (wc ({ s with p := { s.p with v := v0, j := wrap64 (s.p.j + 1), ln := 0 } } : Wk)) rfl rfl _ _ (by exact HE.Z) (by kernel_rfl) (by kernel_rfl) (by kernel_rfl) ?_))
  have ZF := HE.Z.setRow (wc ({ s with p := { s.p with v := v0, j := wrap64 (s.p.j + 1), ln := 0 } } : Wk))
  refine bodyPost_ret (v := .tuple #[wv ({ s with p := { s.p with v := v0, j := wrap64 (s.p.j + 1), ln := 0 } } : Wk), .int .i64 2, .bool true]) ?_ rfl ?_
  · exact Rw.results_cell_slot2 (p := 4) (q := 5) (r := 6) (ty := 34) Try.results29 _ _ (w.heap.size + 1) 34 _ (0, 0) _ rfl ZF Try.underlying34 rfl (by kernel_rfl)
  · have e1 := HV.out
    subst e1
    exact ⟨rfl, HE.fin _⟩
set_option maxRecDepth 10000 in
set_option maxHeartbeats 4000000 in
theorem rsl33n {B : Nat} {w : World} {g gl cap : Nat} {c : Cfg} {a : Acc} {L : List Int} (M : RefMem B w g c a gl cap L) (s : Wk) (hm : L.length ≤ 1000) (hL : WR L) (hf : c.Wf) (hp : PR s.p) (hl : s.p.ln = 33) (hr : rdyB (ldV L (aSlab c s.p.j)) s.p.ep = false) (hj : ¬ c.sl ≤ wrap64 (s.p.j + 1)) : Calls Try.prog 29 #[.pointer (some ⟨g, 0, none⟩), wv s] w (RPost B g gl cap c ⟨acc L 1 (aSlab c s.p.j) 0 0, L, { s.p with v := ldV L (aSlab c s.p.j), j := wrap64 (s.p.j + 1) }, 0, true⟩ s w) := by
  have hd : decide (wrap64 (c.sl - 1) ≤ s.p.j) = false := by simp [← slab_last hr, hj]
  clear hj
  have hv := ldV_wr hL (aSlab c s.p.j)
  have HR := Lib.hid hr
  have HEP := Lib.hid hp.ep.2
  clear hr
  have f0 : ∀ s : Wk, (wc s)[0]? = some (.int .i64 s.p.ln) := fun _ => rfl
  have f9 : ∀ s : Wk, (wc s)[9]? = some (.int .u64 s.p.ep) := fun _ => rfl
  have f25 : ∀ s : Wk, (wc s)[25]? = some (.int .u64 s.p.v) := fun _ => rfl
  have f28 : ∀ s : Wk, (wc s)[28]? = some (.int .i64 s.p.j) := fun _ => rfl
  have d1 : decide (s.p.ln < 30) = false := by simp [hl]
  have d2 : (s.p.ln == 38) = false := by simp [hl]
  have d3 : decide (39 < s.p.ln) = false := by simp [hl]
  have t30 : (s.p.ln == 30) = false := by simp [hl]
  have t31 : (s.p.ln == 31) = false := by simp [hl]
  have t32 : (s.p.ln == 32) = false := by simp [hl]
  have t33 : (s.p.ln == 33) = true := by simp [hl]
  have H0 := RX.start M s
  have H1 := H0.wipe
  have hba := build_acc0
  have x0 := H0.X.cells
  obtain ⟨w1, hw1⟩ : ∃ u, u = (w.alloc (.cells (wc s) 34)).alloc (.cells (wc wz) 34) := ⟨_, rfl⟩
  rw [← hw1] at H0 H1 x0
  obtain ⟨w2, hw2⟩ : ∃ u, u = w1.setRow g (rc c a0 ⟨some ⟨gl, 0, none⟩, L.length, cap⟩) := ⟨_, rfl⟩
  rw [← hw2] at H1
  have x1 := H1.X.cells
  have l1 := H1.lt
  have HW1 := Lib.hid hw1
  have HW2 := Lib.hid hw2
  clear hl hw1 hw2
  go_enter Try.func29, Try.ntmps29
  go_wp2_with (first | ((with_reducible refine wpList_alloc_wz rfl rfl ?_); rw [← HW1.out]; clear HW1) | ((with_reducible refine Sub.wpList_store_sub rfl 48 _ _ rfl g 9 #[.int .i64 0, .int .i64 0, .int .u64 0, .int .u64 0, .int .u64 0] ?_ ?_ 50 (rc c a ⟨some ⟨gl, 0, none⟩, L.length, cap⟩) (rc c a0 ⟨some ⟨gl, 0, none⟩, L.length, cap⟩) ?_ ?_ ?_ ?_ ?_ ?_); exact rfl; exact rfl; exact H0.M.B; kernel_rfl; exact Nat.le_of_ble_eq_true (by kernel_rfl); kernel_rfl; kernel_rfl; rw [← HW2.out]; clear HW2 H0 x0))
  refine (rSlabA H1.M hf s.p.j).mono ?_
  rintro en w3 ⟨rfl, hb3⟩
  have H3 := H1.keep hb3
  clear x1 l1 H1 hb3
  go_wp2_with fail
  refine (rload_any H3.M hm _).mono ?_
  rintro en w4 ⟨rfl, Mw4, Tw4⟩
  have H4 := H3.mem Mw4 Tw4
  obtain ⟨v0, hv0⟩ : ∃ v, v = ldV L (aSlab c s.p.j) := ⟨_, rfl⟩
  simp only [← hv0]
  try rw [← hv0] at hv
  try rw [← hv0] at HR
  have HV := Lib.hid hv0
  clear hv0 Mw4 Tw4 H3
  have H5 := H4.set (s' := { s with p := { s.p with v := v0 } }) 25 (.int .u64 v0) rfl
  have xw4 := H4.X.cells
  have zw4 := H4.X.frozen
  have ew4_25 : (w4.cell? ⟨w.heap.size, 25, none⟩).isSome = true := by rw [xw4, f25]; rfl
  go_wp2_with fail
  generalize w4.setCell ⟨w.heap.size, 25, none⟩ (.int .u64 v0) = w5 at *
  clear xw4 zw4 ew4_25 H4
  refine (HR.out ▸ rready v0 s.p.ep hv.1 hv.2 HEP.out _).mono ?_
  rintro en w6 ⟨rfl, hb6⟩
  have H6 := H5.keep hb6
  clear H5 hb6 hv
  have x6 := H6.X.cells
  have m6 := H6.M.B.cells
  have lx6 := H6.lt
  have lg6 := H6.M.lt.1
  go_wp2
  refine wp_region_grown (by kernel_rfl) (by kernel_rfl) ?_
  have hg := @gcell
  repeat (go_big_quiet_step (fail))
  refine wpQuiet_nil ?_
  rintro w7 ⟨⟨_, hb7⟩, rfl⟩
  clear hg
  have H7 := H6.keep hb7
  clear x6 m6 lx6 lg6 H6 hb7
  have H8 := H7.set (s' := { s with p := { s.p with v := v0, j := wrap64 (s.p.j + 1) } }) 28 (.int .i64 (wrap64 (s.p.j + 1))) rfl
  have xw7 := H7.X.cells
  have zw7 := H7.X.frozen
  have ew7_28 : (w7.cell? ⟨w.heap.size, 28, none⟩).isSome = true := by rw [xw7, f28]; rfl
  go_wp2_with (first | (refine wpList_load_row rfl 34 _ rfl w.heap.size rfl _ (wc ({ s with p := { s.p with v := v0, j := wrap64 (s.p.j + 1) } } : Wk)) (0, 0) _ (by exact H8.X) Try.underlying34 rfl (by kernel_rfl) ?_) | (refine wpList_store_row rfl 34 _ _ rfl (w.heap.size + 1) (wc ({ s with p := { s.p with v := v0, j := wrap64 (s.p.j + 1) } } : Wk)) rfl rfl _ _ (by exact H8.Z) (by kernel_rfl) (by kernel_rfl) (by kernel_rfl) ?_))
  have ZF := H8.Z.setRow (wc ({ s with p := { s.p with v := v0, j := wrap64 (s.p.j + 1) } } : Wk))
  refine bodyPost_ret (v := .tuple #[wv ({ s with p := { s.p with v := v0, j := wrap64 (s.p.j + 1) } } : Wk), .int .i64 0, .bool true]) ?_ rfl ?_
  · exact Rw.results_cell_slot2 (p := 4) (q := 5) (r := 6) (ty := 34) Try.results29 _ _ (w.heap.size + 1) 34 _ (0, 0) _ rfl ZF Try.underlying34 rfl (by kernel_rfl)
  · have e1 := HV.out
    subst e1
    exact ⟨rfl, H8.fin _⟩
set_option maxRecDepth 10000 in
set_option maxHeartbeats 4000000 in
theorem rsl34y {B : Nat} {w : World} {g gl cap : Nat} {c : Cfg} {a : Acc} {L : List Int} (M : RefMem B w g c a gl cap L) (s : Wk) (hm : L.length ≤ 1000) (hL : WR L) (hf : c.Wf) (hp : PR s.p) (hl : s.p.ln = 34) (hb : csB L (aSlab c s.p.j) s.p.v = true) : Calls Try.prog 29 #[.pointer (some ⟨g, 0, none⟩), wv s] w (RPost B g gl cap c ⟨acc L 3 (aSlab c s.p.j) s.p.v 1, csL L (aSlab c s.p.j) s.p.v 1, { s.p with ln := 0 }, 1, true⟩ s w) := by
  have HB := Lib.hid hb
  clear hb
  have f0 : ∀ s : Wk, (wc s)[0]? = some (.int .i64 s.p.ln) := fun _ => rfl
  have f25 : ∀ s : Wk, (wc s)[25]? = some (.int .u64 s.p.v) := fun _ => rfl
  have f28 : ∀ s : Wk, (wc s)[28]? = some (.int .i64 s.p.j) := fun _ => rfl
  have d1 : decide (s.p.ln < 30) = false := by simp [hl]
  have d2 : (s.p.ln == 38) = false := by simp [hl]
  have d3 : decide (39 < s.p.ln) = false := by simp [hl]
  have t30 : (s.p.ln == 30) = false := by simp [hl]
  have t31 : (s.p.ln == 31) = false := by simp [hl]
  have t32 : (s.p.ln == 32) = false := by simp [hl]
  have t33 : (s.p.ln == 33) = false := by simp [hl]
  have t34 : (s.p.ln == 34) = true := by simp [hl]
  have H0 := RX.start M s
  have H1 := H0.wipe
  have hba := build_acc0
  have x0 := H0.X.cells
  obtain ⟨w1, hw1⟩ : ∃ u, u = (w.alloc (.cells (wc s) 34)).alloc (.cells (wc wz) 34) := ⟨_, rfl⟩
  rw [← hw1] at H0 H1 x0
  obtain ⟨w2, hw2⟩ : ∃ u, u = w1.setRow g (rc c a0 ⟨some ⟨gl, 0, none⟩, L.length, cap⟩) := ⟨_, rfl⟩
  rw [← hw2] at H1
  have x1 := H1.X.cells
  have l1 := H1.lt
  have HW1 := Lib.hid hw1
  have HW2 := Lib.hid hw2
  clear hl hw1 hw2
  go_enter Try.func29, Try.ntmps29
  go_wp2_with (first | ((with_reducible refine wpList_alloc_wz rfl rfl ?_); rw [← HW1.out]; clear HW1) | ((with_reducible refine Sub.wpList_store_sub rfl 48 _ _ rfl g 9 #[.int .i64 0, .int .i64 0, .int .u64 0, .int .u64 0, .int .u64 0] ?_ ?_ 50 (rc c a ⟨some ⟨gl, 0, none⟩, L.length, cap⟩) (rc c a0 ⟨some ⟨gl, 0, none⟩, L.length, cap⟩) ?_ ?_ ?_ ?_ ?_ ?_); exact rfl; exact rfl; exact H0.M.B; kernel_rfl; exact Nat.le_of_ble_eq_true (by kernel_rfl); kernel_rfl; kernel_rfl; rw [← HW2.out]; clear HW2 H0 x0))
  have HSA := Lib.hid (fun (n : Gr w2) i => rSlabA (H1.M.keep n.2) hf i)
  have lg2 := H1.M.lt.1
  refine wp_region_grown_tail 7 (by kernel_rfl) (by kernel_rfl) ?_
  simp only [List.take_succ_cons, List.take_zero, List.drop_succ_cons, List.drop_zero]
  have hg := @gcell
  repeat (go_big_quiet_step (exact grown_of (HSA.out _ _)))
  refine wpQuiet_nil ?_
  rintro w4 ⟨⟨_, hb4⟩, rfl⟩
  clear hg
  have H4 := H1.keep hb4
  have hcas := rcas_any H4.M hm (aSlab c s.p.j) s.p.v 1
  rw [HB.out] at hcas
  have HCA := Lib.hid hcas
  clear hcas x1 l1 lg2 H1 hb4 HSA
  go_wp2_with fail
  refine HCA.out.mono ?_
  rintro en w5 ⟨rfl, M5, T5⟩
  have H5 := H4.mem M5 T5
  clear HCA H4 M5 T5
  go_wp2_with (first | (refine wpList_load_row rfl 34 _ rfl w.heap.size rfl _ (wc (s : Wk)) (0, 0) _ (by exact H5.X) Try.underlying34 rfl (by kernel_rfl) ?_))
  refine (rEndY (s : Wk) _).mono ?_
  rintro en wE ⟨rfl, hbE⟩
  have HE := H5.keep hbE
  clear hbE
  go_wp2_with (first | (refine wpList_store_row rfl 34 _ _ rfl (w.heap.size + 1) (wc ({ s with p := { s.p with ln := 0 } } : Wk)) rfl rfl _ _ (by exact HE.Z) (by kernel_rfl) (by kernel_rfl) (by kernel_rfl) ?_))
  have ZF := HE.Z.setRow (wc ({ s with p := { s.p with ln := 0 } } : Wk))
  refine bodyPost_ret (v := .tuple #[wv ({ s with p := { s.p with ln := 0 } } : Wk), .int .i64 1, .bool true]) ?_ rfl ?_
  · exact Rw.results_cell_slot2 (p := 4) (q := 5) (r := 6) (ty := 34) Try.results29 _ _ (w.heap.size + 1) 34 _ (0, 0) _ rfl ZF Try.underlying34 rfl (by kernel_rfl)
  · exact ⟨rfl, HE.fin _⟩
set_option maxRecDepth 10000 in
set_option maxHeartbeats 4000000 in
theorem rsl34n {B : Nat} {w : World} {g gl cap : Nat} {c : Cfg} {a : Acc} {L : List Int} (M : RefMem B w g c a gl cap L) (s : Wk) (hm : L.length ≤ 1000) (hL : WR L) (hf : c.Wf) (hp : PR s.p) (hl : s.p.ln = 34) (hb : csB L (aSlab c s.p.j) s.p.v = false) : Calls Try.prog 29 #[.pointer (some ⟨g, 0, none⟩), wv s] w (RPost B g gl cap c ⟨acc L 3 (aSlab c s.p.j) s.p.v 1, csL L (aSlab c s.p.j) s.p.v 1, { s.p with ln := 33 }, 0, true⟩ s w) := by
  have HB := Lib.hid hb
  clear hb
  have f0 : ∀ s : Wk, (wc s)[0]? = some (.int .i64 s.p.ln) := fun _ => rfl
  have f25 : ∀ s : Wk, (wc s)[25]? = some (.int .u64 s.p.v) := fun _ => rfl
  have f28 : ∀ s : Wk, (wc s)[28]? = some (.int .i64 s.p.j) := fun _ => rfl
  have d1 : decide (s.p.ln < 30) = false := by simp [hl]
  have d2 : (s.p.ln == 38) = false := by simp [hl]
  have d3 : decide (39 < s.p.ln) = false := by simp [hl]
  have t30 : (s.p.ln == 30) = false := by simp [hl]
  have t31 : (s.p.ln == 31) = false := by simp [hl]
  have t32 : (s.p.ln == 32) = false := by simp [hl]
  have t33 : (s.p.ln == 33) = false := by simp [hl]
  have t34 : (s.p.ln == 34) = true := by simp [hl]
  have H0 := RX.start M s
  have H1 := H0.wipe
  have hba := build_acc0
  have x0 := H0.X.cells
  obtain ⟨w1, hw1⟩ : ∃ u, u = (w.alloc (.cells (wc s) 34)).alloc (.cells (wc wz) 34) := ⟨_, rfl⟩
  rw [← hw1] at H0 H1 x0
  obtain ⟨w2, hw2⟩ : ∃ u, u = w1.setRow g (rc c a0 ⟨some ⟨gl, 0, none⟩, L.length, cap⟩) := ⟨_, rfl⟩
  rw [← hw2] at H1
  have x1 := H1.X.cells
  have l1 := H1.lt
  have HW1 := Lib.hid hw1
  have HW2 := Lib.hid hw2
  clear hl hw1 hw2
  go_enter Try.func29, Try.ntmps29
  go_wp2_with (first | ((with_reducible refine wpList_alloc_wz rfl rfl ?_); rw [← HW1.out]; clear HW1) | ((with_reducible refine Sub.wpList_store_sub rfl 48 _ _ rfl g 9 #[.int .i64 0, .int .i64 0, .int .u64 0, .int .u64 0, .int .u64 0] ?_ ?_ 50 (rc c a ⟨some ⟨gl, 0, none⟩, L.length, cap⟩) (rc c a0 ⟨some ⟨gl, 0, none⟩, L.length, cap⟩) ?_ ?_ ?_ ?_ ?_ ?_); exact rfl; exact rfl; exact H0.M.B; kernel_rfl; exact Nat.le_of_ble_eq_true (by kernel_rfl); kernel_rfl; kernel_rfl; rw [← HW2.out]; clear HW2 H0 x0))
  have HSA := Lib.hid (fun (n : Gr w2) i => rSlabA (H1.M.keep n.2) hf i)
  have lg2 := H1.M.lt.1
  refine wp_region_grown_tail 7 (by kernel_rfl) (by kernel_rfl) ?_
  simp only [List.take_succ_cons, List.take_zero, List.drop_succ_cons, List.drop_zero]
  have hg := @gcell
  repeat (go_big_quiet_step (exact grown_of (HSA.out _ _)))
  refine wpQuiet_nil ?_
  rintro w4 ⟨⟨_, hb4⟩, rfl⟩
  clear hg
  have H4 := H1.keep hb4
  have hcas := rcas_any H4.M hm (aSlab c s.p.j) s.p.v 1
  rw [HB.out] at hcas
  have HCA := Lib.hid hcas
  clear hcas x1 l1 lg2 H1 hb4 HSA
  go_wp2_with fail
  refine HCA.out.mono ?_
  rintro en w5 ⟨rfl, M5, T5⟩
  have H5 := H4.mem M5 T5
  clear HCA H4 M5 T5
  have H6 := H5.set (s' := { s with p := { s.p with ln := 33 } }) 0 (.int .i64 33) rfl
  have xw5 := H5.X.cells
  have zw5 := H5.X.frozen
  have ew5_0 : (w5.cell? ⟨w.heap.size, 0, none⟩).isSome = true := by rw [xw5, f0]; rfl
  go_wp2_with (first | (refine wpList_load_row rfl 34 _ rfl w.heap.size rfl _ (wc ({ s with p := { s.p with ln := 33 } } : Wk)) (0, 0) _ (by exact H6.X) Try.underlying34 rfl (by kernel_rfl) ?_) | (refine wpList_store_row rfl 34 _ _ rfl (w.heap.size + 1) (wc ({ s with p := { s.p with ln := 33 } } : Wk)) rfl rfl _ _ (by exact H6.Z) (by kernel_rfl) (by kernel_rfl) (by kernel_rfl) ?_))
  have ZF := H6.Z.setRow (wc ({ s with p := { s.p with ln := 33 } } : Wk))
  refine bodyPost_ret (v := .tuple #[wv ({ s with p := { s.p with ln := 33 } } : Wk), .int .i64 0, .bool true]) ?_ rfl ?_
  · exact Rw.results_cell_slot2 (p := 4) (q := 5) (r := 6) (ty := 34) Try.results29 _ _ (w.heap.size + 1) 34 _ (0, 0) _ rfl ZF Try.underlying34 rfl (by kernel_rfl)
  · exact ⟨rfl, H6.fin _⟩
set_option maxRecDepth 10000 in
set_option maxHeartbeats 4000000 in
theorem rsl37y {B : Nat} {w : World} {g gl cap : Nat} {c : Cfg} {a : Acc} {L : List Int} (M : RefMem B w g c a gl cap L) (s : Wk) (hm : L.length ≤ 1000) (hL : WR L) (hf : c.Wf) (hp : PR s.p) (hl : s.p.ln = 37) (hb : csB L (aSlab c s.p.o3) s.p.v = true) : Calls Try.prog 29 #[.pointer (some ⟨g, 0, none⟩), wv s] w (RPost B g gl cap c ⟨acc L 3 (aSlab c s.p.o3) s.p.v 2, csL L (aSlab c s.p.o3) s.p.v 2, { s.p with ln := 0 }, 1, true⟩ s w) := by
  have HB := Lib.hid hb
  clear hb
  have f0 : ∀ s : Wk, (wc s)[0]? = some (.int .i64 s.p.ln) := fun _ => rfl
  have f1 : ∀ s : Wk, (wc s)[1]? = some (.int .i64 s.p.o0) := fun _ => rfl
  have f4 : ∀ s : Wk, (wc s)[4]? = some (.int .i64 s.p.o3) := fun _ => rfl
  have f25 : ∀ s : Wk, (wc s)[25]? = some (.int .u64 s.p.v) := fun _ => rfl
  have d1 : decide (s.p.ln < 30) = false := by simp [hl]
  have d2 : (s.p.ln == 38) = false := by simp [hl]
  have d3 : decide (39 < s.p.ln) = false := by simp [hl]
  have t30 : (s.p.ln == 30) = false := by simp [hl]
  have t31 : (s.p.ln == 31) = false := by simp [hl]
  have t32 : (s.p.ln == 32) = false := by simp [hl]
  have t33 : (s.p.ln == 33) = false := by simp [hl]
  have t34 : (s.p.ln == 34) = false := by simp [hl]
  have t35 : (s.p.ln == 35) = false := by simp [hl]
  have t36 : (s.p.ln == 36) = false := by simp [hl]
  have t37 : (s.p.ln == 37) = true := by simp [hl]
  have H0 := RX.start M s
  have H1 := H0.wipe
  have hba := build_acc0
  have x0 := H0.X.cells
  obtain ⟨w1, hw1⟩ : ∃ u, u = (w.alloc (.cells (wc s) 34)).alloc (.cells (wc wz) 34) := ⟨_, rfl⟩
  rw [← hw1] at H0 H1 x0
  obtain ⟨w2, hw2⟩ : ∃ u, u = w1.setRow g (rc c a0 ⟨some ⟨gl, 0, none⟩, L.length, cap⟩) := ⟨_, rfl⟩
  rw [← hw2] at H1
  have x1 := H1.X.cells
  have l1 := H1.lt
  have HW1 := Lib.hid hw1
  have HW2 := Lib.hid hw2
  clear hl hw1 hw2
  go_enter Try.func29, Try.ntmps29
  go_wp2_with (first | ((with_reducible refine wpList_alloc_wz rfl rfl ?_); rw [← HW1.out]; clear HW1) | ((with_reducible refine Sub.wpList_store_sub rfl 48 _ _ rfl g 9 #[.int .i64 0, .int .i64 0, .int .u64 0, .int .u64 0, .int .u64 0] ?_ ?_ 50 (rc c a ⟨some ⟨gl, 0, none⟩, L.length, cap⟩) (rc c a0 ⟨some ⟨gl, 0, none⟩, L.length, cap⟩) ?_ ?_ ?_ ?_ ?_ ?_); exact rfl; exact rfl; exact H0.M.B; kernel_rfl; exact Nat.le_of_ble_eq_true (by kernel_rfl); kernel_rfl; kernel_rfl; rw [← HW2.out]; clear HW2 H0 x0))
  have HSA := Lib.hid (fun (n : Gr w2) i => rSlabA (H1.M.keep n.2) hf i)
  have lg2 := H1.M.lt.1
  refine wp_region_grown_tail 8 (by kernel_rfl) (by kernel_rfl) ?_
  simp only [List.take_succ_cons, List.take_zero, List.drop_succ_cons, List.drop_zero]
  have hg := @gcell
  repeat (go_big_quiet_step (exact grown_of (HSA.out _ _)))
  refine wpQuiet_nil ?_
  rintro w4 ⟨⟨_, hb4⟩, rfl⟩
  clear hg
  have H4 := H1.keep hb4
  have hcas := rcas_any H4.M hm (aSlab c s.p.o3) s.p.v 2
  rw [HB.out] at hcas
  have HCA := Lib.hid hcas
  clear hcas x1 l1 lg2 H1 hb4 HSA
  go_wp2_with fail
  refine HCA.out.mono ?_
  rintro en w5 ⟨rfl, M5, T5⟩
  have H5 := H4.mem M5 T5
  clear HCA H4 M5 T5
  go_wp2_with (first | (refine wpList_load_row rfl 34 _ rfl w.heap.size rfl _ (wc (s : Wk)) (0, 0) _ (by exact H5.X) Try.underlying34 rfl (by kernel_rfl) ?_))
  refine (rEndY (s : Wk) _).mono ?_
  rintro en wE ⟨rfl, hbE⟩
  have HE := H5.keep hbE
  clear hbE
  go_wp2_with (first | (refine wpList_store_row rfl 34 _ _ rfl (w.heap.size + 1) (wc ({ s with p := { s.p with ln := 0 } } : Wk)) rfl rfl _ _ (by exact HE.Z) (by kernel_rfl) (by kernel_rfl) (by kernel_rfl) ?_))
  have ZF := HE.Z.setRow (wc ({ s with p := { s.p with ln := 0 } } : Wk))
  refine bodyPost_ret (v := .tuple #[wv ({ s with p := { s.p with ln := 0 } } : Wk), .int .i64 1, .bool true]) ?_ rfl ?_
  · exact Rw.results_cell_slot2 (p := 4) (q := 5) (r := 6) (ty := 34) Try.results29 _ _ (w.heap.size + 1) 34 _ (0, 0) _ rfl ZF Try.underlying34 rfl (by kernel_rfl)
  · exact ⟨rfl, HE.fin _⟩
set_option maxRecDepth 10000 in
set_option maxHeartbeats 4000000 in
theorem rsl37n {B : Nat} {w : World} {g gl cap : Nat} {c : Cfg} {a : Acc} {L : List Int} (M : RefMem B w g c a gl cap L) (s : Wk) (hm : L.length ≤ 1000) (hL : WR L) (hf : c.Wf) (hp : PR s.p) (hl : s.p.ln = 37) (hb : csB L (aSlab c s.p.o3) s.p.v = false) : Calls Try.prog 29 #[.pointer (some ⟨g, 0, none⟩), wv s] w (RPost B g gl cap c ⟨acc L 3 (aSlab c s.p.o3) s.p.v 2, csL L (aSlab c s.p.o3) s.p.v 2, { s.p with ln := 36 }, 0, true⟩ s w) := by
  have HB := Lib.hid hb
  clear hb
  have f0 : ∀ s : Wk, (wc s)[0]? = some (.int .i64 s.p.ln) := fun _ => rfl
  have f1 : ∀ s : Wk, (wc s)[1]? = some (.int .i64 s.p.o0) := fun _ => rfl
  have f4 : ∀ s : Wk, (wc s)[4]? = some (.int .i64 s.p.o3) := fun _ => rfl
  have f25 : ∀ s : Wk, (wc s)[25]? = some (.int .u64 s.p.v) := fun _ => rfl
  have d1 : decide (s.p.ln < 30) = false := by simp [hl]
  have d2 : (s.p.ln == 38) = false := by simp [hl]
  have d3 : decide (39 < s.p.ln) = false := by simp [hl]
  have t30 : (s.p.ln == 30) = false := by simp [hl]
  have t31 : (s.p.ln == 31) = false := by simp [hl]
  have t32 : (s.p.ln == 32) = false := by simp [hl]
  have t33 : (s.p.ln == 33) = false := by simp [hl]
  have t34 : (s.p.ln == 34) = false := by simp [hl]
  have t35 : (s.p.ln == 35) = false := by simp [hl]
  have t36 : (s.p.ln == 36) = false := by simp [hl]
  have t37 : (s.p.ln == 37) = true := by simp [hl]
  have H0 := RX.start M s
  have H1 := H0.wipe
  have hba := build_acc0
  have x0 := H0.X.cells
  obtain ⟨w1, hw1⟩ : ∃ u, u = (w.alloc (.cells (wc s) 34)).alloc (.cells (wc wz) 34) := ⟨_, rfl⟩
  rw [← hw1] at H0 H1 x0
  obtain ⟨w2, hw2⟩ : ∃ u, u = w1.setRow g (rc c a0 ⟨some ⟨gl, 0, none⟩, L.length, cap⟩) := ⟨_, rfl⟩
  rw [← hw2] at H1
  have x1 := H1.X.cells
  have l1 := H1.lt
  have HW1 := Lib.hid hw1
  have HW2 := Lib.hid hw2
  clear hl hw1 hw2
  go_enter Try.func29, Try.ntmps29
  go_wp2_with (first | ((with_reducible refine wpList_alloc_wz rfl rfl ?_); rw [← HW1.out]; clear HW1) | ((with_reducible refine Sub.wpList_store_sub rfl 48 _ _ rfl g 9 #[.int .i64 0, .int .i64 0, .int .u64 0, .int .u64 0, .int .u64 0] ?_ ?_ 50 (rc c a ⟨some ⟨gl, 0, none⟩, L.length, cap⟩) (rc c a0 ⟨some ⟨gl, 0, none⟩, L.length, cap⟩) ?_ ?_ ?_ ?_ ?_ ?_); exact rfl; exact rfl; exact H0.M.B; kernel_rfl; exact Nat.le_of_ble_eq_true (by kernel_rfl); kernel_rfl; kernel_rfl; rw [← HW2.out]; clear HW2 H0 x0))
  have HSA := Lib.hid (fun (n : Gr w2) i => rSlabA (H1.M.keep n.2) hf i)
  have lg2 := H1.M.lt.1
  refine wp_region_grown_tail 8 (by kernel_rfl) (by kernel_rfl) ?_
  simp only [List.take_succ_cons, List.take_zero, List.drop_succ_cons, List.drop_zero]
  have hg := @gcell
  repeat (go_big_quiet_step (exact grown_of (HSA.out _ _)))
  refine wpQuiet_nil ?_
  rintro w4 ⟨⟨_, hb4⟩, rfl⟩
  clear hg
  have H4 := H1.keep hb4
  have hcas := rcas_any H4.M hm (aSlab c s.p.o3) s.p.v 2
  rw [HB.out] at hcas
  have HCA := Lib.hid hcas
  clear hcas x1 l1 lg2 H1 hb4 HSA
  go_wp2_with fail
  refine HCA.out.mono ?_
  rintro en w5 ⟨rfl, M5, T5⟩
  have H5 := H4.mem M5 T5
  clear HCA H4 M5 T5
  have H6 := H5.set (s' := { s with p := { s.p with ln := 36 } }) 0 (.int .i64 36) rfl
  have xw5 := H5.X.cells
  have zw5 := H5.X.frozen
  have ew5_0 : (w5.cell? ⟨w.heap.size, 0, none⟩).isSome = true := by rw [xw5, f0]; rfl
  go_wp2_with (first | (refine wpList_load_row rfl 34 _ rfl w.heap.size rfl _ (wc ({ s with p := { s.p with ln := 36 } } : Wk)) (0, 0) _ (by exact H6.X) Try.underlying34 rfl (by kernel_rfl) ?_) | (refine wpList_store_row rfl 34 _ _ rfl (w.heap.size + 1) (wc ({ s with p := { s.p with ln := 36 } } : Wk)) rfl rfl _ _ (by exact H6.Z) (by kernel_rfl) (by kernel_rfl) (by kernel_rfl) ?_))
  have ZF := H6.Z.setRow (wc ({ s with p := { s.p with ln := 36 } } : Wk))
  refine bodyPost_ret (v := .tuple #[wv ({ s with p := { s.p with ln := 36 } } : Wk), .int .i64 0, .bool true]) ?_ rfl ?_
  · exact Rw.results_cell_slot2 (p := 4) (q := 5) (r := 6) (ty := 34) Try.results29 _ _ (w.heap.size + 1) 34 _ (0, 0) _ rfl ZF Try.underlying34 rfl (by kernel_rfl)
  · exact ⟨rfl, H6.fin _⟩
set_option maxRecDepth 10000 in
set_option maxHeartbeats 4000000 in
theorem rsl35y {B : Nat} {w : World} {g gl cap : Nat} {c : Cfg} {a : Acc} {L : List Int} (M : RefMem B w g c a gl cap L) (s : Wk) (hm : L.length ≤ 1000) (hL : WR L) (hf : c.Wf) (hp : PR s.p) (hl : s.p.ln = 35) (hs : ldV L (slHome c s.p.b) % 16 = 2) : Calls Try.prog 29 #[.pointer (some ⟨g, 0, none⟩), wv s] w (RPost B g gl cap c ⟨acc L 1 (slHome c s.p.b) 0 0, L, { s.p with ln := 0 }, 2, true⟩ s w) := by
  have HR := Lib.hid hs
  have hv := ldV_wr hL (slHome c s.p.b)
  clear hs
  have f0 : ∀ s : Wk, (wc s)[0]? = some (.int .i64 s.p.ln) := fun _ => rfl
  have f18 : ∀ s : Wk, (wc s)[18]? = some (.int .i64 s.p.b) := fun _ => rfl
  have d1 : decide (s.p.ln < 30) = false := by simp [hl]
  have d2 : (s.p.ln == 38) = false := by simp [hl]
  have d3 : decide (39 < s.p.ln) = false := by simp [hl]
  have t30 : (s.p.ln == 30) = false := by simp [hl]
  have t31 : (s.p.ln == 31) = false := by simp [hl]
  have t32 : (s.p.ln == 32) = false := by simp [hl]
  have t33 : (s.p.ln == 33) = false := by simp [hl]
  have t34 : (s.p.ln == 34) = false := by simp [hl]
  have t35 : (s.p.ln == 35) = true := by simp [hl]
  have H0 := RX.start M s
  have H1 := H0.wipe
  have hba := build_acc0
  have x0 := H0.X.cells
  obtain ⟨w1, hw1⟩ : ∃ u, u = (w.alloc (.cells (wc s) 34)).alloc (.cells (wc wz) 34) := ⟨_, rfl⟩
  rw [← hw1] at H0 H1 x0
  obtain ⟨w2, hw2⟩ : ∃ u, u = w1.setRow g (rc c a0 ⟨some ⟨gl, 0, none⟩, L.length, cap⟩) := ⟨_, rfl⟩
  rw [← hw2] at H1
  have x1 := H1.X.cells
  have l1 := H1.lt
  have HW1 := Lib.hid hw1
  have HW2 := Lib.hid hw2
  clear hl hw1 hw2
  go_enter Try.func29, Try.ntmps29
  go_wp2_with (first | ((with_reducible refine wpList_alloc_wz rfl rfl ?_); rw [← HW1.out]; clear HW1) | ((with_reducible refine Sub.wpList_store_sub rfl 48 _ _ rfl g 9 #[.int .i64 0, .int .i64 0, .int .u64 0, .int .u64 0, .int .u64 0] ?_ ?_ 50 (rc c a ⟨some ⟨gl, 0, none⟩, L.length, cap⟩) (rc c a0 ⟨some ⟨gl, 0, none⟩, L.length, cap⟩) ?_ ?_ ?_ ?_ ?_ ?_); exact rfl; exact rfl; exact H0.M.B; kernel_rfl; exact Nat.le_of_ble_eq_true (by kernel_rfl); kernel_rfl; kernel_rfl; rw [← HW2.out]; clear HW2 H0 x0))
  refine (rHome H1.M hf (wrap64 (s.p.b - 1))).mono ?_
  rintro en w3 ⟨rfl, hb3⟩
  have H3 := H1.keep hb3
  have hh : aSlab c (aHom c (wrap64 (s.p.b - 1))) = slHome c s.p.b := rfl
  rw [hh]
  clear hh x1 l1 H1 hb3
  go_wp2_with fail
  refine (rload_any H3.M hm _).mono ?_
  rintro en w4 ⟨rfl, Mw4, Tw4⟩
  have H4 := H3.mem Mw4 Tw4
  obtain ⟨v0, hv0⟩ : ∃ v, v = ldV L (slHome c s.p.b) := ⟨_, rfl⟩
  simp only [← hv0]
  try rw [← hv0] at hv
  try rw [← hv0] at HR
  have HV := Lib.hid hv0
  clear hv0 Mw4 Tw4 H3
  go_wp2_with fail
  refine (unslabR v0 hv.1 hv.2 _).mono ?_
  rintro en w5 ⟨rfl, hb5⟩
  have H5 := H4.keep hb5
  have te : (v0 % 16 != 2) = false := by have := HR.out; simp [this]
  clear H4 hb5 hv
  go_wp2_with (first | (refine wpList_load_row rfl 34 _ rfl w.heap.size rfl _ (wc (s : Wk)) (0, 0) _ (by exact H5.X) Try.underlying34 rfl (by kernel_rfl) ?_))
  refine (rEndN (s : Wk) _).mono ?_
  rintro en wE ⟨rfl, hbE⟩
  have HE := H5.keep hbE
  clear hbE
  go_wp2_with (first | (refine wpList_store_row rfl 34 _ _ rfl (w.heap.size + 1) (wc ({ s with p := { s.p with ln := 0 } } : Wk)) rfl rfl _ _ (by exact HE.Z) (by kernel_rfl) (by kernel_rfl) (by kernel_rfl) ?_))
  have ZF := HE.Z.setRow (wc ({ s with p := { s.p with ln := 0 } } : Wk))
  refine bodyPost_ret (v := .tuple #[wv ({ s with p := { s.p with ln := 0 } } : Wk), .int .i64 2, .bool true]) ?_ rfl ?_
  · exact Rw.results_cell_slot2 (p := 4) (q := 5) (r := 6) (ty := 34) Try.results29 _ _ (w.heap.size + 1) 34 _ (0, 0) _ rfl ZF Try.underlying34 rfl (by kernel_rfl)
  · have e1 := HV.out
    subst e1
    exact ⟨rfl, HE.fin _⟩
set_option maxRecDepth 10000 in
set_option maxHeartbeats 4000000 in
theorem rsl35n {B : Nat} {w : World} {g gl cap : Nat} {c : Cfg} {a : Acc} {L : List Int} (M : RefMem B w g c a gl cap L) (s : Wk) (hm : L.length ≤ 1000) (hL : WR L) (hf : c.Wf) (hp : PR s.p) (hl : s.p.ln = 35) (hs : ldV L (slHome c s.p.b) % 16 ≠ 2) : Calls Try.prog 29 #[.pointer (some ⟨g, 0, none⟩), wv s] w (RPost B g gl cap c ⟨acc L 1 (slHome c s.p.b) 0 0, L, { s.p with ln := 0 }, 1, true⟩ s w) := by
  have HR := Lib.hid hs
  have hv := ldV_wr hL (slHome c s.p.b)
  clear hs
  have f0 : ∀ s : Wk, (wc s)[0]? = some (.int .i64 s.p.ln) := fun _ => rfl
  have f18 : ∀ s : Wk, (wc s)[18]? = some (.int .i64 s.p.b) := fun _ => rfl
  have d1 : decide (s.p.ln < 30) = false := by simp [hl]
  have d2 : (s.p.ln == 38) = false := by simp [hl]
  have d3 : decide (39 < s.p.ln) = false := by simp [hl]
  have t30 : (s.p.ln == 30) = false := by simp [hl]
  have t31 : (s.p.ln == 31) = false := by simp [hl]
  have t32 : (s.p.ln == 32) = false := by simp [hl]
  have t33 : (s.p.ln == 33) = false := by simp [hl]
  have t34 : (s.p.ln == 34) = false := by simp [hl]
  have t35 : (s.p.ln == 35) = true := by simp [hl]
  have H0 := RX.start M s
  have H1 := H0.wipe
  have hba := build_acc0
  have x0 := H0.X.cells
  obtain ⟨w1, hw1⟩ : ∃ u, u = (w.alloc (.cells (wc s) 34)).alloc (.cells (wc wz) 34) := ⟨_, rfl⟩
  rw [← hw1] at H0 H1 x0
  obtain ⟨w2, hw2⟩ : ∃ u, u = w1.setRow g (rc c a0 ⟨some ⟨gl, 0, none⟩, L.length, cap⟩) := ⟨_, rfl⟩
  rw [← hw2] at H1
  have x1 := H1.X.cells
  have l1 := H1.lt
  have HW1 := Lib.hid hw1
  have HW2 := Lib.hid hw2
  clear hl hw1 hw2
  go_enter Try.func29, Try.ntmps29
  go_wp2_with (first | ((with_reducible refine wpList_alloc_wz rfl rfl ?_); rw [← HW1.out]; clear HW1) | ((with_reducible refine Sub.wpList_store_sub rfl 48 _ _ rfl g 9 #[.int .i64 0, .int .i64 0, .int .u64 0, .int .u64 0, .int .u64 0] ?_ ?_ 50 (rc c a ⟨some ⟨gl, 0, none⟩, L.length, cap⟩) (rc c a0 ⟨some ⟨gl, 0, none⟩, L.length, cap⟩) ?_ ?_ ?_ ?_ ?_ ?_); exact rfl; exact rfl; exact H0.M.B; kernel_rfl; exact Nat.le_of_ble_eq_true (by kernel_rfl); kernel_rfl; kernel_rfl; rw [← HW2.out]; clear HW2 H0 x0))
  refine (rHome H1.M hf (wrap64 (s.p.b - 1))).mono ?_
  rintro en w3 ⟨rfl, hb3⟩
  have H3 := H1.keep hb3
  have hh : aSlab c (aHom c (wrap64 (s.p.b - 1))) = slHome c s.p.b := rfl
  rw [hh]
  clear hh x1 l1 H1 hb3
  go_wp2_with fail
  refine (rload_any H3.M hm _).mono ?_
  rintro en w4 ⟨rfl, Mw4, Tw4⟩
  have H4 := H3.mem Mw4 Tw4
  obtain ⟨v0, hv0⟩ : ∃ v, v = ldV L (slHome c s.p.b) := ⟨_, rfl⟩
  simp only [← hv0]
  try rw [← hv0] at hv
  try rw [← hv0] at HR
  have HV := Lib.hid hv0
  clear hv0 Mw4 Tw4 H3
  go_wp2_with fail
  refine (unslabR v0 hv.1 hv.2 _).mono ?_
  rintro en w5 ⟨rfl, hb5⟩
  have H5 := H4.keep hb5
  have te : (v0 % 16 != 2) = true := by have := HR.out; simp [this]
  clear H4 hb5 hv
  go_wp2_with (first | (refine wpList_load_row rfl 34 _ rfl w.heap.size rfl _ (wc (s : Wk)) (0, 0) _ (by exact H5.X) Try.underlying34 rfl (by kernel_rfl) ?_))
  refine (rEndY (s : Wk) _).mono ?_
  rintro en wE ⟨rfl, hbE⟩
  have HE := H5.keep hbE
  clear hbE
  go_wp2_with (first | (refine wpList_store_row rfl 34 _ _ rfl (w.heap.size + 1) (wc ({ s with p := { s.p with ln := 0 } } : Wk)) rfl rfl _ _ (by exact HE.Z) (by kernel_rfl) (by kernel_rfl) (by kernel_rfl) ?_))
  have ZF := HE.Z.setRow (wc ({ s with p := { s.p with ln := 0 } } : Wk))
  refine bodyPost_ret (v := .tuple #[wv ({ s with p := { s.p with ln := 0 } } : Wk), .int .i64 1, .bool true]) ?_ rfl ?_
  · exact Rw.results_cell_slot2 (p := 4) (q := 5) (r := 6) (ty := 34) Try.results29 _ _ (w.heap.size + 1) 34 _ (0, 0) _ rfl ZF Try.underlying34 rfl (by kernel_rfl)
  · have e1 := HV.out
    subst e1
    exact ⟨rfl, HE.fin _⟩
set_option maxRecDepth 10000 in
set_option maxHeartbeats 4000000 in
theorem rsl39y {B : Nat} {w : World} {g gl cap : Nat} {c : Cfg} {a : Acc} {L : List Int} (M : RefMem B w g c a gl cap L) (s : Wk) (hm : L.length ≤ 1000) (hL : WR L) (hf : c.Wf) (hp : PR s.p) (hl : s.p.ln = 39) (hs : ldV L (slHome c s.p.k) % 16 = 2) : Calls Try.prog 29 #[.pointer (some ⟨g, 0, none⟩), wv s] w (RPost B g gl cap c ⟨acc L 1 (slHome c s.p.k) 0 0, L, { s.p with ln := 0 }, 2, true⟩ s w) := by
  have HR := Lib.hid hs
  have hv := ldV_wr hL (slHome c s.p.k)
  clear hs
  have f0 : ∀ s : Wk, (wc s)[0]? = some (.int .i64 s.p.ln) := fun _ => rfl
  have f19 : ∀ s : Wk, (wc s)[19]? = some (.int .i64 s.p.k) := fun _ => rfl
  have d1 : decide (s.p.ln < 30) = false := by simp [hl]
  have d2 : (s.p.ln == 38) = false := by simp [hl]
  have d3 : decide (39 < s.p.ln) = false := by simp [hl]
  have t30 : (s.p.ln == 30) = false := by simp [hl]
  have t31 : (s.p.ln == 31) = false := by simp [hl]
  have t32 : (s.p.ln == 32) = false := by simp [hl]
  have t33 : (s.p.ln == 33) = false := by simp [hl]
  have t34 : (s.p.ln == 34) = false := by simp [hl]
  have t35 : (s.p.ln == 35) = false := by simp [hl]
  have t36 : (s.p.ln == 36) = false := by simp [hl]
  have t37 : (s.p.ln == 37) = false := by simp [hl]
  have t39 : (s.p.ln == 39) = true := by simp [hl]
  have H0 := RX.start M s
  have H1 := H0.wipe
  have hba := build_acc0
  have x0 := H0.X.cells
  obtain ⟨w1, hw1⟩ : ∃ u, u = (w.alloc (.cells (wc s) 34)).alloc (.cells (wc wz) 34) := ⟨_, rfl⟩
  rw [← hw1] at H0 H1 x0
  obtain ⟨w2, hw2⟩ : ∃ u, u = w1.setRow g (rc c a0 ⟨some ⟨gl, 0, none⟩, L.length, cap⟩) := ⟨_, rfl⟩
  rw [← hw2] at H1
  have x1 := H1.X.cells
  have l1 := H1.lt
  have HW1 := Lib.hid hw1
  have HW2 := Lib.hid hw2
  clear hl hw1 hw2
  go_enter Try.func29, Try.ntmps29
  go_wp2_with (first | ((with_reducible refine wpList_alloc_wz rfl rfl ?_); rw [← HW1.out]; clear HW1) | ((with_reducible refine Sub.wpList_store_sub rfl 48 _ _ rfl g 9 #[.int .i64 0, .int .i64 0, .int .u64 0, .int .u64 0, .int .u64 0] ?_ ?_ 50 (rc c a ⟨some ⟨gl, 0, none⟩, L.length, cap⟩) (rc c a0 ⟨some ⟨gl, 0, none⟩, L.length, cap⟩) ?_ ?_ ?_ ?_ ?_ ?_); exact rfl; exact rfl; exact H0.M.B; kernel_rfl; exact Nat.le_of_ble_eq_true (by kernel_rfl); kernel_rfl; kernel_rfl; rw [← HW2.out]; clear HW2 H0 x0))
  refine (rHome H1.M hf (wrap64 (s.p.k - 1))).mono ?_
  rintro en w3 ⟨rfl, hb3⟩
  have H3 := H1.keep hb3
  have hh : aSlab c (aHom c (wrap64 (s.p.k - 1))) = slHome c s.p.k := rfl
  rw [hh]
  clear hh x1 l1 H1 hb3
  go_wp2_with fail
  refine (rload_any H3.M hm _).mono ?_
  rintro en w4 ⟨rfl, Mw4, Tw4⟩
  have H4 := H3.mem Mw4 Tw4
  obtain ⟨v0, hv0⟩ : ∃ v, v = ldV L (slHome c s.p.k) := ⟨_, rfl⟩
  simp only [← hv0]
  try rw [← hv0] at hv
  try rw [← hv0] at HR
  have HV := Lib.hid hv0
  clear hv0 Mw4 Tw4 H3
  go_wp2_with fail
  refine (unslabR v0 hv.1 hv.2 _).mono ?_
  rintro en w5 ⟨rfl, hb5⟩
  have H5 := H4.keep hb5
  have te : (v0 % 16 != 2) = false := by have := HR.out; simp [this]
  clear H4 hb5 hv
  go_wp2_with (first | (refine wpList_load_row rfl 34 _ rfl w.heap.size rfl _ (wc (s : Wk)) (0, 0) _ (by exact H5.X) Try.underlying34 rfl (by kernel_rfl) ?_))
  refine (rEndN (s : Wk) _).mono ?_
  rintro en wE ⟨rfl, hbE⟩
  have HE := H5.keep hbE
  clear hbE
  go_wp2_with (first | (refine wpList_store_row rfl 34 _ _ rfl (w.heap.size + 1) (wc ({ s with p := { s.p with ln := 0 } } : Wk)) rfl rfl _ _ (by exact HE.Z) (by kernel_rfl) (by kernel_rfl) (by kernel_rfl) ?_))
  have ZF := HE.Z.setRow (wc ({ s with p := { s.p with ln := 0 } } : Wk))
  refine bodyPost_ret (v := .tuple #[wv ({ s with p := { s.p with ln := 0 } } : Wk), .int .i64 2, .bool true]) ?_ rfl ?_
  · exact Rw.results_cell_slot2 (p := 4) (q := 5) (r := 6) (ty := 34) Try.results29 _ _ (w.heap.size + 1) 34 _ (0, 0) _ rfl ZF Try.underlying34 rfl (by kernel_rfl)
  · have e1 := HV.out
    subst e1
    exact ⟨rfl, HE.fin _⟩
set_option maxRecDepth 10000 in
set_option maxHeartbeats 4000000 in
theorem rsl39n {B : Nat} {w : World} {g gl cap : Nat} {c : Cfg} {a : Acc} {L : List Int} (M : RefMem B w g c a gl cap L) (s : Wk) (hm : L.length ≤ 1000) (hL : WR L) (hf : c.Wf) (hp : PR s.p) (hl : s.p.ln = 39) (hs : ldV L (slHome c s.p.k) % 16 ≠ 2) : Calls Try.prog 29 #[.pointer (some ⟨g, 0, none⟩), wv s] w (RPost B g gl cap c ⟨acc L 1 (slHome c s.p.k) 0 0, L, { s.p with ln := 0 }, 1, true⟩ s w) := by
  have HR := Lib.hid hs
  have hv := ldV_wr hL (slHome c s.p.k)
  clear hs
  have f0 : ∀ s : Wk, (wc s)[0]? = some (.int .i64 s.p.ln) := fun _ => rfl
  have f19 : ∀ s : Wk, (wc s)[19]? = some (.int .i64 s.p.k) := fun _ => rfl
  have d1 : decide (s.p.ln < 30) = false := by simp [hl]
  have d2 : (s.p.ln == 38) = false := by simp [hl]
  have d3 : decide (39 < s.p.ln) = false := by simp [hl]
  have t30 : (s.p.ln == 30) = false := by simp [hl]
  have t31 : (s.p.ln == 31) = false := by simp [hl]
  have t32 : (s.p.ln == 32) = false := by simp [hl]
  have t33 : (s.p.ln == 33) = false := by simp [hl]
  have t34 : (s.p.ln == 34) = false := by simp [hl]
  have t35 : (s.p.ln == 35) = false := by simp [hl]
  have t36 : (s.p.ln == 36) = false := by simp [hl]
  have t37 : (s.p.ln == 37) = false := by simp [hl]
  have t39 : (s.p.ln == 39) = true := by simp [hl]
  have H0 := RX.start M s
  have H1 := H0.wipe
  have hba := build_acc0
  have x0 := H0.X.cells
  obtain ⟨w1, hw1⟩ : ∃ u, u = (w.alloc (.cells (wc s) 34)).alloc (.cells (wc wz) 34) := ⟨_, rfl⟩
  rw [← hw1] at H0 H1 x0
  obtain ⟨w2, hw2⟩ : ∃ u, u = w1.setRow g (rc c a0 ⟨some ⟨gl, 0, none⟩, L.length, cap⟩) := ⟨_, rfl⟩
  rw [← hw2] at H1
  have x1 := H1.X.cells
  have l1 := H1.lt
  have HW1 := Lib.hid hw1
  have HW2 := Lib.hid hw2
  clear hl hw1 hw2
  go_enter Try.func29, Try.ntmps29
  go_wp2_with (first | ((with_reducible refine wpList_alloc_wz rfl rfl ?_); rw [← HW1.out]; clear HW1) | ((with_reducible refine Sub.wpList_store_sub rfl 48 _ _ rfl g 9 #[.int .i64 0, .int .i64 0, .int .u64 0, .int .u64 0, .int .u64 0] ?_ ?_ 50 (rc c a ⟨some ⟨gl, 0, none⟩, L.length, cap⟩) (rc c a0 ⟨some ⟨gl, 0, none⟩, L.length, cap⟩) ?_ ?_ ?_ ?_ ?_ ?_); exact rfl; exact rfl; exact H0.M.B; kernel_rfl; exact Nat.le_of_ble_eq_true (by kernel_rfl); kernel_rfl; kernel_rfl; rw [← HW2.out]; clear HW2 H0 x0))
  refine (rHome H1.M hf (wrap64 (s.p.k - 1))).mono ?_
  rintro en w3 ⟨rfl, hb3⟩
  have H3 := H1.keep hb3
  have hh : aSlab c (aHom c (wrap64 (s.p.k - 1))) = slHome c s.p.k := rfl
  rw [hh]
  clear hh x1 l1 H1 hb3
  go_wp2_with fail
  refine (rload_any H3.M hm _).mono ?_
  rintro en w4 ⟨rfl, Mw4, Tw4⟩
  have H4 := H3.mem Mw4 Tw4
  obtain ⟨v0, hv0⟩ : ∃ v, v = ldV L (slHome c s.p.k) := ⟨_, rfl⟩
  simp only [← hv0]
  try rw [← hv0] at hv
  try rw [← hv0] at HR
  have HV := Lib.hid hv0
  clear hv0 Mw4 Tw4 H3
  go_wp2_with fail
  refine (unslabR v0 hv.1 hv.2 _).mono ?_
  rintro en w5 ⟨rfl, hb5⟩
  have H5 := H4.keep hb5
  have te : (v0 % 16 != 2) = true := by have := HR.out; simp [this]
  clear H4 hb5 hv
  go_wp2_with (first | (refine wpList_load_row rfl 34 _ rfl w.heap.size rfl _ (wc (s : Wk)) (0, 0) _ (by exact H5.X) Try.underlying34 rfl (by kernel_rfl) ?_))
  refine (rEndY (s : Wk) _).mono ?_
  rintro en wE ⟨rfl, hbE⟩
  have HE := H5.keep hbE
  clear hbE
  go_wp2_with (first | (refine wpList_store_row rfl 34 _ _ rfl (w.heap.size + 1) (wc ({ s with p := { s.p with ln := 0 } } : Wk)) rfl rfl _ _ (by exact HE.Z) (by kernel_rfl) (by kernel_rfl) (by kernel_rfl) ?_))
  have ZF := HE.Z.setRow (wc ({ s with p := { s.p with ln := 0 } } : Wk))
  refine bodyPost_ret (v := .tuple #[wv ({ s with p := { s.p with ln := 0 } } : Wk), .int .i64 1, .bool true]) ?_ rfl ?_
  · exact Rw.results_cell_slot2 (p := 4) (q := 5) (r := 6) (ty := 34) Try.results29 _ _ (w.heap.size + 1) 34 _ (0, 0) _ rfl ZF Try.underlying34 rfl (by kernel_rfl)
  · have e1 := HV.out
    subst e1
    exact ⟨rfl, HE.fin _⟩
set_option maxRecDepth 10000 in
set_option maxHeartbeats 4000000 in
theorem rsl36y {B : Nat} {w : World} {g gl cap : Nat} {c : Cfg} {a : Acc} {L : List Int} (M : RefMem B w g c a gl cap L) (s : Wk) (hm : L.length ≤ 1000) (hL : WR L) (hf : c.Wf) (hp : PR s.p) (hl : s.p.ln = 36) (hr : ldV L (aSlab c s.p.o3) % 16 = 1) : Calls Try.prog 29 #[.pointer (some ⟨g, 0, none⟩), wv s] w (RPost B g gl cap c ⟨acc L 1 (aSlab c s.p.o3) 0 0, L, { s.p with v := ldV L (aSlab c s.p.o3), ln := 37 }, 0, true⟩ s w) := by
  have hv := ldV_wr hL (aSlab c s.p.o3)
  have HR := Lib.hid hr
  clear hr
  have f0 : ∀ s : Wk, (wc s)[0]? = some (.int .i64 s.p.ln) := fun _ => rfl
  have f1 : ∀ s : Wk, (wc s)[1]? = some (.int .i64 s.p.o0) := fun _ => rfl
  have f4 : ∀ s : Wk, (wc s)[4]? = some (.int .i64 s.p.o3) := fun _ => rfl
  have f25 : ∀ s : Wk, (wc s)[25]? = some (.int .u64 s.p.v) := fun _ => rfl
  have d1 : decide (s.p.ln < 30) = false := by simp [hl]
  have d2 : (s.p.ln == 38) = false := by simp [hl]
  have d3 : decide (39 < s.p.ln) = false := by simp [hl]
  have t30 : (s.p.ln == 30) = false := by simp [hl]
  have t31 : (s.p.ln == 31) = false := by simp [hl]
  have t32 : (s.p.ln == 32) = false := by simp [hl]
  have t33 : (s.p.ln == 33) = false := by simp [hl]
  have t34 : (s.p.ln == 34) = false := by simp [hl]
  have t35 : (s.p.ln == 35) = false := by simp [hl]
  have t36 : (s.p.ln == 36) = true := by simp [hl]
  have H0 := RX.start M s
  have H1 := H0.wipe
  have hba := build_acc0
  have x0 := H0.X.cells
  obtain ⟨w1, hw1⟩ : ∃ u, u = (w.alloc (.cells (wc s) 34)).alloc (.cells (wc wz) 34) := ⟨_, rfl⟩
  rw [← hw1] at H0 H1 x0
  obtain ⟨w2, hw2⟩ : ∃ u, u = w1.setRow g (rc c a0 ⟨some ⟨gl, 0, none⟩, L.length, cap⟩) := ⟨_, rfl⟩
  rw [← hw2] at H1
  have x1 := H1.X.cells
  have l1 := H1.lt
  have HW1 := Lib.hid hw1
  have HW2 := Lib.hid hw2
  clear hl hw1 hw2
  go_enter Try.func29, Try.ntmps29
  go_wp2_with (first | ((with_reducible refine wpList_alloc_wz rfl rfl ?_); rw [← HW1.out]; clear HW1) | ((with_reducible refine Sub.wpList_store_sub rfl 48 _ _ rfl g 9 #[.int .i64 0, .int .i64 0, .int .u64 0, .int .u64 0, .int .u64 0] ?_ ?_ 50 (rc c a ⟨some ⟨gl, 0, none⟩, L.length, cap⟩) (rc c a0 ⟨some ⟨gl, 0, none⟩, L.length, cap⟩) ?_ ?_ ?_ ?_ ?_ ?_); exact rfl; exact rfl; exact H0.M.B; kernel_rfl; exact Nat.le_of_ble_eq_true (by kernel_rfl); kernel_rfl; kernel_rfl; rw [← HW2.out]; clear HW2 H0 x0))
  refine (rSlabA H1.M hf s.p.o3).mono ?_
  rintro en w3 ⟨rfl, hb3⟩
  have H3 := H1.keep hb3
  clear x1 l1 H1 hb3
  go_wp2_with fail
  refine (rload_any H3.M hm _).mono ?_
  rintro en w4 ⟨rfl, Mw4, Tw4⟩
  have H4 := H3.mem Mw4 Tw4
  obtain ⟨v0, hv0⟩ : ∃ v, v = ldV L (aSlab c s.p.o3) := ⟨_, rfl⟩
  simp only [← hv0]
  try rw [← hv0] at hv
  try rw [← hv0] at HR
  have HV := Lib.hid hv0
  clear hv0 Mw4 Tw4 H3
  have H5 := H4.set (s' := { s with p := { s.p with v := v0 } }) 25 (.int .u64 v0) rfl
  have xw4 := H4.X.cells
  have zw4 := H4.X.frozen
  have ew4_25 : (w4.cell? ⟨w.heap.size, 25, none⟩).isSome = true := by rw [xw4, f25]; rfl
  go_wp2_with fail
  generalize w4.setCell ⟨w.heap.size, 25, none⟩ (.int .u64 v0) = w5 at *
  clear xw4 zw4 ew4_25 H4
  refine (unslabR v0 hv.1 hv.2 _).mono ?_
  rintro en w6 ⟨rfl, hb6⟩
  have H6 := H5.keep hb6
  have te : (v0 % 16 != 1) = false := by have := HR.out; simp [this]
  clear H5 hb6 hv
  have H7 := H6.set (s' := { s with p := { s.p with v := v0, ln := 37 } }) 0 (.int .i64 37) rfl
  have xw6 := H6.X.cells
  have zw6 := H6.X.frozen
  have ew6_0 : (w6.cell? ⟨w.heap.size, 0, none⟩).isSome = true := by rw [xw6, f0]; rfl
  go_wp2_with (first | (refine wpList_load_row rfl 34 _ rfl w.heap.size rfl _ (wc ({ s with p := { s.p with v := v0, ln := 37 } } : Wk)) (0, 0) _ (by exact H7.X) Try.underlying34 rfl (by kernel_rfl) ?_) | (refine wpList_store_row rfl 34 _ _ rfl (w.heap.size + 1) (wc ({ s with p := { s.p with v := v0, ln := 37 } } : Wk)) rfl rfl _ _ (by exact H7.Z) (by kernel_rfl) (by kernel_rfl) (by kernel_rfl) ?_))
  have ZF := H7.Z.setRow (wc ({ s with p := { s.p with v := v0, ln := 37 } } : Wk))
  refine bodyPost_ret (v := .tuple #[wv ({ s with p := { s.p with v := v0, ln := 37 } } : Wk), .int .i64 0, .bool true]) ?_ rfl ?_
  · exact Rw.results_cell_slot2 (p := 4) (q := 5) (r := 6) (ty := 34) Try.results29 _ _ (w.heap.size + 1) 34 _ (0, 0) _ rfl ZF Try.underlying34 rfl (by kernel_rfl)
  · have e1 := HV.out
    subst e1
    exact ⟨rfl, H7.fin _⟩
set_option maxRecDepth 10000 in
set_option maxHeartbeats 4000000 in
theorem rsl36n {B : Nat} {w : World} {g gl cap : Nat} {c : Cfg} {a : Acc} {L : List Int} (M : RefMem B w g c a gl cap L) (s : Wk) (hm : L.length ≤ 1000) (hL : WR L) (hf : c.Wf) (hp : PR s.p) (hl : s.p.ln = 36) (hr : ldV L (aSlab c s.p.o3) % 16 ≠ 1) : Calls Try.prog 29 #[.pointer (some ⟨g, 0, none⟩), wv s] w (RPost B g gl cap c ⟨acc L 1 (aSlab c s.p.o3) 0 0, L, { s.p with v := ldV L (aSlab c s.p.o3), ln := 0 }, 2, true⟩ s w) := by
  have hv := ldV_wr hL (aSlab c s.p.o3)
  have HR := Lib.hid hr
  clear hr
  have f0 : ∀ s : Wk, (wc s)[0]? = some (.int .i64 s.p.ln) := fun _ => rfl
  have f1 : ∀ s : Wk, (wc s)[1]? = some (.int .i64 s.p.o0) := fun _ => rfl
  have f4 : ∀ s : Wk, (wc s)[4]? = some (.int .i64 s.p.o3) := fun _ => rfl
  have f25 : ∀ s : Wk, (wc s)[25]? = some (.int .u64 s.p.v) := fun _ => rfl
  have d1 : decide (s.p.ln < 30) = false := by simp [hl]
  have d2 : (s.p.ln == 38) = false := by simp [hl]
  have d3 : decide (39 < s.p.ln) = false := by simp [hl]
  have t30 : (s.p.ln == 30) = false := by simp [hl]
  have t31 : (s.p.ln == 31) = false := by simp [hl]
  have t32 : (s.p.ln == 32) = false := by simp [hl]
  have t33 : (s.p.ln == 33) = false := by simp [hl]
  have t34 : (s.p.ln == 34) = false := by simp [hl]
  have t35 : (s.p.ln == 35) = false := by simp [hl]
  have t36 : (s.p.ln == 36) = true := by simp [hl]
  have H0 := RX.start M s
  have H1 := H0.wipe
  have hba := build_acc0
  have x0 := H0.X.cells
  obtain ⟨w1, hw1⟩ : ∃ u, u = (w.alloc (.cells (wc s) 34)).alloc (.cells (wc wz) 34) := ⟨_, rfl⟩
  rw [← hw1] at H0 H1 x0
  obtain ⟨w2, hw2⟩ : ∃ u, u = w1.setRow g (rc c a0 ⟨some ⟨gl, 0, none⟩, L.length, cap⟩) := ⟨_, rfl⟩
  rw [← hw2] at H1
  have x1 := H1.X.cells
  have l1 := H1.lt
  have HW1 := Lib.hid hw1
  have HW2 := Lib.hid hw2
  clear hl hw1 hw2
  go_enter Try.func29, Try.ntmps29
  go_wp2_with (first | ((with_reducible refine wpList_alloc_wz rfl rfl ?_); rw [← HW1.out]; clear HW1) | ((with_reducible refine Sub.wpList_store_sub rfl 48 _ _ rfl g 9 #[.int .i64 0, .int .i64 0, .int .u64 0, .int .u64 0, .int .u64 0] ?_ ?_ 50 (rc c a ⟨some ⟨gl, 0, none⟩, L.length, cap⟩) (rc c a0 ⟨some ⟨gl, 0, none⟩, L.length, cap⟩) ?_ ?_ ?_ ?_ ?_ ?_); exact rfl; exact rfl; exact H0.M.B; kernel_rfl; exact Nat.le_of_ble_eq_true (by kernel_rfl); kernel_rfl; kernel_rfl; rw [← HW2.out]; clear HW2 H0 x0))
  refine (rSlabA H1.M hf s.p.o3).mono ?_
  rintro en w3 ⟨rfl, hb3⟩
  have H3 := H1.keep hb3
  clear x1 l1 H1 hb3
  go_wp2_with fail
  refine (rload_any H3.M hm _).mono ?_
  rintro en w4 ⟨rfl, Mw4, Tw4⟩
  have H4 := H3.mem Mw4 Tw4
  obtain ⟨v0, hv0⟩ : ∃ v, v = ldV L (aSlab c s.p.o3) := ⟨_, rfl⟩
  simp only [← hv0]
  try rw [← hv0] at hv
  try rw [← hv0] at HR
  have HV := Lib.hid hv0
  clear hv0 Mw4 Tw4 H3
  have H5 := H4.set (s' := { s with p := { s.p with v := v0 } }) 25 (.int .u64 v0) rfl
  have xw4 := H4.X.cells
  have zw4 := H4.X.frozen
  have ew4_25 : (w4.cell? ⟨w.heap.size, 25, none⟩).isSome = true := by rw [xw4, f25]; rfl
  go_wp2_with fail
  generalize w4.setCell ⟨w.heap.size, 25, none⟩ (.int .u64 v0) = w5 at *
  clear xw4 zw4 ew4_25 H4
  refine (unslabR v0 hv.1 hv.2 _).mono ?_
  rintro en w6 ⟨rfl, hb6⟩
  have H6 := H5.keep hb6
  have te : (v0 % 16 != 1) = true := by have := HR.out; simp [this]
  clear H5 hb6 hv
  go_wp2_with (first | (refine wpList_load_row rfl 34 _ rfl w.heap.size rfl _ (wc ({ s with p := { s.p with v := v0 } } : Wk)) (0, 0) _ (by exact H6.X) Try.underlying34 rfl (by kernel_rfl) ?_))
  refine (rEndN ({ s with p := { s.p with v := v0 } } : Wk) _).mono ?_
  rintro en wE ⟨rfl, hbE⟩
  have HE := H6.keep hbE
  clear hbE
  go_wp2_with (first | (refine wpList_store_row rfl 34 _ _ rfl (w.heap.size + 1) (wc ({ s with p := { s.p with v := v0, ln := 0 } } : Wk)) rfl rfl _ _ (by exact HE.Z) (by kernel_rfl) (by kernel_rfl) (by kernel_rfl) ?_))
  have ZF := HE.Z.setRow (wc ({ s with p := { s.p with v := v0, ln := 0 } } : Wk))
  refine bodyPost_ret (v := .tuple #[wv ({ s with p := { s.p with v := v0, ln := 0 } } : Wk), .int .i64 2, .bool true]) ?_ rfl ?_
  · exact Rw.results_cell_slot2 (p := 4) (q := 5) (r := 6) (ty := 34) Try.results29 _ _ (w.heap.size + 1) 34 _ (0, 0) _ rfl ZF Try.underlying34 rfl (by kernel_rfl)
  · have e1 := HV.out
    subst e1
    exact ⟨rfl, HE.fin _⟩
set_option maxRecDepth 10000 in
set_option maxHeartbeats 4000000 in
theorem rslNoneA {B : Nat} {w : World} {g gl cap : Nat} {c : Cfg} {a : Acc} {L : List Int} (M : RefMem B w g c a gl cap L) (s : Wk) (hm : L.length ≤ 1000) (hL : WR L) (hf : c.Wf) (hp : PR s.p) (hl : s.p.ln < 30) : Calls Try.prog 29 #[.pointer (some ⟨g, 0, none⟩), wv s] w (RPost B g gl cap c ⟨a, L, s.p, 0, false⟩ s w) := by
  have f0 : ∀ s : Wk, (wc s)[0]? = some (.int .i64 s.p.ln) := fun _ => rfl
  have d0 : (decide (s.p.ln < 30)) = true := by simp <;> omega
  have H0 := RX.start M s
  have x0 := H0.X.cells
  obtain ⟨w1, hw1⟩ : ∃ u, u = (w.alloc (.cells (wc s) 34)).alloc (.cells (wc wz) 34) := ⟨_, rfl⟩
  rw [← hw1] at H0 x0
  have HW1 := Lib.hid hw1
  clear hl hw1
  go_enter Try.func29, Try.ntmps29
  go_wp2_with (first | ((with_reducible refine wpList_alloc_wz rfl rfl ?_); rw [← HW1.out]; clear HW1) | (refine wpList_load_row rfl 34 _ rfl w.heap.size rfl _ (wc s) (0, 0) _ (by exact H0.X) Try.underlying34 rfl (by kernel_rfl) ?_) | (refine wpList_store_row rfl 34 _ _ rfl (w.heap.size + 1) (wc s) rfl rfl _ _ (by exact H0.Z) (by kernel_rfl) (by kernel_rfl) (by kernel_rfl) ?_))
  have ZF := H0.Z.setRow (wc s)
  refine bodyPost_ret (v := .tuple #[wv s, .int .i64 0, .bool false]) ?_ rfl ?_
  · exact Rw.results_cell_slot2 (p := 4) (q := 5) (r := 6) (ty := 34) Try.results29 _ _ (w.heap.size + 1) 34 _ (0, 0) _ rfl ZF Try.underlying34 rfl (by kernel_rfl)
  · exact ⟨rfl, H0.fin _⟩
set_option maxRecDepth 10000 in
set_option maxHeartbeats 4000000 in
theorem rslNoneB {B : Nat} {w : World} {g gl cap : Nat} {c : Cfg} {a : Acc} {L : List Int} (M : RefMem B w g c a gl cap L) (s : Wk) (hm : L.length ≤ 1000) (hL : WR L) (hf : c.Wf) (hp : PR s.p) (hl : s.p.ln = 38) : Calls Try.prog 29 #[.pointer (some ⟨g, 0, none⟩), wv s] w (RPost B g gl cap c ⟨a, L, s.p, 0, false⟩ s w) := by
  have f0 : ∀ s : Wk, (wc s)[0]? = some (.int .i64 s.p.ln) := fun _ => rfl
  have d0 : (decide (s.p.ln < 30)) = false := by simp <;> omega
  have d1 : (s.p.ln == 38) = true := by simp <;> omega
  have H0 := RX.start M s
  have x0 := H0.X.cells
  obtain ⟨w1, hw1⟩ : ∃ u, u = (w.alloc (.cells (wc s) 34)).alloc (.cells (wc wz) 34) := ⟨_, rfl⟩
  rw [← hw1] at H0 x0
  have HW1 := Lib.hid hw1
  clear hl hw1
  go_enter Try.func29, Try.ntmps29
  go_wp2_with (first | ((with_reducible refine wpList_alloc_wz rfl rfl ?_); rw [← HW1.out]; clear HW1) | (refine wpList_load_row rfl 34 _ rfl w.heap.size rfl _ (wc s) (0, 0) _ (by exact H0.X) Try.underlying34 rfl (by kernel_rfl) ?_) | (refine wpList_store_row rfl 34 _ _ rfl (w.heap.size + 1) (wc s) rfl rfl _ _ (by exact H0.Z) (by kernel_rfl) (by kernel_rfl) (by kernel_rfl) ?_))
  have ZF := H0.Z.setRow (wc s)
  refine bodyPost_ret (v := .tuple #[wv s, .int .i64 0, .bool false]) ?_ rfl ?_
  · exact Rw.results_cell_slot2 (p := 4) (q := 5) (r := 6) (ty := 34) Try.results29 _ _ (w.heap.size + 1) 34 _ (0, 0) _ rfl ZF Try.underlying34 rfl (by kernel_rfl)
  · exact ⟨rfl, H0.fin _⟩
set_option maxRecDepth 10000 in
set_option maxHeartbeats 4000000 in
theorem rslNoneC {B : Nat} {w : World} {g gl cap : Nat} {c : Cfg} {a : Acc} {L : List Int} (M : RefMem B w g c a gl cap L) (s : Wk) (hm : L.length ≤ 1000) (hL : WR L) (hf : c.Wf) (hp : PR s.p) (hl : 39 < s.p.ln) : Calls Try.prog 29 #[.pointer (some ⟨g, 0, none⟩), wv s] w (RPost B g gl cap c ⟨a, L, s.p, 0, false⟩ s w) := by
  have f0 : ∀ s : Wk, (wc s)[0]? = some (.int .i64 s.p.ln) := fun _ => rfl
  have d0 : (decide (s.p.ln < 30)) = false := by simp <;> omega
  have d1 : (s.p.ln == 38) = false := by simp <;> omega
  have d2 : (decide (39 < s.p.ln)) = true := by simp <;> omega
  have H0 := RX.start M s
  have x0 := H0.X.cells
  obtain ⟨w1, hw1⟩ : ∃ u, u = (w.alloc (.cells (wc s) 34)).alloc (.cells (wc wz) 34) := ⟨_, rfl⟩
  rw [← hw1] at H0 x0
  have HW1 := Lib.hid hw1
  clear hl hw1
  go_enter Try.func29, Try.ntmps29
  go_wp2_with (first | ((with_reducible refine wpList_alloc_wz rfl rfl ?_); rw [← HW1.out]; clear HW1) | (refine wpList_load_row rfl 34 _ rfl w.heap.size rfl _ (wc s) (0, 0) _ (by exact H0.X) Try.underlying34 rfl (by kernel_rfl) ?_) | (refine wpList_store_row rfl 34 _ _ rfl (w.heap.size + 1) (wc s) rfl rfl _ _ (by exact H0.Z) (by kernel_rfl) (by kernel_rfl) (by kernel_rfl) ?_))
  have ZF := H0.Z.setRow (wc s)
  refine bodyPost_ret (v := .tuple #[wv s, .int .i64 0, .bool false]) ?_ rfl ?_
  · exact Rw.results_cell_slot2 (p := 4) (q := 5) (r := 6) (ty := 34) Try.results29 _ _ (w.heap.size + 1) 34 _ (0, 0) _ rfl ZF Try.underlying34 rfl (by kernel_rfl)
  · exact ⟨rfl, H0.fin _⟩
/-- A step of the reference, whichever. -/
theorem rSlabStep {B : Nat} {w : World} {g gl cap : Nat} {c : Cfg} {a : Acc} {L : List Int} (M : RefMem B w g c a gl cap L) (s : Wk) (hm : L.length ≤ 1000) (hL : WR L) (hf : c.Wf) (hp : PR s.p) : Calls Try.prog 29 #[.pointer (some ⟨g, 0, none⟩), wv s] w (RPost B g gl cap c (slabLn c a L s.p).fin s w) := by
  unfold slabLn
  by_cases h30 : s.p.ln = 30
  · rw [if_pos h30]
    unfold sl30
    split
    · rename_i hq; rw [Res.fin0 rfl]; exact rsl30y M s hm hL hf hp h30 hq
    · rename_i hq; rw [Res.fin1 (show (1 : Int) ≠ 0 by decide)]; exact rsl30n M s hm hL hf hp h30 hq
  rw [if_neg h30]
  by_cases h31 : s.p.ln = 31
  · rw [if_pos h31]
    rw [Res.fin0 rfl]; exact rsl31 M s hm hL hf hp h31
  rw [if_neg h31]
  by_cases h32 : s.p.ln = 32
  · rw [if_pos h32]
    rw [Res.fin1 (show (1 : Int) ≠ 0 by decide)]; exact rsl32 M s hm hL hf hp h32
  rw [if_neg h32]
  by_cases h33 : s.p.ln = 33
  · rw [if_pos h33]
    unfold sl33
    cases hr : rdyB (ldV L (aSlab c s.p.j)) s.p.ep with
    | true => rw [if_pos rfl]; rw [Res.fin0 rfl]; exact rsl33r M s hm hL hf hp h33 hr
    | false =>
      rw [if_neg (by simp)]
      by_cases hj : c.sl ≤ wrap64 (s.p.j + 1)
      · rw [if_pos hj]; rw [Res.fin1 (show (2 : Int) ≠ 0 by decide)]; exact rsl33g M s hm hL hf hp h33 hr hj
      · rw [if_neg hj]; rw [Res.fin0 rfl]; exact rsl33n M s hm hL hf hp h33 hr hj
  rw [if_neg h33]
  by_cases h34 : s.p.ln = 34
  · rw [if_pos h34]
    unfold slSwap
    cases hb : csB L (aSlab c s.p.j) s.p.v with
    | true => rw [if_pos rfl]; rw [Res.fin1 (show (1 : Int) ≠ 0 by decide)]; exact rsl34y M s hm hL hf hp h34 hb
    | false => rw [if_neg (by simp)]; rw [Res.fin0 rfl]; exact rsl34n M s hm hL hf hp h34 hb
  rw [if_neg h34]
  by_cases h35 : s.p.ln = 35
  · rw [if_pos h35]
    unfold slTake
    by_cases hs : ldV L (slHome c s.p.b) % 16 = 2
    · rw [if_pos hs]; rw [Res.fin1 (show (2 : Int) ≠ 0 by decide)]; exact rsl35y M s hm hL hf hp h35 hs
    · rw [if_neg hs]; rw [Res.fin1 (show (1 : Int) ≠ 0 by decide)]; exact rsl35n M s hm hL hf hp h35 hs
  rw [if_neg h35]
  by_cases h36 : s.p.ln = 36
  · rw [if_pos h36]
    unfold sl36
    split
    · rename_i hq; rw [Res.fin0 rfl]; exact rsl36y M s hm hL hf hp h36 hq
    · rename_i hq; rw [Res.fin1 (show (2 : Int) ≠ 0 by decide)]; exact rsl36n M s hm hL hf hp h36 hq
  rw [if_neg h36]
  by_cases h37 : s.p.ln = 37
  · rw [if_pos h37]
    unfold slSwap
    cases hb : csB L (aSlab c s.p.o3) s.p.v with
    | true => rw [if_pos rfl]; rw [Res.fin1 (show (1 : Int) ≠ 0 by decide)]; exact rsl37y M s hm hL hf hp h37 hb
    | false => rw [if_neg (by simp)]; rw [Res.fin0 rfl]; exact rsl37n M s hm hL hf hp h37 hb
  rw [if_neg h37]
  by_cases h39 : s.p.ln = 39
  · rw [if_pos h39]
    unfold slTake
    by_cases hs : ldV L (slHome c s.p.k) % 16 = 2
    · rw [if_pos hs]; rw [Res.fin1 (show (2 : Int) ≠ 0 by decide)]; exact rsl39y M s hm hL hf hp h39 hs
    · rw [if_neg hs]; rw [Res.fin1 (show (1 : Int) ≠ 0 by decide)]; exact rsl39n M s hm hL hf hp h39 hs
  rw [if_neg h39]
  rw [Res.fin0 rfl]; by_cases hA : s.p.ln < 30; exact rslNoneA M s hm hL hf hp hA; by_cases hB : s.p.ln = 38; exact rslNoneB M s hm hL hf hp hB; exact rslNoneC M s hm hL hf hp (by omega)
end Go.Proofs.Yticgpikpefgldaa.Me
