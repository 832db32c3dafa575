/- Layer 12: the reference's Text (made by genoper5.py). -/
import Derived.Test.YtpmcedfeiconfaaGreatDoorOpTextW
namespace Go.Proofs.YtpmcedfeiconfaaGreatDoor.Opw
open Go Go.RowKit Go.ChangeMaps Go.Proofs.YtpmcedfeiconfaaGreatDoor.Gro Go.Proofs.YtpmcedfeiconfaaGreatDoor.Own Go.Proofs.YtpmcedfeiconfaaGreatDoor.Mr Go.Proofs.YtpmcedfeiconfaaGreatDoor.Opn
set_option linter.unusedVariables false
set_option linter.unusedSimpArgs false
theorem flags2 {k : Int} (h : isKind k = true) : (askB k = false ∧ numB k = false ∧ slabB k = false ∧ (k == 3) = false ∧ (k == 5) = false ∧ (k == 9) = false) ∨ (askB k = true ∧ numB k = false ∧ slabB k = false ∧ (k == 3) = false ∧ (k == 5) = false ∧ (k == 9) = false) ∨ (askB k = false ∧ numB k = true ∧ slabB k = false ∧ (k == 3) = true ∧ (k == 5) = false ∧ (k == 9) = false) ∨ (askB k = true ∧ numB k = true ∧ slabB k = false ∧ (k == 3) = false ∧ (k == 5) = true ∧ (k == 9) = false) ∨ (askB k = false ∧ numB k = false ∧ slabB k = true ∧ (k == 3) = false ∧ (k == 5) = false ∧ (k == 9) = true) := by
  rcases kind_cases h with rfl | rfl | rfl | rfl | rfl | rfl | rfl | rfl | rfl <;> decide
theorem lit32 : (⟨#[32]⟩ : ByteArray) = ⟨([32] : List UInt8).toArray⟩ := rfl
theorem lit46 : (⟨#[46]⟩ : ByteArray) = ⟨([46] : List UInt8).toArray⟩ := rfl
theorem lit3264 : (⟨#[32, 64]⟩ : ByteArray) = ⟨([32, 64] : List UInt8).toArray⟩ := rfl
theorem refNumS (n : Int) (h0 : 0 ≤ n) (h1 : n ≤ 18446744073709551615) : ∃ s : ByteArray, s.size ≤ 20 ∧ s = ⟨(dec n).toArray⟩ ∧ ∀ w, Calls Tryz.prog 58 #[.int .u64 n] w fun e w' => e = .returned (.string s) ∧ w' = w :=
  ⟨⟨(dec n).toArray⟩, dec_20 (show n.toNat ≤ 18446744073709551615 by omega), rfl, fun w => refNum n.toNat n w (Nat.le_refl _) h0 h1⟩
set_option maxRecDepth 100000 in
set_option maxHeartbeats 8000000 in
theorem refText (o : OpD) (hF : o.Fits) (w : World) : Calls Tryz.prog 36 #[opV o] w fun e w' => e = .returned (strV (if right o = true then text o else [])) ∧ Below w.heap.size w w' := by
  have K0 := Bk.new w (opC o) 50
  have hb0 : Below w.heap.size w (w.alloc (.cells (opC o) 50)) := (Below.refl _ _).alloc (Nat.le_refl _) _
  have HR0 := Lib.hid (refRight o)
  cases hr : right o
  · rw [if_neg (by decide)]
    rw [hr] at HR0
    go_enter Tryz.func36, Tryz.ntmps36
    go_wp2_with (refine wpList_load_row_w rfl 50 _ rfl (w.heap.size) rfl _ (opC o) (0, 0) _ (by exact K0) Tryz.underlying50 rfl (by kernel_rfl) ?_)
    refine (HR0.out _).mono ?_
    rintro e z1 ⟨rfl, hb1⟩
    go_wp2_with fail
    go_ret
    exact ⟨rfl, hb0.trans (hb1.mono hb0.size)⟩
  rw [if_pos rfl]
  rw [hr] at HR0
  have hk : isKind o.k = true := by simp only [right, Bool.and_eq_true] at hr; exact hr.1
  have hfl := flags2 hk
  have hU : askB o.k = true → o.u = true → 0 ≤ o.b ∧ 0 ≤ o.n := by
    intro h1 h2
    have : rightTk o = true := by simp only [right, Bool.and_eq_true] at hr; exact hr.2.1
    rw [rightTk, h1, h2] at this
    simp only [Bool.true_eq_false, if_false, if_true, Bool.and_eq_true, decide_eq_true_eq] at this
    exact ⟨this.1.2, this.2⟩
  have hS : slabB o.k = true → 0 ≤ o.s := by
    intro h1
    have : (o.s == 0 || (slabB o.k && decide (0 < o.s))) = true := by simp only [right, Bool.and_eq_true] at hr; exact hr.2.2.2
    rw [h1] at this
    simp only [Bool.true_and, Bool.or_eq_true, beq_iff_eq, decide_eq_true_eq] at this
    omega
  obtain ⟨tx, htx⟩ : ∃ q, q = (⟨(text o).toArray⟩ : ByteArray) := ⟨_, rfl⟩
  show Calls _ _ _ _ fun e w' => e = .returned (.string ⟨(text o).toArray⟩) ∧ _
  rw [← htx]
  unfold text words parts at htx
  obtain ⟨ba, hba⟩ : ∃ q, q = askB o.k := ⟨_, rfl⟩
  obtain ⟨bn, hbn⟩ : ∃ q, q = numB o.k := ⟨_, rfl⟩
  obtain ⟨bs, hbs⟩ : ∃ q, q = slabB o.k := ⟨_, rfl⟩
  obtain ⟨sl, hsl⟩ : ∃ q, q = (⟨(name o.k).toArray⟩ : ByteArray) := ⟨_, rfl⟩
  have hz : sl.size ≤ 7 := by rw [hsl]; exact name_len o.k
  have HW := Lib.hid (refWord o.k)
  rw [show nameB o.k = sl from hsl.symm] at HW
  rw [← hba, ← hbn, ← hbs] at hfl
  rw [← hba] at hU
  rw [← hbs] at hS
  rw [← hba, ← hbn, ← hbs] at htx
  have HA := Lib.hid (refAsks o)
  rw [← hba] at HA
  have HTX := Lib.hid htx
  have HFL := Lib.hid hfl
  have HU := Lib.hid hU
  have HSL := Lib.hid hS
  have HFF := Lib.hid hF
  have HN := Lib.hid hsl
  clear hba hbn hbs hfl hU hS hk htx hr hF hsl
  obtain ⟨k, t, x, s, u, b, n⟩ := o
  have FB := Lib.hid (show -9223372036854775808 ≤ b ∧ b ≤ 9223372036854775807 from HFF.out.b)
  have FN := Lib.hid (show -9223372036854775808 ≤ n ∧ n ≤ 9223372036854775807 from HFF.out.n)
  have FT := Lib.hid (show 0 ≤ t ∧ t ≤ 18446744073709551615 from HFF.out.t)
  have FX := Lib.hid (show 0 ≤ x ∧ x ≤ 18446744073709551615 from HFF.out.x)
  have FS := Lib.hid (show -9223372036854775808 ≤ s ∧ s ≤ 9223372036854775807 from HFF.out.s)
  go_enter Tryz.func36, Tryz.ntmps36
  go_wp2_with (refine wpList_load_row_w rfl 50 _ rfl (w.heap.size) rfl _ (opC ⟨k, t, x, s, u, b, n⟩) (0, 0) _ (by exact K0) Tryz.underlying50 rfl (by kernel_rfl) ?_)
  refine (HR0.out _).mono ?_
  rintro e w1 ⟨rfl, hb1⟩
  have K1 := K0.keep hb1
  have hb2 := hb0.trans (hb1.mono hb0.size)
  clear K0 hb0 hb1 HR0
  have K0 := K1
  have hb0 := hb2
  clear K1 hb2
  have k0 := K0.cells
  have l0 := K0.lt
  go_wp2_with (refine wpList_load_row_w rfl 50 _ rfl (w.heap.size) rfl _ (opC ⟨k, t, x, s, u, b, n⟩) (0, 0) _ (by exact K0) Tryz.underlying50 rfl (by kernel_rfl) ?_)
  refine (HW.out _).mono ?_
  rintro e wx ⟨rfl, hwx⟩
  obtain rfl : wx = w1 := hwx
  clear HW
  have hfl := HFL.out
  clear HFL
  rcases hfl with ⟨rfl, rfl, rfl, h3, h5, h9⟩ | ⟨rfl, rfl, rfl, h3, h5, h9⟩ | ⟨rfl, rfl, rfl, h3, h5, h9⟩ | ⟨rfl, rfl, rfl, h3, h5, h9⟩ | ⟨rfl, rfl, rfl, h3, h5, h9⟩
  · go_wp2_with (refine wpList_load_row_w rfl 50 _ rfl (w.heap.size) rfl _ (opC ⟨k, t, x, s, u, b, n⟩) (0, 0) _ (by exact K0) Tryz.underlying50 rfl (by kernel_rfl) ?_)
    refine (HA.out _).mono ?_
    rintro e w3 ⟨rfl, hb1⟩
    have K1 := K0.keep hb1
    have hb2 := hb0.trans (hb1.mono hb0.size)
    clear k0 K0 hb0 hb1 l0
    have K0 := K1
    have hb0 := hb2
    clear K1 hb2
    have k0 := K0.cells
    have l0 := K0.lt
    go_wp2_with (refine wpList_load_row_w rfl 50 _ rfl (w.heap.size) rfl _ (opC ⟨k, t, x, s, u, b, n⟩) (0, 0) _ (by exact K0) Tryz.underlying50 rfl (by kernel_rfl) ?_)
    refine (HA.out _).mono ?_
    rintro e w4 ⟨rfl, hb1⟩
    have K1 := K0.keep hb1
    have hb2 := hb0.trans (hb1.mono hb0.size)
    clear k0 K0 hb0 hb1 l0
    have K0 := K1
    have hb0 := hb2
    clear K1 hb2
    have k0 := K0.cells
    have l0 := K0.lt
    go_wp2_with fail
    go_ret
    refine ⟨?_, hb0⟩
    have htx := HTX.out
    simp only [if_true, if_false, Bool.false_eq_true, List.nil_append, List.append_nil, List.cons_append, Lib.join_one, Lib.join_cons, Lib.joinTail] at htx
    rw [htx, HN.out]
    simp only [cat_bytes, lit32, lit3264, lit46]
    simp [tick]
  · go_wp2_with (refine wpList_load_row_w rfl 50 _ rfl (w.heap.size) rfl _ (opC ⟨k, t, x, s, u, b, n⟩) (0, 0) _ (by exact K0) Tryz.underlying50 rfl (by kernel_rfl) ?_)
    refine (HA.out _).mono ?_
    rintro e w3 ⟨rfl, hb1⟩
    have K1 := K0.keep hb1
    have hb2 := hb0.trans (hb1.mono hb0.size)
    clear k0 K0 hb0 hb1 l0
    have K0 := K1
    have hb0 := hb2
    clear K1 hb2
    have k0 := K0.cells
    have l0 := K0.lt
    have hU := HU.out (by trivial)
    cases u
    · obtain ⟨s1, hz1, hs1, hh1⟩ := refNumS t (by have := FT.out; omega) (by have := FT.out; omega)
      have HS1 := Lib.hid hs1
      have H1 := Lib.hid hh1
      clear hs1 hh1
      have hg0 : ¬ 9223372036854775807 < sl.size + 1 := by omega
      have hg1 : ¬ 9223372036854775807 < sl.size + 1 + s1.size := by omega
      clear hU
      go_wp2_with (refine wpList_load_row_w rfl 50 _ rfl (w.heap.size) rfl _ (opC ⟨k, t, x, s, u, b, n⟩) (0, 0) _ (by exact K0) Tryz.underlying50 rfl (by kernel_rfl) ?_)
      refine (HA.out _).mono ?_
      rintro e w4 ⟨rfl, hb1⟩
      have K1 := K0.keep hb1
      have hb2 := hb0.trans (hb1.mono hb0.size)
      clear k0 K0 hb0 hb1 l0
      have K0 := K1
      have hb0 := hb2
      clear K1 hb2
      have k0 := K0.cells
      have l0 := K0.lt
      go_wp2_with fail
      refine (H1.out _).mono ?_
      rintro e zz ⟨rfl, hzz⟩
      obtain rfl : zz = _ := hzz
      go_wp2_with fail
      go_ret
      refine ⟨?_, hb0⟩
      have htx := HTX.out
      simp only [if_true, if_false, Bool.false_eq_true, List.nil_append, List.append_nil, List.cons_append, Lib.join_one, Lib.join_cons, Lib.joinTail] at htx
      rw [htx, HN.out]
      rw [HS1.out]
      simp only [cat_bytes, lit32, lit3264, lit46]
      simp [tick]
    · obtain ⟨hub, hun⟩ := hU rfl
      clear hU
      obtain ⟨s1, hz1, hs1, hh1⟩ := refNumS b hub (by have := FB.out; omega)
      have HS1 := Lib.hid hs1
      have H1 := Lib.hid hh1
      clear hs1 hh1
      obtain ⟨s2, hz2, hs2, hh2⟩ := refNumS n hun (by have := FN.out; omega)
      have HS2 := Lib.hid hs2
      have H2 := Lib.hid hh2
      clear hs2 hh2
      go_upto_region 5 with fail
      have hq1 := FB.out
      have hq2 := FN.out
      have hwb : IntKind.u64.wrap b = b := by rw [IntKind.wrap_u64]; omega
      have hwn : IntKind.u64.wrap n = n := by rw [IntKind.wrap_u64]; omega
      have hS0 : Below w3.heap.size w3 w3.drew := Below.drew (Below.refl _ _)
      refine wp_region_held_drew (S := fun w' => Below w3.heap.size w3 w') (by kernel_rfl) hS0 (fun hHeld => ?_)
      clear hS0
      generalize w3.drew = z0 at *
      refine wpAnyH_take (i := 0) (oi := _) (v := .string sl) rfl (by kernel_rfl) (by kernel_rfl) (by kernel_rfl) (fun _ _ _ h => h) (Or.inl ⟨by rfl, fun w' hSw => by go_simp⟩) hHeld ?_
      try simp only [Act.put, List.getElem_toArray, List.getElem_cons_succ, List.getElem_cons_zero, List.setIfInBounds_toArray, List.set_cons_succ, List.set_cons_zero]
      refine wpAnyH_take (i := 1) (oi := _) (v := .string (sl ++ ⟨#[32, 64]⟩)) rfl (by kernel_rfl) (by kernel_rfl) (by kernel_rfl) (fun _ _ _ h => h) (Or.inl ⟨by rfl, fun w' hSw => by go_simp; omega⟩) hHeld ?_
      try simp only [Act.put, List.getElem_toArray, List.getElem_cons_succ, List.getElem_cons_zero, List.setIfInBounds_toArray, List.set_cons_succ, List.set_cons_zero]
      refine wpAnyH_take (i := 2) (oi := _) (v := .pointer (some ⟨w.heap.size, 5, none⟩)) rfl (by kernel_rfl) (by kernel_rfl) (by kernel_rfl) (fun _ _ _ h => h) (Or.inl ⟨by rfl, fun w' hSw => by go_simp⟩) hHeld ?_
      try simp only [Act.put, List.getElem_toArray, List.getElem_cons_succ, List.getElem_cons_zero, List.setIfInBounds_toArray, List.set_cons_succ, List.set_cons_zero]
      refine wpAnyH_take (i := 3) (oi := _) (v := .int .i64 b) rfl (by kernel_rfl) (by kernel_rfl) (by kernel_rfl) (fun _ _ _ h => h) (Or.inl ⟨by rfl, fun w' hSw => by have xx := (K0.keep hSw).cells; go_simp⟩) hHeld ?_
      try simp only [Act.put, List.getElem_toArray, List.getElem_cons_succ, List.getElem_cons_zero, List.setIfInBounds_toArray, List.set_cons_succ, List.set_cons_zero]
      refine wpAnyH_take (i := 4) (oi := _) (v := .int .u64 b) rfl (by kernel_rfl) (by kernel_rfl) (by kernel_rfl) (fun _ _ _ h => h) (Or.inl ⟨by rfl, fun w' hSw => by go_simp⟩) hHeld ?_
      try simp only [Act.put, List.getElem_toArray, List.getElem_cons_succ, List.getElem_cons_zero, List.setIfInBounds_toArray, List.set_cons_succ, List.set_cons_zero]
      refine wpAnyH_take (i := 8) (oi := _) (v := .pointer (some ⟨w.heap.size, 6, none⟩)) rfl (by kernel_rfl) (by kernel_rfl) (by kernel_rfl) (fun _ _ _ h => h) (Or.inl ⟨by rfl, fun w' hSw => by go_simp⟩) hHeld ?_
      try simp only [Act.put, List.getElem_toArray, List.getElem_cons_succ, List.getElem_cons_zero, List.setIfInBounds_toArray, List.set_cons_succ, List.set_cons_zero]
      refine wpAnyH_take (i := 9) (oi := _) (v := .int .i64 n) rfl (by kernel_rfl) (by kernel_rfl) (by kernel_rfl) (fun _ _ _ h => h) (Or.inl ⟨by rfl, fun w' hSw => by have xx := (K0.keep hSw).cells; go_simp⟩) hHeld ?_
      try simp only [Act.put, List.getElem_toArray, List.getElem_cons_succ, List.getElem_cons_zero, List.setIfInBounds_toArray, List.set_cons_succ, List.set_cons_zero]
      refine wpAnyH_take (i := 10) (oi := _) (v := .int .u64 n) rfl (by kernel_rfl) (by kernel_rfl) (by kernel_rfl) (fun _ _ _ h => h) (Or.inl ⟨by rfl, fun w' hSw => by go_simp⟩) hHeld ?_
      try simp only [Act.put, List.getElem_toArray, List.getElem_cons_succ, List.getElem_cons_zero, List.setIfInBounds_toArray, List.set_cons_succ, List.set_cons_zero]
      refine wpAnyH_ready (rs := [5]) (by kernel_rfl) (by simp) ?_
      refine AllReadyH.cons (o := _) rfl (fun K hK => ?_) AllReadyH.nil
      go_simp
      refine (H1.out _).mono ?_
      rintro en zz ⟨rfl, hzz⟩
      obtain rfl : zz = _ := hzz
      refine hK.out _ _ hHeld (fun hHeld => ?_)
      clear hK K
      try simp only [Act.put, List.getElem_toArray, List.getElem_cons_succ, List.getElem_cons_zero, List.setIfInBounds_toArray, List.set_cons_succ, List.set_cons_zero]
      refine wpAnyH_take (i := 6) (oi := _) (v := .string (sl ++ ⟨#[32, 64]⟩ ++ s1)) rfl (by kernel_rfl) (by kernel_rfl) (by kernel_rfl) (fun _ _ _ h => h) (Or.inl ⟨by rfl, fun w' hSw => by go_simp; omega⟩) hHeld ?_
      try simp only [Act.put, List.getElem_toArray, List.getElem_cons_succ, List.getElem_cons_zero, List.setIfInBounds_toArray, List.set_cons_succ, List.set_cons_zero]
      refine wpAnyH_take (i := 7) (oi := _) (v := .string (sl ++ ⟨#[32, 64]⟩ ++ s1 ++ ⟨#[46]⟩)) rfl (by kernel_rfl) (by kernel_rfl) (by kernel_rfl) (fun _ _ _ h => h) (Or.inl ⟨by rfl, fun w' hSw => by go_simp; omega⟩) hHeld ?_
      try simp only [Act.put, List.getElem_toArray, List.getElem_cons_succ, List.getElem_cons_zero, List.setIfInBounds_toArray, List.set_cons_succ, List.set_cons_zero]
      refine wpAnyH_ready (rs := [11]) (by kernel_rfl) (by simp) ?_
      refine AllReadyH.cons (o := _) rfl (fun K hK => ?_) AllReadyH.nil
      go_simp
      refine (H2.out _).mono ?_
      rintro en zz ⟨rfl, hzz⟩
      obtain rfl : zz = _ := hzz
      refine hK.out _ _ hHeld (fun hHeld => ?_)
      clear hK K
      try simp only [Act.put, List.getElem_toArray, List.getElem_cons_succ, List.getElem_cons_zero, List.setIfInBounds_toArray, List.set_cons_succ, List.set_cons_zero]
      refine wpAnyH_take (i := 12) (oi := _) (v := .string (sl ++ ⟨#[32, 64]⟩ ++ s1 ++ ⟨#[46]⟩ ++ s2)) rfl (by kernel_rfl) (by kernel_rfl) (by kernel_rfl) (fun _ _ _ h => h) (Or.inl ⟨by rfl, fun w' hSw => by go_simp; omega⟩) hHeld ?_
      try simp only [Act.put, List.getElem_toArray, List.getElem_cons_succ, List.getElem_cons_zero, List.setIfInBounds_toArray, List.set_cons_succ, List.set_cons_zero]
      refine wpAnyH_take (i := 13) (oi := _) (v := .string (sl ++ ⟨#[32, 64]⟩ ++ s1 ++ ⟨#[46]⟩ ++ s2)) rfl (by kernel_rfl) (by kernel_rfl) (by kernel_rfl) (fun _ _ _ h => h) (Or.inl ⟨by rfl, fun w' hSw => by go_simp⟩) hHeld ?_
      try simp only [Act.put, List.getElem_toArray, List.getElem_cons_succ, List.getElem_cons_zero, List.setIfInBounds_toArray, List.set_cons_succ, List.set_cons_zero]
      refine wpAnyH_done (by kernel_rfl) ?_ _
      have K1 := K0.keep hHeld
      have hb2 := hb0.trans (hHeld.mono hb0.size)
      clear k0 K0 hb0 hHeld l0 hq1 hq2 hwb hwn
      have K0 := K1
      have hb0 := hb2
      clear K1 hb2
      have k0 := K0.cells
      have l0 := K0.lt
      simp only [Exit.then]
      go_wp2_with (refine wpList_load_row_w rfl 50 _ rfl (w.heap.size) rfl _ (opC ⟨k, t, x, s, u, b, n⟩) (0, 0) _ (by exact K0) Tryz.underlying50 rfl (by kernel_rfl) ?_)
      refine (HA.out _).mono ?_
      rintro e w4 ⟨rfl, hb1⟩
      have K1 := K0.keep hb1
      have hb2 := hb0.trans (hb1.mono hb0.size)
      clear k0 K0 hb0 hb1 l0
      have K0 := K1
      have hb0 := hb2
      clear K1 hb2
      have k0 := K0.cells
      have l0 := K0.lt
      go_wp2_with fail
      go_ret
      refine ⟨?_, hb0⟩
      have htx := HTX.out
      simp only [if_true, if_false, Bool.false_eq_true, List.nil_append, List.append_nil, List.cons_append, Lib.join_one, Lib.join_cons, Lib.joinTail] at htx
      rw [htx, HN.out]
      rw [HS1.out]
      rw [HS2.out]
      simp only [cat_bytes, lit32, lit3264, lit46]
      simp [tick]
  · go_wp2_with (refine wpList_load_row_w rfl 50 _ rfl (w.heap.size) rfl _ (opC ⟨k, t, x, s, u, b, n⟩) (0, 0) _ (by exact K0) Tryz.underlying50 rfl (by kernel_rfl) ?_)
    refine (HA.out _).mono ?_
    rintro e w3 ⟨rfl, hb1⟩
    have K1 := K0.keep hb1
    have hb2 := hb0.trans (hb1.mono hb0.size)
    clear k0 K0 hb0 hb1 l0
    have K0 := K1
    have hb0 := hb2
    clear K1 hb2
    have k0 := K0.cells
    have l0 := K0.lt
    go_wp2_with (refine wpList_load_row_w rfl 50 _ rfl (w.heap.size) rfl _ (opC ⟨k, t, x, s, u, b, n⟩) (0, 0) _ (by exact K0) Tryz.underlying50 rfl (by kernel_rfl) ?_)
    refine (HA.out _).mono ?_
    rintro e w4 ⟨rfl, hb1⟩
    have K1 := K0.keep hb1
    have hb2 := hb0.trans (hb1.mono hb0.size)
    clear k0 K0 hb0 hb1 l0
    have K0 := K1
    have hb0 := hb2
    clear K1 hb2
    have k0 := K0.cells
    have l0 := K0.lt
    obtain ⟨s3, hz3, hs3, hh3⟩ := refNumS x (by have := FX.out; omega) (by have := FX.out; omega)
    have HS3 := Lib.hid hs3
    have H3 := Lib.hid hh3
    clear hs3 hh3
    have hg5 : ¬ 9223372036854775807 < sl.size + 1 := by omega
    have hg6 : ¬ 9223372036854775807 < sl.size + 1 + s3.size := by omega
    go_wp2_with fail
    refine (H3.out _).mono ?_
    rintro e zz ⟨rfl, hzz⟩
    obtain rfl : zz = _ := hzz
    go_wp2_with fail
    go_ret
    refine ⟨?_, hb0⟩
    have htx := HTX.out
    simp only [if_true, if_false, Bool.false_eq_true, List.nil_append, List.append_nil, List.cons_append, Lib.join_one, Lib.join_cons, Lib.joinTail] at htx
    rw [htx, HN.out]
    rw [HS3.out]
    simp only [cat_bytes, lit32, lit3264, lit46]
    simp [tick]
  · go_wp2_with (refine wpList_load_row_w rfl 50 _ rfl (w.heap.size) rfl _ (opC ⟨k, t, x, s, u, b, n⟩) (0, 0) _ (by exact K0) Tryz.underlying50 rfl (by kernel_rfl) ?_)
    refine (HA.out _).mono ?_
    rintro e w3 ⟨rfl, hb1⟩
    have K1 := K0.keep hb1
    have hb2 := hb0.trans (hb1.mono hb0.size)
    clear k0 K0 hb0 hb1 l0
    have K0 := K1
    have hb0 := hb2
    clear K1 hb2
    have k0 := K0.cells
    have l0 := K0.lt
    have hU := HU.out (by trivial)
    cases u
    · obtain ⟨s1, hz1, hs1, hh1⟩ := refNumS t (by have := FT.out; omega) (by have := FT.out; omega)
      have HS1 := Lib.hid hs1
      have H1 := Lib.hid hh1
      clear hs1 hh1
      have hg0 : ¬ 9223372036854775807 < sl.size + 1 := by omega
      have hg1 : ¬ 9223372036854775807 < sl.size + 1 + s1.size := by omega
      clear hU
      go_wp2_with (refine wpList_load_row_w rfl 50 _ rfl (w.heap.size) rfl _ (opC ⟨k, t, x, s, u, b, n⟩) (0, 0) _ (by exact K0) Tryz.underlying50 rfl (by kernel_rfl) ?_)
      refine (HA.out _).mono ?_
      rintro e w4 ⟨rfl, hb1⟩
      have K1 := K0.keep hb1
      have hb2 := hb0.trans (hb1.mono hb0.size)
      clear k0 K0 hb0 hb1 l0
      have K0 := K1
      have hb0 := hb2
      clear K1 hb2
      have k0 := K0.cells
      have l0 := K0.lt
      go_wp2_with fail
      refine (H1.out _).mono ?_
      rintro e zz ⟨rfl, hzz⟩
      obtain rfl : zz = _ := hzz
      obtain ⟨s3, hz3, hs3, hh3⟩ := refNumS x (by have := FX.out; omega) (by have := FX.out; omega)
      have HS3 := Lib.hid hs3
      have H3 := Lib.hid hh3
      clear hs3 hh3
      have hg5 : ¬ 9223372036854775807 < sl.size + 1 + s1.size + 1 := by omega
      have hg6 : ¬ 9223372036854775807 < sl.size + 1 + s1.size + 1 + s3.size := by omega
      go_wp2_with fail
      refine (H3.out _).mono ?_
      rintro e zz ⟨rfl, hzz⟩
      obtain rfl : zz = _ := hzz
      go_wp2_with fail
      go_ret
      refine ⟨?_, hb0⟩
      have htx := HTX.out
      simp only [if_true, if_false, Bool.false_eq_true, List.nil_append, List.append_nil, List.cons_append, Lib.join_one, Lib.join_cons, Lib.joinTail] at htx
      rw [htx, HN.out]
      rw [HS1.out]
      rw [HS3.out]
      simp only [cat_bytes, lit32, lit3264, lit46]
      simp [tick]
    · obtain ⟨hub, hun⟩ := hU rfl
      clear hU
      obtain ⟨s1, hz1, hs1, hh1⟩ := refNumS b hub (by have := FB.out; omega)
      have HS1 := Lib.hid hs1
      have H1 := Lib.hid hh1
      clear hs1 hh1
      obtain ⟨s2, hz2, hs2, hh2⟩ := refNumS n hun (by have := FN.out; omega)
      have HS2 := Lib.hid hs2
      have H2 := Lib.hid hh2
      clear hs2 hh2
      go_upto_region 5 with fail
      have hq1 := FB.out
      have hq2 := FN.out
      have hwb : IntKind.u64.wrap b = b := by rw [IntKind.wrap_u64]; omega
      have hwn : IntKind.u64.wrap n = n := by rw [IntKind.wrap_u64]; omega
      have hS0 : Below w3.heap.size w3 w3.drew := Below.drew (Below.refl _ _)
      refine wp_region_held_drew (S := fun w' => Below w3.heap.size w3 w') (by kernel_rfl) hS0 (fun hHeld => ?_)
      clear hS0
      generalize w3.drew = z0 at *
      refine wpAnyH_take (i := 0) (oi := _) (v := .string sl) rfl (by kernel_rfl) (by kernel_rfl) (by kernel_rfl) (fun _ _ _ h => h) (Or.inl ⟨by rfl, fun w' hSw => by go_simp⟩) hHeld ?_
      try simp only [Act.put, List.getElem_toArray, List.getElem_cons_succ, List.getElem_cons_zero, List.setIfInBounds_toArray, List.set_cons_succ, List.set_cons_zero]
      refine wpAnyH_take (i := 1) (oi := _) (v := .string (sl ++ ⟨#[32, 64]⟩)) rfl (by kernel_rfl) (by kernel_rfl) (by kernel_rfl) (fun _ _ _ h => h) (Or.inl ⟨by rfl, fun w' hSw => by go_simp; omega⟩) hHeld ?_
      try simp only [Act.put, List.getElem_toArray, List.getElem_cons_succ, List.getElem_cons_zero, List.setIfInBounds_toArray, List.set_cons_succ, List.set_cons_zero]
      refine wpAnyH_take (i := 2) (oi := _) (v := .pointer (some ⟨w.heap.size, 5, none⟩)) rfl (by kernel_rfl) (by kernel_rfl) (by kernel_rfl) (fun _ _ _ h => h) (Or.inl ⟨by rfl, fun w' hSw => by go_simp⟩) hHeld ?_
      try simp only [Act.put, List.getElem_toArray, List.getElem_cons_succ, List.getElem_cons_zero, List.setIfInBounds_toArray, List.set_cons_succ, List.set_cons_zero]
      refine wpAnyH_take (i := 3) (oi := _) (v := .int .i64 b) rfl (by kernel_rfl) (by kernel_rfl) (by kernel_rfl) (fun _ _ _ h => h) (Or.inl ⟨by rfl, fun w' hSw => by have xx := (K0.keep hSw).cells; go_simp⟩) hHeld ?_
      try simp only [Act.put, List.getElem_toArray, List.getElem_cons_succ, List.getElem_cons_zero, List.setIfInBounds_toArray, List.set_cons_succ, List.set_cons_zero]
      refine wpAnyH_take (i := 4) (oi := _) (v := .int .u64 b) rfl (by kernel_rfl) (by kernel_rfl) (by kernel_rfl) (fun _ _ _ h => h) (Or.inl ⟨by rfl, fun w' hSw => by go_simp⟩) hHeld ?_
      try simp only [Act.put, List.getElem_toArray, List.getElem_cons_succ, List.getElem_cons_zero, List.setIfInBounds_toArray, List.set_cons_succ, List.set_cons_zero]
      refine wpAnyH_take (i := 8) (oi := _) (v := .pointer (some ⟨w.heap.size, 6, none⟩)) rfl (by kernel_rfl) (by kernel_rfl) (by kernel_rfl) (fun _ _ _ h => h) (Or.inl ⟨by rfl, fun w' hSw => by go_simp⟩) hHeld ?_
      try simp only [Act.put, List.getElem_toArray, List.getElem_cons_succ, List.getElem_cons_zero, List.setIfInBounds_toArray, List.set_cons_succ, List.set_cons_zero]
      refine wpAnyH_take (i := 9) (oi := _) (v := .int .i64 n) rfl (by kernel_rfl) (by kernel_rfl) (by kernel_rfl) (fun _ _ _ h => h) (Or.inl ⟨by rfl, fun w' hSw => by have xx := (K0.keep hSw).cells; go_simp⟩) hHeld ?_
      try simp only [Act.put, List.getElem_toArray, List.getElem_cons_succ, List.getElem_cons_zero, List.setIfInBounds_toArray, List.set_cons_succ, List.set_cons_zero]
      refine wpAnyH_take (i := 10) (oi := _) (v := .int .u64 n) rfl (by kernel_rfl) (by kernel_rfl) (by kernel_rfl) (fun _ _ _ h => h) (Or.inl ⟨by rfl, fun w' hSw => by go_simp⟩) hHeld ?_
      try simp only [Act.put, List.getElem_toArray, List.getElem_cons_succ, List.getElem_cons_zero, List.setIfInBounds_toArray, List.set_cons_succ, List.set_cons_zero]
      refine wpAnyH_ready (rs := [5]) (by kernel_rfl) (by simp) ?_
      refine AllReadyH.cons (o := _) rfl (fun K hK => ?_) AllReadyH.nil
      go_simp
      refine (H1.out _).mono ?_
      rintro en zz ⟨rfl, hzz⟩
      obtain rfl : zz = _ := hzz
      refine hK.out _ _ hHeld (fun hHeld => ?_)
      clear hK K
      try simp only [Act.put, List.getElem_toArray, List.getElem_cons_succ, List.getElem_cons_zero, List.setIfInBounds_toArray, List.set_cons_succ, List.set_cons_zero]
      refine wpAnyH_take (i := 6) (oi := _) (v := .string (sl ++ ⟨#[32, 64]⟩ ++ s1)) rfl (by kernel_rfl) (by kernel_rfl) (by kernel_rfl) (fun _ _ _ h => h) (Or.inl ⟨by rfl, fun w' hSw => by go_simp; omega⟩) hHeld ?_
      try simp only [Act.put, List.getElem_toArray, List.getElem_cons_succ, List.getElem_cons_zero, List.setIfInBounds_toArray, List.set_cons_succ, List.set_cons_zero]
      refine wpAnyH_take (i := 7) (oi := _) (v := .string (sl ++ ⟨#[32, 64]⟩ ++ s1 ++ ⟨#[46]⟩)) rfl (by kernel_rfl) (by kernel_rfl) (by kernel_rfl) (fun _ _ _ h => h) (Or.inl ⟨by rfl, fun w' hSw => by go_simp; omega⟩) hHeld ?_
      try simp only [Act.put, List.getElem_toArray, List.getElem_cons_succ, List.getElem_cons_zero, List.setIfInBounds_toArray, List.set_cons_succ, List.set_cons_zero]
      refine wpAnyH_ready (rs := [11]) (by kernel_rfl) (by simp) ?_
      refine AllReadyH.cons (o := _) rfl (fun K hK => ?_) AllReadyH.nil
      go_simp
      refine (H2.out _).mono ?_
      rintro en zz ⟨rfl, hzz⟩
      obtain rfl : zz = _ := hzz
      refine hK.out _ _ hHeld (fun hHeld => ?_)
      clear hK K
      try simp only [Act.put, List.getElem_toArray, List.getElem_cons_succ, List.getElem_cons_zero, List.setIfInBounds_toArray, List.set_cons_succ, List.set_cons_zero]
      refine wpAnyH_take (i := 12) (oi := _) (v := .string (sl ++ ⟨#[32, 64]⟩ ++ s1 ++ ⟨#[46]⟩ ++ s2)) rfl (by kernel_rfl) (by kernel_rfl) (by kernel_rfl) (fun _ _ _ h => h) (Or.inl ⟨by rfl, fun w' hSw => by go_simp; omega⟩) hHeld ?_
      try simp only [Act.put, List.getElem_toArray, List.getElem_cons_succ, List.getElem_cons_zero, List.setIfInBounds_toArray, List.set_cons_succ, List.set_cons_zero]
      refine wpAnyH_take (i := 13) (oi := _) (v := .string (sl ++ ⟨#[32, 64]⟩ ++ s1 ++ ⟨#[46]⟩ ++ s2)) rfl (by kernel_rfl) (by kernel_rfl) (by kernel_rfl) (fun _ _ _ h => h) (Or.inl ⟨by rfl, fun w' hSw => by go_simp⟩) hHeld ?_
      try simp only [Act.put, List.getElem_toArray, List.getElem_cons_succ, List.getElem_cons_zero, List.setIfInBounds_toArray, List.set_cons_succ, List.set_cons_zero]
      refine wpAnyH_done (by kernel_rfl) ?_ _
      have K1 := K0.keep hHeld
      have hb2 := hb0.trans (hHeld.mono hb0.size)
      clear k0 K0 hb0 hHeld l0 hq1 hq2 hwb hwn
      have K0 := K1
      have hb0 := hb2
      clear K1 hb2
      have k0 := K0.cells
      have l0 := K0.lt
      simp only [Exit.then]
      go_wp2_with (refine wpList_load_row_w rfl 50 _ rfl (w.heap.size) rfl _ (opC ⟨k, t, x, s, u, b, n⟩) (0, 0) _ (by exact K0) Tryz.underlying50 rfl (by kernel_rfl) ?_)
      refine (HA.out _).mono ?_
      rintro e w4 ⟨rfl, hb1⟩
      have K1 := K0.keep hb1
      have hb2 := hb0.trans (hb1.mono hb0.size)
      clear k0 K0 hb0 hb1 l0
      have K0 := K1
      have hb0 := hb2
      clear K1 hb2
      have k0 := K0.cells
      have l0 := K0.lt
      obtain ⟨s3, hz3, hs3, hh3⟩ := refNumS x (by have := FX.out; omega) (by have := FX.out; omega)
      have HS3 := Lib.hid hs3
      have H3 := Lib.hid hh3
      clear hs3 hh3
      have hg5 : ¬ 9223372036854775807 < sl.size + 2 + s1.size + 1 + s2.size + 1 := by omega
      have hg6 : ¬ 9223372036854775807 < sl.size + 2 + s1.size + 1 + s2.size + 1 + s3.size := by omega
      go_wp2_with fail
      refine (H3.out _).mono ?_
      rintro e zz ⟨rfl, hzz⟩
      obtain rfl : zz = _ := hzz
      go_wp2_with fail
      go_ret
      refine ⟨?_, hb0⟩
      have htx := HTX.out
      simp only [if_true, if_false, Bool.false_eq_true, List.nil_append, List.append_nil, List.cons_append, Lib.join_one, Lib.join_cons, Lib.joinTail] at htx
      rw [htx, HN.out]
      rw [HS1.out]
      rw [HS2.out]
      rw [HS3.out]
      simp only [cat_bytes, lit32, lit3264, lit46]
      simp [tick]
  · go_wp2_with (refine wpList_load_row_w rfl 50 _ rfl (w.heap.size) rfl _ (opC ⟨k, t, x, s, u, b, n⟩) (0, 0) _ (by exact K0) Tryz.underlying50 rfl (by kernel_rfl) ?_)
    refine (HA.out _).mono ?_
    rintro e w3 ⟨rfl, hb1⟩
    have K1 := K0.keep hb1
    have hb2 := hb0.trans (hb1.mono hb0.size)
    clear k0 K0 hb0 hb1 l0
    have K0 := K1
    have hb0 := hb2
    clear K1 hb2
    have k0 := K0.cells
    have l0 := K0.lt
    go_wp2_with (refine wpList_load_row_w rfl 50 _ rfl (w.heap.size) rfl _ (opC ⟨k, t, x, s, u, b, n⟩) (0, 0) _ (by exact K0) Tryz.underlying50 rfl (by kernel_rfl) ?_)
    refine (HA.out _).mono ?_
    rintro e w4 ⟨rfl, hb1⟩
    have K1 := K0.keep hb1
    have hb2 := hb0.trans (hb1.mono hb0.size)
    clear k0 K0 hb0 hb1 l0
    have K0 := K1
    have hb0 := hb2
    clear K1 hb2
    have k0 := K0.cells
    have l0 := K0.lt
    obtain ⟨s3, hz3, hs3, hh3⟩ := refNumS s (HSL.out (by trivial)) (by have := FS.out; omega)
    have HS3 := Lib.hid hs3
    have H3 := Lib.hid hh3
    clear hs3 hh3
    have hq := HFF.out.s
    have hq0 := HSL.out (by trivial)
    have hg5 : ¬ 9223372036854775807 < sl.size + 1 := by omega
    have hg6 : ¬ 9223372036854775807 < sl.size + 1 + s3.size := by omega
    go_wp2_with fail
    refine (H3.out _).mono ?_
    rintro e zz ⟨rfl, hzz⟩
    obtain rfl : zz = _ := hzz
    go_wp2_with fail
    go_ret
    refine ⟨?_, hb0⟩
    have htx := HTX.out
    simp only [if_true, if_false, Bool.false_eq_true, List.nil_append, List.append_nil, List.cons_append, Lib.join_one, Lib.join_cons, Lib.joinTail] at htx
    rw [htx, HN.out]
    rw [HS3.out]
    simp only [cat_bytes, lit32, lit3264, lit46]
    simp [tick]
end Go.Proofs.YtpmcedfeiconfaaGreatDoor.Opw
