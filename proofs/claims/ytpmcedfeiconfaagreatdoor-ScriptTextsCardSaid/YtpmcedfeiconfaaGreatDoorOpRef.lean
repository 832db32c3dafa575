/- Layer 12: the reference's functions; Asks and Shares (made by genoper2.py). -/
import Derived.Test.YtpmcedfeiconfaaGreatDoorOpRight
namespace Go.Proofs.YtpmcedfeiconfaaGreatDoor.Opw
open Go Go.RowKit Go.ChangeMaps Go.Proofs.YtpmcedfeiconfaaGreatDoor.Gro Go.Proofs.YtpmcedfeiconfaaGreatDoor.Own Go.Proofs.YtpmcedfeiconfaaGreatDoor.Mr Go.Proofs.YtpmcedfeiconfaaGreatDoor.Opn
set_option linter.unusedVariables false
set_option linter.unusedSimpArgs false
theorem kind_cases {k : Int} (h : isKind k = true) : k = 1 ∨ k = 2 ∨ k = 3 ∨ k = 4 ∨ k = 5 ∨ k = 6 ∨ k = 7 ∨ k = 8 ∨ k = 9 := by
  have h' : 1 ≤ k ∧ k ≤ 9 := by simpa [isKind] using h
  omega
theorem kind_none {k : Int} (h : isKind k = false) : k ≠ 1 ∧ k ≠ 2 ∧ k ≠ 3 ∧ k ≠ 4 ∧ k ≠ 5 ∧ k ≠ 6 ∧ k ≠ 7 ∧ k ≠ 8 ∧ k ≠ 9 := by
  have h' : ¬ (1 ≤ k ∧ k ≤ 9) := by simpa [isKind] using h
  omega
theorem name_none {k : Int} (h : isKind k = false) : nameB k = ⟨#[]⟩ := by
  obtain ⟨h1, h2, h3, h4, h5, h6, h7, h8, h9⟩ := kind_none h
  unfold nameB name
  rw [if_neg h1, if_neg h2, if_neg h7, if_neg h8, if_neg h3, if_neg h4, if_neg h6, if_neg h5, if_neg h9]
theorem name_some {k : Int} (h : isKind k = true) : ¬ nameB k = ⟨#[]⟩ := by
  rcases kind_cases h with rfl | rfl | rfl | rfl | rfl | rfl | rfl | rfl | rfl <;> decide
theorem emp0 : (⟨#[]⟩ : ByteArray).toList.isEmpty = true := by kernel_rfl
theorem name_emp (k : Int) : (nameB k).toList.isEmpty = !isKind k := by
  cases h : isKind k
  · rw [name_none h, emp0]; rfl
  · rcases kind_cases h with rfl | rfl | rfl | rfl | rfl | rfl | rfl | rfl | rfl <;> kernel_rfl
set_option maxRecDepth 100000 in
set_option maxHeartbeats 8000000 in
theorem refWord (k : Int) (w : World) : Calls Tryz.prog 45 #[.int .i64 k] w fun e w' => e = .returned (.string (nameB k)) ∧ w' = w := by
  cases hk : isKind k
  · rw [name_none hk]
    obtain ⟨h1, h2, h3, h4, h5, h6, h7, h8, h9⟩ := kind_none hk
    clear hk
    go_enter Tryz.func45, Tryz.ntmps45
    go_wp2
    go_ret
    exact ⟨rfl, rfl⟩
  · rcases kind_cases hk with rfl | rfl | rfl | rfl | rfl | rfl | rfl | rfl | rfl
    all_goals
      clear hk
      go_enter Tryz.func45, Tryz.ntmps45
      go_wp2
      go_ret
      exact ⟨rfl, rfl⟩
set_option maxRecDepth 100000 in
set_option maxHeartbeats 8000000 in
theorem refAsks (o : OpD) (w : World) : Calls Tryz.prog 46 #[opV o] w fun e w' => e = .returned (.bool (askB o.k)) ∧ Below w.heap.size w w' := by
  obtain ⟨k, t, x, s, u, b, n⟩ := o
  have K0 := Bk.new w (opC ⟨k, t, x, s, u, b, n⟩) 50
  have hb0 : Below w.heap.size w (w.alloc (.cells (opC ⟨k, t, x, s, u, b, n⟩) 50)) := (Below.refl _ _).alloc (Nat.le_refl _) _
  have hE : askB k = (decide (4 ≤ k) && decide (k ≤ 6)) := by
    rw [Bool.eq_iff_iff]
    simp [askB]
    omega
  rw [hE]
  clear hE
  by_cases h1 : 4 ≤ k
  · by_cases h2 : k ≤ 6
    · go_enter Tryz.func46, Tryz.ntmps46
      go_wp2
      go_ret
      exact ⟨by rw [decide_eq_true h1, decide_eq_true h2]; rfl, hb0⟩
    · go_enter Tryz.func46, Tryz.ntmps46
      go_wp2
      go_ret
      exact ⟨by rw [decide_eq_false (show ¬ k ≤ 6 by omega)]; first | rfl | (rw [Bool.and_false]; rfl), hb0⟩
  · go_enter Tryz.func46, Tryz.ntmps46
    go_wp2
    go_ret
    exact ⟨by rw [decide_eq_false (show ¬ 4 ≤ k by omega), Bool.false_and]; rfl, hb0⟩
set_option maxRecDepth 100000 in
set_option maxHeartbeats 8000000 in
theorem refRight (o : OpD) (w : World) : Calls Tryz.prog 24 #[opV o] w fun e w' => e = .returned (.bool (right o)) ∧ Below w.heap.size w w' := by
  have K0 := Bk.new w (opC o) 50
  have hb0 : Below w.heap.size w (w.alloc (.cells (opC o) 50)) := (Below.refl _ _).alloc (Nat.le_refl _) _
  obtain ⟨bk, hbk⟩ : ∃ q, q = isKind o.k := ⟨_, rfl⟩
  obtain ⟨ba, hba⟩ : ∃ q, q = askB o.k := ⟨_, rfl⟩
  obtain ⟨bt, hbt⟩ : ∃ q, q = rightTkA o ba := ⟨_, rfl⟩
  have hR : right o = (bk && (bt && ((numB o.k || o.x == 0) && (o.s == 0 || (slabB o.k && decide (0 < o.s)))))) := by rw [hbt, hbk, hba]; rfl
  rw [hR]
  have hN : (nameB o.k).toList.isEmpty = !bk := by rw [hbk]; exact name_emp _
  obtain ⟨nb, hnb⟩ : ∃ q, q = nameB o.k := ⟨_, rfl⟩
  rw [← hnb] at hN
  have HN := Lib.hid hnb
  have HA := Lib.hid hba
  have HT := Lib.hid hbt
  clear hbt hba hbk hR hnb
  go_enter Tryz.func24, Tryz.ntmps24
  go_wp2_with fail
  refine (refWord o.k _).mono ?_
  rintro e w1 ⟨rfl, rfl⟩
  rw [← HN.out]
  clear HN
  cases bk
  · simp only [Bool.not_false] at hN
    go_wp2
    go_ret
    exact ⟨by simp, hb0⟩
  simp only [Bool.not_true] at hN
  go_upto_region 3 with fail
  clear hN
  have K1 := Lib.hid K0
  have hb1 := Lib.hid hb0
  go_cut [52] from 7 to 52 (fun p wr => p = .bool (!bt) ∧ Bk wr w.heap.size (opC o) 50 ∧ Below w.heap.size w wr)
  case first =>
    go_wp2_with (refine wpList_load_row_w rfl 50 _ rfl (w.heap.size) rfl _ (opC o) (0, 0) _ (by exact K0) Tryz.underlying50 rfl (by kernel_rfl) ?_)
    refine (refAsks o _).mono ?_
    rintro e w1 ⟨rfl, hb⟩
    have K2 := K0.keep hb
    have hb2 := hb0.trans (hb.mono hb0.size)
    rw [← HA.out]
    have HK2 := Lib.hid K2
    have HB2 := Lib.hid hb2
    have x2 := K2.cells
    clear K0 hb0 hb K2 hb2 K1 hb1
    have H2 : Hid (bt = rightTkA o ba) := HT
    clear HT HA
    cases ba
    all_goals
      go_wp2
    all_goals
      go_meet
      refine ⟨?_, HK2.out, HB2.out⟩
      rw [H2.out]
      clear x2 HK2 HB2 H2
      obtain ⟨k, t, x, s, u, b, n⟩ := o
      cases u <;> simp_all [rightTkA] <;> first | omega | (rw [Bool.eq_iff_iff]; simp; omega)
  case rest =>
    revert wc
    intro wx hcut
    obtain ⟨rfl, K2, hb2⟩ := hcut
    have hlk := K2.lt
    have x2 := K2.cells
    have HB2 := Lib.hid hb2
    clear K0 hb0 K1 hb1 K2 HT HA hb2
    obtain ⟨k, t, x, s, u, b, n⟩ := o
    cases bt
    · go_wp2
      go_ret
      exact ⟨by simp, HB2.out⟩
    · go_wp2
      all_goals
        go_ret
        refine ⟨?_, HB2.out⟩
        clear x2 HB2 hlk
        simp_all [numB, slabB] <;> omega
theorem dec_le : ∀ (d u : Nat), 0 < d → u < 10 ^ d → (Lib.decDigits u).length ≤ d := by
  intro d
  induction d with
  | zero => intro u h; omega
  | succ d ih =>
    intro u _ hu
    rw [Lib.decDigits]
    by_cases h : u < 10
    · rw [dif_pos h]; simp
    · rw [dif_neg h]
      have hd : 0 < d := by
        rcases Nat.eq_zero_or_pos d with rfl | hd
        · exact absurd hu (by simpa using h)
        · exact hd
      have := ih (u / 10) hd (by rw [Nat.pow_succ] at hu; omega)
      simp
      omega
theorem dec_20 {u : Nat} (h : u ≤ 18446744073709551615) : (Lib.decDigits u).length ≤ 20 := dec_le 20 u (by decide) (by omega)
theorem dec_cut {u : Nat} (h : ¬ u < 10) : Lib.decDigits u = Lib.decDigits (u / 10) ++ Lib.decDigits (u % 10) := by
  rw [Lib.decDigits_one (show u % 10 < 10 by omega)]
  conv => lhs; rw [Lib.decDigits, dif_neg h]
theorem cat_bytes (a b : List UInt8) : (⟨a.toArray⟩ : ByteArray) ++ ⟨b.toArray⟩ = ⟨(a ++ b).toArray⟩ := by
  apply ByteArray.ext
  simp
set_option maxRecDepth 100000 in
set_option maxHeartbeats 8000000 in
theorem refNum : ∀ (m : Nat) (n : Int) (w : World), n.toNat ≤ m → 0 ≤ n → n ≤ 18446744073709551615 → Calls Tryz.prog 58 #[.int .u64 n] w fun e w' => e = .returned (.string ⟨(Lib.decDigits n.toNat).toArray⟩) ∧ w' = w := by
  intro m
  induction m with
  | zero =>
    intro n w hm h0 h1
    obtain rfl : n = 0 := by omega
    go_enter Tryz.func58, Tryz.ntmps58
    go_wp2_with fail
    go_ret
    exact ⟨by simp [Lib.decDigits]; rfl, rfl⟩
  | succ m ih =>
    intro n w hm h0 h1
    by_cases hn : n < 10
    · have : n = 0 ∨ n = 1 ∨ n = 2 ∨ n = 3 ∨ n = 4 ∨ n = 5 ∨ n = 6 ∨ n = 7 ∨ n = 8 ∨ n = 9 := by omega
      rcases this with rfl | rfl | rfl | rfl | rfl | rfl | rfl | rfl | rfl | rfl
      all_goals
        clear ih hm h0 h1 hn
        go_enter Tryz.func58, Tryz.ntmps58
        go_wp2_with fail
        go_ret
        exact ⟨by simp [Lib.decDigits]; rfl, rfl⟩
    · go_enter Tryz.func58, Tryz.ntmps58
      go_wp2_with fail
      refine (ih (n / 10) _ (by omega) (by omega) (by omega)).mono ?_
      rintro e w1 ⟨rfl, rfl⟩
      go_wp2_with fail
      refine (ih (n % 10) _ (by omega) (by omega) (by omega)).mono ?_
      rintro e w1 ⟨rfl, rfl⟩
      have hl1 := dec_20 (show (n / 10).toNat ≤ 18446744073709551615 by omega)
      have hl2 := dec_20 (show (n % 10).toNat ≤ 18446744073709551615 by omega)
      have hl : ¬ 9223372036854775807 < (Lib.decDigits (n / 10).toNat).length + (Lib.decDigits (n % 10).toNat).length := by omega
      clear hl1 hl2
      go_wp2_with fail
      go_ret
      refine ⟨?_, rfl⟩
      rw [dec_cut (show ¬ n.toNat < 10 by omega), show n.toNat / 10 = (n / 10).toNat by omega, show n.toNat % 10 = (n % 10).toNat by omega, ← cat_bytes]
      rfl
end Go.Proofs.YtpmcedfeiconfaaGreatDoor.Opw
