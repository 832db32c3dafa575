/- slices.Equal (made by genequal.py). -/
import Derived.Test.YtkplkhcboobfaaaWords
namespace Go.Proofs.Ytkplkhcboobfaaa.Wd
open Go Go.RowKit Go.Proofs.Ytkplkhcboobfaaa.Gro
set_option linter.unusedVariables false
set_option linter.unusedSimpArgs false
theorem equW_ne (a1 a2 : Option Addr) (n1 n2 c1 c2 : Nat) (h : n1 ≠ n2) (w : World) : Calls Try.prog 63 #[.slice a1 n1 c1, .slice a2 n2 c2] w fun e w' => e = .returned (.bool false) ∧ Below w.heap.size w w' := by
  have hne : ((n1 : Int) != (n2 : Int)) = true := by simp; omega
  go_enter Try.func63, Try.ntmps63
  go_wp2
  go_ret
  exact ⟨rfl, Below.refl _ _⟩
theorem equW_zero (a1 a2 : Option Addr) (c1 c2 : Nat) (w : World) : Calls Try.prog 63 #[.slice a1 0 c1, .slice a2 0 c2] w fun e w' => e = .returned (.bool true) ∧ Below w.heap.size w w' := by
  go_enter Try.func63, Try.ntmps63
  go_wp2
  refine wp_loop_rounds 1 ?_
  rw [rounds_succ]
  go_wp2
  go_ret
  exact ⟨rfl, Below.refl _ _⟩
set_option maxHeartbeats 400000 in
theorem equW_pos (b1 o1 b2 o2 c1 c2 : Nat) (l1 l2 : List Int) (hlen : l1.length = l2.length) (w : World) (hm : l1.length ≤ maxLen)
    (h1 : ∀ i (h : i < l1.length), w.cell? ⟨b1, o1 + i, none⟩ = some (.int .u64 l1[i])) (h2 : ∀ i (h : i < l2.length), w.cell? ⟨b2, o2 + i, none⟩ = some (.int .u64 l2[i])) :
    Calls Try.prog 63 #[.slice (some ⟨b1, o1, none⟩) l1.length c1, .slice (some ⟨b2, o2, none⟩) l1.length c2] w fun e w' => e = .returned (.bool (decide (l1 = l2))) ∧ Below w.heap.size w w' := by
  unfold maxLen at hm
  have H1 := Lib.hid h1
  have H2 := Lib.hid h2
  have HL := Lib.hid hlen
  clear h1 h2 hlen
  go_enter Try.func63, Try.ntmps63
  go_wp2
  go_loopw [13] (fun i wr => ∃ k : Nat, k ≤ l1.length ∧ i = .int .i64 k ∧ (∀ j (h : j < k) (h1 : j < l1.length), l1[j] = l2[j]'(by have := HL.out; omega)) ∧ ∃ n, wr = w.drewN n) (fun i _ => l1.length - (intOf i).toNat)
  case atStart => exact ⟨0, Nat.zero_le _, rfl, fun j h => by omega, 0, rfl⟩
  case round =>
    obtain ⟨k, hk, rfl, hall, n, rfl⟩ := hrel
    have HA := Lib.hid hall
    clear hall
    by_cases hlt : k < l1.length
    · have hlt2 : k < l2.length := by have := HL.out; omega
      have q1 := H1.out k hlt
      have q2 := H2.out k hlt2
      by_cases he : l1[k] = l2[k]
      · have hb : (l1[k] != l2[k]) = false := by simp [he]
        have HE := Lib.hid he
        clear he
        go_wp2
        go_quiet (fail)
        go_wp2
        go_roundw
        case rel => exact ⟨k + 1, by omega, by go_num, fun j h h1 => by rcases Nat.lt_succ_iff_lt_or_eq.1 h with h | rfl; exact HA.out j h h1; exact HE.out, _, rfl⟩
        case measure => simp [intOf]; omega
      · have hb : (l1[k] != l2[k]) = true := by simp [he]
        have HE : RowKit.Hid (decide (l1 = l2) = false) := Lib.hid (decide_eq_false (fun e => he (by subst e; rfl)))
        clear he
        go_wp2
        go_quiet (fail)
        go_wp2
        go_ret
        exact ⟨ret_bool HE.out.symm, gro_drewN (gro_drewN (Below.refl _ _))⟩
    · obtain rfl : k = l1.length := by omega
      have HE : RowKit.Hid (decide (l1 = l2) = true) := Lib.hid (decide_eq_true (eq_upto HL.out (fun i h => HA.out i h h)))
      go_wp2
      go_ret
      exact ⟨ret_bool HE.out.symm, gro_drewN (Below.refl _ _)⟩
theorem equW {w : World} {v1 v2 : Value} {l1 l2 : List Int} (h1 : Reads w .u64 v1 l1) (h2 : Reads w .u64 v2 l2) : Calls Try.prog 63 #[v1, v2] w fun e w' => e = .returned (.bool (decide (l1 = l2))) ∧ Below w.heap.size w w' := by
  obtain ⟨a1, c1, rfl, hc1, hm1, h1⟩ := h1
  obtain ⟨a2, c2, rfl, hc2, hm2, h2⟩ := h2
  by_cases hlen : l1.length = l2.length
  · rcases h1 with rfl | ⟨b1, o1, rfl, _, h1⟩
    · have : l2 = [] := List.eq_nil_of_length_eq_zero (by simpa using hlen.symm)
      subst this
      exact equW_zero a1 a2 c1 c2 w
    · rcases h2 with rfl | ⟨b2, o2, rfl, _, h2⟩
      · have : l1 = [] := List.eq_nil_of_length_eq_zero (by simpa using hlen)
        subst this
        exact equW_zero _ a2 c1 c2 w
      · rw [← hlen]
        exact equW_pos b1 o1 b2 o2 c1 c2 l1 l2 hlen w (by omega) h1 h2
  · have hd : decide (l1 = l2) = false := decide_eq_false (fun e => hlen (by rw [e]))
    rw [hd]
    exact equW_ne a1 a2 _ _ c1 c2 hlen w

theorem equI_ne (a1 a2 : Option Addr) (n1 n2 c1 c2 : Nat) (h : n1 ≠ n2) (w : World) : Calls Try.prog 61 #[.slice a1 n1 c1, .slice a2 n2 c2] w fun e w' => e = .returned (.bool false) ∧ Below w.heap.size w w' := by
  have hne : ((n1 : Int) != (n2 : Int)) = true := by simp; omega
  go_enter Try.func61, Try.ntmps61
  go_wp2
  go_ret
  exact ⟨rfl, Below.refl _ _⟩
theorem equI_zero (a1 a2 : Option Addr) (c1 c2 : Nat) (w : World) : Calls Try.prog 61 #[.slice a1 0 c1, .slice a2 0 c2] w fun e w' => e = .returned (.bool true) ∧ Below w.heap.size w w' := by
  go_enter Try.func61, Try.ntmps61
  go_wp2
  refine wp_loop_rounds 1 ?_
  rw [rounds_succ]
  go_wp2
  go_ret
  exact ⟨rfl, Below.refl _ _⟩
set_option maxHeartbeats 400000 in
theorem equI_pos (b1 o1 b2 o2 c1 c2 : Nat) (l1 l2 : List Int) (hlen : l1.length = l2.length) (w : World) (hm : l1.length ≤ maxLen)
    (h1 : ∀ i (h : i < l1.length), w.cell? ⟨b1, o1 + i, none⟩ = some (.int .i64 l1[i])) (h2 : ∀ i (h : i < l2.length), w.cell? ⟨b2, o2 + i, none⟩ = some (.int .i64 l2[i])) :
    Calls Try.prog 61 #[.slice (some ⟨b1, o1, none⟩) l1.length c1, .slice (some ⟨b2, o2, none⟩) l1.length c2] w fun e w' => e = .returned (.bool (decide (l1 = l2))) ∧ Below w.heap.size w w' := by
  unfold maxLen at hm
  have H1 := Lib.hid h1
  have H2 := Lib.hid h2
  have HL := Lib.hid hlen
  clear h1 h2 hlen
  go_enter Try.func61, Try.ntmps61
  go_wp2
  go_loopw [13] (fun i wr => ∃ k : Nat, k ≤ l1.length ∧ i = .int .i64 k ∧ (∀ j (h : j < k) (h1 : j < l1.length), l1[j] = l2[j]'(by have := HL.out; omega)) ∧ ∃ n, wr = w.drewN n) (fun i _ => l1.length - (intOf i).toNat)
  case atStart => exact ⟨0, Nat.zero_le _, rfl, fun j h => by omega, 0, rfl⟩
  case round =>
    obtain ⟨k, hk, rfl, hall, n, rfl⟩ := hrel
    have HA := Lib.hid hall
    clear hall
    by_cases hlt : k < l1.length
    · have hlt2 : k < l2.length := by have := HL.out; omega
      have q1 := H1.out k hlt
      have q2 := H2.out k hlt2
      by_cases he : l1[k] = l2[k]
      · have hb : (l1[k] != l2[k]) = false := by simp [he]
        have HE := Lib.hid he
        clear he
        go_wp2
        go_quiet (fail)
        go_wp2
        go_roundw
        case rel => exact ⟨k + 1, by omega, by go_num, fun j h h1 => by rcases Nat.lt_succ_iff_lt_or_eq.1 h with h | rfl; exact HA.out j h h1; exact HE.out, _, rfl⟩
        case measure => simp [intOf]; omega
      · have hb : (l1[k] != l2[k]) = true := by simp [he]
        have HE : RowKit.Hid (decide (l1 = l2) = false) := Lib.hid (decide_eq_false (fun e => he (by subst e; rfl)))
        clear he
        go_wp2
        go_quiet (fail)
        go_wp2
        go_ret
        exact ⟨ret_bool HE.out.symm, gro_drewN (gro_drewN (Below.refl _ _))⟩
    · obtain rfl : k = l1.length := by omega
      have HE : RowKit.Hid (decide (l1 = l2) = true) := Lib.hid (decide_eq_true (eq_upto HL.out (fun i h => HA.out i h h)))
      go_wp2
      go_ret
      exact ⟨ret_bool HE.out.symm, gro_drewN (Below.refl _ _)⟩
theorem equI {w : World} {v1 v2 : Value} {l1 l2 : List Int} (h1 : Reads w .i64 v1 l1) (h2 : Reads w .i64 v2 l2) : Calls Try.prog 61 #[v1, v2] w fun e w' => e = .returned (.bool (decide (l1 = l2))) ∧ Below w.heap.size w w' := by
  obtain ⟨a1, c1, rfl, hc1, hm1, h1⟩ := h1
  obtain ⟨a2, c2, rfl, hc2, hm2, h2⟩ := h2
  by_cases hlen : l1.length = l2.length
  · rcases h1 with rfl | ⟨b1, o1, rfl, _, h1⟩
    · have : l2 = [] := List.eq_nil_of_length_eq_zero (by simpa using hlen.symm)
      subst this
      exact equI_zero a1 a2 c1 c2 w
    · rcases h2 with rfl | ⟨b2, o2, rfl, _, h2⟩
      · have : l1 = [] := List.eq_nil_of_length_eq_zero (by simpa using hlen)
        subst this
        exact equI_zero _ a2 c1 c2 w
      · rw [← hlen]
        exact equI_pos b1 o1 b2 o2 c1 c2 l1 l2 hlen w (by omega) h1 h2
  · have hd : decide (l1 = l2) = false := decide_eq_false (fun e => hlen (by rw [e]))
    rw [hd]
    exact equI_ne a1 a2 _ _ c1 c2 hlen w
end Go.Proofs.Ytkplkhcboobfaaa.Wd
