/- The reference's Home, and the example of layer 2. -/
import Derived.Test.YticgpikpefgldaaPlans
namespace Go.Proofs.Yticgpikpefgldaa.Pl
open Go Go.RowKit Go.Proofs.Yticgpikpefgldaa.Gro Go.Proofs.Yticgpikpefgldaa.Own
set_option linter.unusedVariables false
set_option linter.unusedSimpArgs false

theorem hom_at {c : Cfg} (h : Ok c) (b : Int) (k : Nat) (h1 : (k : Int) < c.sl) (h2 : (k : Int) * c.bl ≤ b) (h3 : b < ((k : Int) + 1) * c.bl) : aHom c b = k := by
  have hb := h.bl
  have hk := tot_ok (okB_of_ok h)
  have h0 : 0 ≤ b := Int.le_trans (Int.mul_nonneg (by omega) (by omega)) h2
  have hlt : b < tot c := by
    have : ((k : Int) + 1) * c.bl ≤ c.sl * c.bl := Int.mul_le_mul_of_nonneg_right (by omega) (by omega)
    omega
  rw [aHom, if_pos ((hasB_ok h _ _).2 ⟨h0, hlt⟩)]
  have e : b = c.bl * k + (b - k * c.bl) := by rw [Int.mul_comm c.bl]; omega
  rw [e, Int.mul_add_ediv_left _ _ (by omega)]
  have : (b - k * c.bl) / c.bl = 0 := Int.ediv_eq_zero_of_lt (by omega) (by rw [Int.add_mul] at h3; omega)
  omega
theorem hom_none {c : Cfg} (h : Ok c) (b : Int) (h2 : c.sl * c.bl ≤ b) : aHom c b = -1 := by
  have hk := tot_ok (okB_of_ok h)
  rw [aHom, if_neg (fun e => by have := (hasB_ok h _ _).1 e; omega)]
theorem mul_pos_range {k b : Int} (h0 : 0 ≤ k) (h1 : k ≤ 8) (hb : 1 ≤ b) (hB : b ≤ 16) : 0 ≤ (k + 1) * b ∧ (k + 1) * b ≤ 144 := by
  have := mul_range (a := k + 1) (b := b) (A := 9) (B := 16) (by omega) (by omega) (by omega) hB
  omega
set_option maxHeartbeats 1000000 in
theorem refHome (c : Cfg) (h : c.Wf) (b : Int) (w : World) : Calls Try.prog 127 #[cv c, .int .i64 b] w fun e w' => e = .returned (.int .i64 (aHom c b)) ∧ Below w.heap.size w w' := by
  by_cases hv : chk c = 0
  · have hB' : (chk c != 0) = false := by simp [hv]
    have ho := chk_ok.1 hv
    clear hv
    by_cases hn : b < 0
    · have HK : RowKit.Hid (aHom c b = -1) := Lib.hid (by rw [aHom, if_neg (fun e => by have := (hasB_ok ho _ _).1 e; omega)])
      go_enter Try.func127, Try.ntmps127
      go_wp2_with (go_at_call 63; refine (refCheck c h _).mono ?_; rintro e w1 ⟨rfl, hb1⟩; obtain ⟨hc1, hf1⟩ := bcell hb1)
      go_ret
      exact ⟨ret_int HK.out.symm, ((Below.refl _ _).alloc (Nat.le_refl _) _).trans (hb1.mono (by simp))⟩
    · have hn0 : 0 ≤ b := by omega
      have hn1 : decide (b < 0) = false := by simp; omega
      obtain ⟨hs0, hs1⟩ := ho.sl
      obtain ⟨hl0, hl1⟩ := ho.bl
      go_enter Try.func127, Try.ntmps127
      go_wp2_with (go_at_call 63; refine (refCheck c h _).mono ?_; rintro e w1 ⟨rfl, hb1⟩; obtain ⟨hc1, hf1⟩ := bcell hb1)
      go_loop [5] (fun i => ∃ k : Nat, (k : Int) ≤ c.sl ∧ i = .int .i64 k ∧ (k : Int) * c.bl ≤ b) (fun i => c.sl.toNat - (intOf i).toNat)
      case atStart => exact ⟨0, by omega, rfl, by simpa using hn0⟩
      case round =>
        obtain ⟨k, hk, rfl, hkb⟩ := hrel
        have HKB := Lib.hid hkb
        clear hkb
        by_cases hlt : (k : Int) < c.sl
        · obtain ⟨hm0, hm1⟩ := mul_pos_range (k := k) (b := c.bl) (by omega) (by omega) hl0 hl1
          by_cases hin : b < ((k : Int) + 1) * c.bl
          · have HK := Lib.hid (hom_at ho b k hlt HKB.out hin)
            go_wp2
            go_ret
            exact ⟨ret_int HK.out.symm, ((Below.refl _ _).alloc (Nat.le_refl _) _).trans (hb1.mono (by simp))⟩
          · go_wp2
            go_round
            case rel => exact ⟨k + 1, by omega, by go_num, by rw [Int.natCast_add]; simp; omega⟩
            case measure => simp [intOf]; omega
        · have HK := Lib.hid (hom_none ho b (by have e : (k : Int) = c.sl := by omega
                                                rw [← e]; exact HKB.out))
          go_wp2
          go_ret
          exact ⟨ret_int HK.out.symm, ((Below.refl _ _).alloc (Nat.le_refl _) _).trans (hb1.mono (by simp))⟩
  · have hB' : (chk c != 0) = true := by simp [hv]
    have HK : RowKit.Hid (aHom c b = -1) := Lib.hid (by rw [aHom, bad hv]; rfl)
    clear hv
    go_enter Try.func127, Try.ntmps127
    go_wp2_with (go_at_call 63; refine (refCheck c h _).mono ?_; rintro e w1 ⟨rfl, hb1⟩; obtain ⟨hc1, hf1⟩ := bcell hb1)
    go_ret
    exact ⟨ret_int HK.out.symm, ((Below.refl _ _).alloc (Nat.le_refl _) _).trans (hb1.mono (by simp))⟩

def c0 : Cfg := ⟨1, 1, 2, 1, 1, 0, 1, 1⟩
theorem c0_wf : c0.Wf := ⟨by decide, by decide⟩
theorem c0_ok : Ok c0 := ⟨by decide, by decide, by decide, by decide, by decide, by decide, by decide, by decide⟩
theorem build_c0 (w : World) : (Instr.build 24 #[(0, .int .i64 1), (1, .int .i64 1), (2, .int .i64 2), (3, .int .i64 1), (4, .int .i64 1), (6, .int .i64 1), (7, .int .u64 1)]).run Try.prog w = .ok (cv c0) w := run_build w _ _ _ (by kernel_rfl)
theorem chk_c0 : chk c0 = 0 := chk_ok.2 c0_ok
end Go.Proofs.Yticgpikpefgldaa.Pl
