/- The reference's Home, and the example of layer 2. -/
import Derived.Test.YtgpdkagmacpghaaGreatPlans
namespace Go.Proofs.YtgpdkagmacpghaaGreat.Pl
open Go Go.RowKit Go.Proofs.YtgpdkagmacpghaaGreat.Gro Go.Proofs.YtgpdkagmacpghaaGreat.Own
set_option linter.unusedVariables false
set_option linter.unusedSimpArgs false

theorem hom_at {c : Cfg} (h : Ok c) (b : Int) (k : Nat) (h1 : (k : Int) < c.sl) (h2 : (k : Int) * c.bl ≤ b) (h3 : b < ((k : Int) + 1) * c.bl) : aHom c b = k := by
  have hb := h.bl
  have hk := tot_ok (okB_of_ok h)
  have h0 : 0 ≤ b := Int.le_trans (Int.mul_nonneg (by omega) (by omega)) h2
  have hlt : b < tot c := by
    have : ((k : Int) + 1) * c.bl ≤ c.sl * c.bl := Int.mul_le_mul_of_nonneg_right (by omega) (by omega)
    omega
  rw [aHom, if_pos ((hasB_ok h _ _).2 ⟨h0, hlt⟩)]
  have e : b = c.bl * k + (b - k * c.bl) := by rw [Int.mul_comm c.bl]; omega
  rw [e, Int.mul_add_ediv_left _ _ (by omega)]
  have : (b - k * c.bl) / c.bl = 0 := Int.ediv_eq_zero_of_lt (by omega) (by rw [Int.add_mul] at h3; omega)
  omega
theorem hom_none {c : Cfg} (h : Ok c) (b : Int) (h2 : c.sl * c.bl ≤ b) : aHom c b = -1 := by
  have hk := tot_ok (okB_of_ok h)
  rw [aHom, if_neg (fun e => by have := (hasB_ok h _ _).1 e; omega)]
theorem mul_pos_range {k b : Int} (h0 : 0 ≤ k) (h1 : k ≤ 8) (hb : 1 ≤ b) (hB : b ≤ 16) : 0 ≤ (k + 1) * b ∧ (k + 1) * b ≤ 144 := by
  have := mul_range (a := k + 1) (b := b) (A := 9) (B := 16) (by omega) (by omega) (by omega) hB
  omega
def c0 : Cfg := ⟨1, 1, 2, 1, 1, 0, 1, 1⟩
theorem c0_wf : c0.Wf := ⟨by decide, by decide⟩
theorem c0_ok : Ok c0 := ⟨by decide, by decide, by decide, by decide, by decide, by decide, by decide, by decide⟩
theorem build_c0 (w : World) : (Instr.build 24 #[(0, .int .i64 1), (1, .int .i64 1), (2, .int .i64 2), (3, .int .i64 1), (4, .int .i64 1), (6, .int .i64 1), (7, .int .u64 1)]).run Tryz.prog w = .ok (cv c0) w := run_build w _ _ _ (by kernel_rfl)
theorem chk_c0 : chk c0 = 0 := chk_ok.2 c0_ok
end Go.Proofs.YtgpdkagmacpghaaGreat.Pl
