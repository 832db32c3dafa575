/- The configuration as eight integers; what Check answers; no Go in this text. -/
import Derived.ProofKit
namespace Go.Proofs.YtpmcedfeiconfaaGreatDoor.Pl
open Go
set_option linter.unusedVariables false

structure Cfg where
  (ww sl bl wd en rk bg la : Int)
  deriving DecidableEq
abbrev cv (c : Cfg) : Value := .agg #[.int .i64 c.ww, .int .i64 c.sl, .int .i64 c.bl, .int .i64 c.wd, .int .i64 c.en, .int .i64 c.rk, .int .i64 c.bg, .int .u64 c.la]
/-- The integers fit their kinds. -/
structure Cfg.Wf (c : Cfg) : Prop where
  la0 : 0 ≤ c.la
  la1 : c.la < 18446744073709551616
def lastOf (c : Cfg) : Int := if c.la < 1048577 then c.la else 1048577
def valAt (c : Cfg) : Nat → Int
  | 0 => c.ww | 1 => c.sl | 2 => c.bl | 3 => c.wd | 4 => c.en | 5 => c.rk | 6 => c.bg | _ => lastOf c
def leastAt : Nat → Int
  | 5 => 0 | _ => 1
def mostAt : Nat → Int
  | 0 => 8 | 1 => 8 | 2 => 16 | 3 => 4 | 4 => 32 | 5 => 4 | 6 => 8 | _ => 1048576
def resAt (c : Cfg) : Nat → Int
  | 0 => 0
  | k + 1 => if mostAt k < valAt c k then 2 else resAt c k
def Small (c : Cfg) : Prop := c.ww < 1 ∨ c.sl < 1 ∨ c.bl < 1 ∨ c.wd < 1 ∨ c.en < 1 ∨ c.bg < 1 ∨ c.rk < 0 ∨ c.la < 1
def Big (c : Cfg) : Prop := 8 < c.ww ∨ 8 < c.sl ∨ 16 < c.bl ∨ 4 < c.wd ∨ 32 < c.en ∨ 8 < c.bg ∨ 4 < c.rk ∨ 1048576 < c.la
instance (c : Cfg) : Decidable (Small c) := by unfold Small; infer_instance
instance (c : Cfg) : Decidable (Big c) := by unfold Big; infer_instance
def chk (c : Cfg) : Int := if Small c then 1 else if Big c then 2 else 0

theorem small_at {c : Cfg} {k : Nat} (hk : k < 8) (h : valAt c k < leastAt k) : Small c := by
  unfold Small
  match k, hk with
  | 0, _ | 1, _ | 2, _ | 3, _ | 4, _ | 5, _ | 6, _ => simp only [valAt, leastAt] at h; omega
  | 7, _ => simp only [valAt, leastAt, lastOf] at h; split at h <;> omega
theorem chk_small {c : Cfg} (h : Small c) : chk c = 1 := by unfold chk; rw [if_pos h]
theorem chk_full {c : Cfg} (h : ∀ k, k < 8 → leastAt k ≤ valAt c k) : chk c = resAt c 8 := by
  have h0 := h 0 (by decide)
  have h1 := h 1 (by decide)
  have h2 := h 2 (by decide)
  have h3 := h 3 (by decide)
  have h4 := h 4 (by decide)
  have h5 := h 5 (by decide)
  have h6 := h 6 (by decide)
  have h7 := h 7 (by decide)
  simp only [valAt, leastAt, lastOf] at h0 h1 h2 h3 h4 h5 h6 h7
  have hs : ¬ Small c := by unfold Small; split at h7 <;> omega
  unfold chk
  rw [if_neg hs]
  simp only [resAt, mostAt, valAt, lastOf]
  by_cases b : Big c
  · rw [if_pos b]
    unfold Big at b
    repeat' split
    all_goals first | rfl | omega
  · rw [if_neg b]
    unfold Big at b
    repeat' split
    all_goals first | rfl | omega
theorem res_range (c : Cfg) : ∀ k, 0 ≤ resAt c k ∧ resAt c k ≤ 2
  | 0 => by simp [resAt]
  | k + 1 => by
    have := res_range c k
    unfold resAt; split <;> omega
/-- A valid configuration. -/
structure Ok (c : Cfg) : Prop where
  ww : 1 ≤ c.ww ∧ c.ww ≤ 8
  sl : 1 ≤ c.sl ∧ c.sl ≤ 8
  bl : 1 ≤ c.bl ∧ c.bl ≤ 16
  wd : 1 ≤ c.wd ∧ c.wd ≤ 4
  en : 1 ≤ c.en ∧ c.en ≤ 32
  rk : 0 ≤ c.rk ∧ c.rk ≤ 4
  bg : 1 ≤ c.bg ∧ c.bg ≤ 8
  la : 1 ≤ c.la ∧ c.la ≤ 1048576
theorem chk_ok {c : Cfg} : chk c = 0 ↔ Ok c := by
  unfold chk
  constructor
  · intro h
    split at h
    · cases h
    · split at h
      · cases h
      · rename_i hs hb
        unfold Small at hs; unfold Big at hb
        exact ⟨by omega, by omega, by omega, by omega, by omega, by omega, by omega, by omega⟩
  · intro h
    obtain ⟨a1, a2, a3, a4, a5, a6, a7, a8⟩ := h
    rw [if_neg (by unfold Small; omega), if_neg (by unfold Big; omega)]
theorem chk_range (c : Cfg) : 0 ≤ chk c ∧ chk c ≤ 2 := by
  unfold chk; split
  · omega
  · split <;> omega
end Go.Proofs.YtpmcedfeiconfaaGreatDoor.Pl
