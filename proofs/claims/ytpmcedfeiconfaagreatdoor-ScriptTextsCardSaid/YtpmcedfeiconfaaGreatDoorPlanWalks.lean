/- Contracts of package plan. -/
import Derived.Test.YtpmcedfeiconfaaGreatDoorRows
import Derived.Test.YtpmcedfeiconfaaGreatDoorPlanNum
import Derived.WalkKit
import Derived.ProofKit
import Derived.OpenShut
import Derived.Outline
import Derived.LoopTactic
import Derived.Deep.QuietTactic
import Derived.BigQuiet
import Derived.Lib.Hide
import Derived.WalkLawsBesides
import Derived.WalkSpells
import Derived.Deep.RegionHeld3
import Derived.Laws.Rows
import Derived.Laws.CopyOwn
import Derived.Deep.WholeRow
namespace Go.Proofs.YtpmcedfeiconfaaGreatDoor.Pl
open Go Go.RowKit
set_option linter.unusedVariables false
set_option linter.unusedSimpArgs false

theorem ret_int {k : IntKind} {a b : Int} (h : a = b) : Ending.returned (.int k a) = .returned (.int k b) := by rw [h]
theorem val_int {k : IntKind} {a b : Int} (h : a = b) : Value.int k a = .int k b := by rw [h]
def fieldsV (c : Cfg) : Value := .agg #[.int .i64 c.ww, .int .i64 1, .int .i64 8, .int .i64 c.sl, .int .i64 1, .int .i64 8, .int .i64 c.bl, .int .i64 1, .int .i64 16, .int .i64 c.wd, .int .i64 1, .int .i64 4, .int .i64 c.en, .int .i64 1, .int .i64 32, .int .i64 c.rk, .int .i64 0, .int .i64 4, .int .i64 c.bg, .int .i64 1, .int .i64 8, .int .i64 (lastOf c), .int .i64 1, .int .i64 1048576]
theorem min_last (c : Cfg) (ts : Array TypeId) (t : TypeId) (w : World) : (Builtin.min_ ts t #[.int .u64 c.la, .int .u64 1048577]).run Tryz.prog w = .ok (.int .u64 (lastOf c)) w := by
  have h : (if 1048577 < c.la then 1048577 else c.la) = lastOf c := by unfold lastOf; split <;> split <;> omega
  rw [← h]
  exact run_min_int2 w ts t .u64 .u64 c.la 1048577
theorem last_range (c : Cfg) (h : c.Wf) : 0 ≤ lastOf c ∧ lastOf c < 2000000 := by
  obtain ⟨h0, h1⟩ := h
  unfold lastOf; split <;> omega
theorem build_field (a l m : Int) (w : World) : (Instr.build 91 #[(0, .int .i64 a), (1, .int .i64 l), (2, .int .i64 m)]).run Tryz.prog w = .ok (.agg #[.int .i64 a, .int .i64 l, .int .i64 m]) w := run_build w _ _ _ (by kernel_rfl)
theorem build_fields (c : Cfg) (w : World) : (Instr.build 92 #[(0, .agg #[.int .i64 c.ww, .int .i64 1, .int .i64 8]), (1, .agg #[.int .i64 c.sl, .int .i64 1, .int .i64 8]), (2, .agg #[.int .i64 c.bl, .int .i64 1, .int .i64 16]), (3, .agg #[.int .i64 c.wd, .int .i64 1, .int .i64 4]), (4, .agg #[.int .i64 c.en, .int .i64 1, .int .i64 32]), (5, .agg #[.int .i64 c.rk, .int .i64 0, .int .i64 4]), (6, .agg #[.int .i64 c.bg, .int .i64 1, .int .i64 8]), (7, .agg #[.int .i64 (lastOf c), .int .i64 1, .int .i64 1048576])]).run Tryz.prog w = .ok (fieldsV c) w := run_build w _ _ _ (by kernel_rfl)
theorem fields (c : Cfg) (h : c.Wf) (w : World) : Calls Tryz.prog 47 #[cv c] w fun e w' => e = .returned (fieldsV c) ∧ Below w.heap.size w w' := by
  have hm := min_last c
  have hb := build_field
  have hbs := build_fields c
  obtain ⟨h0, h1⟩ := last_range c h
  go_enter Tryz.func47, Tryz.ntmps47
  go_wp2_with (refine wpList_store_row rfl _ _ _ rfl (w.heap.size + 1) (fieldsV c).cells rfl rfl _ _ (heap_alloc2_new _ _ _) (by kernel_rfl) (by kernel_rfl) (by kernel_rfl) ?_)
  refine bodyPost_ret (v := fieldsV c) ?_ rfl ⟨rfl, below_setRow (((Below.refl _ _).alloc (Nat.le_refl _) _).alloc (by simp) _) (by simp) _⟩
  exact results_cell_row (p := 2) (ty := 92) Tryz.results47 _ _ (w.heap.size + 1) 92 (fieldsV c).cells (0, 0) _ rfl (setRow_heap _ _ _ _ _ _ (heap_alloc2_new _ _ _)) Tryz.underlying92 rfl (by kernel_rfl)

theorem index_f0 (c : Cfg) (w : World) : (Instr.index 92 (fieldsV c) (.int .i64 ((0 : Nat) : Int))).run Tryz.prog w = .ok (.agg #[.int .i64 (valAt c 0), .int .i64 (leastAt 0), .int .i64 (mostAt 0)]) w := by kernel_rfl
theorem index_f1 (c : Cfg) (w : World) : (Instr.index 92 (fieldsV c) (.int .i64 ((1 : Nat) : Int))).run Tryz.prog w = .ok (.agg #[.int .i64 (valAt c 1), .int .i64 (leastAt 1), .int .i64 (mostAt 1)]) w := by kernel_rfl
theorem index_f2 (c : Cfg) (w : World) : (Instr.index 92 (fieldsV c) (.int .i64 ((2 : Nat) : Int))).run Tryz.prog w = .ok (.agg #[.int .i64 (valAt c 2), .int .i64 (leastAt 2), .int .i64 (mostAt 2)]) w := by kernel_rfl
theorem index_f3 (c : Cfg) (w : World) : (Instr.index 92 (fieldsV c) (.int .i64 ((3 : Nat) : Int))).run Tryz.prog w = .ok (.agg #[.int .i64 (valAt c 3), .int .i64 (leastAt 3), .int .i64 (mostAt 3)]) w := by kernel_rfl
theorem index_f4 (c : Cfg) (w : World) : (Instr.index 92 (fieldsV c) (.int .i64 ((4 : Nat) : Int))).run Tryz.prog w = .ok (.agg #[.int .i64 (valAt c 4), .int .i64 (leastAt 4), .int .i64 (mostAt 4)]) w := by kernel_rfl
theorem index_f5 (c : Cfg) (w : World) : (Instr.index 92 (fieldsV c) (.int .i64 ((5 : Nat) : Int))).run Tryz.prog w = .ok (.agg #[.int .i64 (valAt c 5), .int .i64 (leastAt 5), .int .i64 (mostAt 5)]) w := by kernel_rfl
theorem index_f6 (c : Cfg) (w : World) : (Instr.index 92 (fieldsV c) (.int .i64 ((6 : Nat) : Int))).run Tryz.prog w = .ok (.agg #[.int .i64 (valAt c 6), .int .i64 (leastAt 6), .int .i64 (mostAt 6)]) w := by kernel_rfl
theorem index_f7 (c : Cfg) (w : World) : (Instr.index 92 (fieldsV c) (.int .i64 ((7 : Nat) : Int))).run Tryz.prog w = .ok (.agg #[.int .i64 (valAt c 7), .int .i64 (leastAt 7), .int .i64 (mostAt 7)]) w := by kernel_rfl
theorem index_fields (c : Cfg) : ∀ (k : Nat), k < 8 → ∀ w : World, (Instr.index 92 (fieldsV c) (.int .i64 (k : Int))).run Tryz.prog w = .ok (.agg #[.int .i64 (valAt c k), .int .i64 (leastAt k), .int .i64 (mostAt k)]) w
  | 0, _ => index_f0 c | 1, _ => index_f1 c | 2, _ => index_f2 c | 3, _ => index_f3 c | 4, _ => index_f4 c | 5, _ => index_f5 c | 6, _ => index_f6 c | 7, _ => index_f7 c

set_option maxHeartbeats 400000 in
theorem check (c : Cfg) (h : c.Wf) (w : World) : Calls Tryz.prog 25 #[cv c] w fun e w' => e = .returned (.int .i64 (chk c)) ∧ Below w.heap.size w w' := by
  go_enter Tryz.func25, Tryz.ntmps25
  go_wp2_with (go_at_call 47; refine (fields c h _).mono ?_; rintro e w1 ⟨rfl, hb1⟩)
  go_loopw [3, 8] (fun r i wr => ∃ k : Nat, k ≤ 8 ∧ i = .int .i64 k ∧ r = .int .i64 (resAt c k) ∧ (∀ j, j < k → leastAt j ≤ valAt c j) ∧ Below w.heap.size w wr) (fun _ i _ => 8 - (intOf i).toNat)
  case atStart => exact ⟨0, by omega, rfl, rfl, fun j hj => by omega, (((Below.refl _ _).alloc (Nat.le_refl _) _).trans (hb1.mono (by simp)))⟩
  case round =>
    obtain ⟨k, hk, rfl, rfl, hall, hbr⟩ := hrel
    by_cases hlt : k < 8
    · have hix := index_fields c k hlt
      have HA := Lib.hid hall
      have HR : k < 8 := hlt
      clear hall
      by_cases h1 : valAt c k < leastAt k
      · have HC := Lib.hid (chk_small (small_at hlt h1))
        go_wp2
        go_ret
        exact ⟨ret_int HC.out.symm, hbr.alloc hbr.size _⟩
      · have HN : leastAt k ≤ valAt c k := by omega
        by_cases h2 : mostAt k < valAt c k
        · have HS : RowKit.Hid (resAt c (k + 1) = 2) := Lib.hid (by rw [resAt, if_pos h2])
          go_wp2
          go_roundw
          case rel => exact ⟨k + 1, by omega, by go_num, val_int HS.out.symm, fun j hj => by rcases Nat.lt_succ_iff_lt_or_eq.1 hj with hj | rfl; exact HA.out j hj; exact HN, hbr.alloc hbr.size _⟩
          case measure => simp [intOf]; omega
        · have HS : RowKit.Hid (resAt c (k + 1) = resAt c k) := Lib.hid (by rw [resAt, if_neg h2])
          go_wp2
          go_roundw
          case rel => exact ⟨k + 1, by omega, by go_num, val_int HS.out.symm, fun j hj => by rcases Nat.lt_succ_iff_lt_or_eq.1 hj with hj | rfl; exact HA.out j hj; exact HN, hbr.alloc hbr.size _⟩
          case measure => simp [intOf]; omega
    · obtain rfl : k = 8 := by omega
      have HC := Lib.hid (chk_full (c := c) hall)
      clear hall
      go_wp2
      go_ret
      exact ⟨ret_int HC.out.symm, hbr⟩
end Go.Proofs.YtpmcedfeiconfaaGreatDoor.Pl
