/- Part Plans. -/
import Derived.Test.YtaiodbcnbcdokaaGreatRows
import Derived.WalkKit
import Derived.OpenShut
import Derived.Outline
import Derived.LoopTactic
import Derived.Lib.Hide
import Derived.WalkLawsBesides
import Derived.WalkSpells
import Derived.Deep.RegionHeld3
import Derived.Deep.WholeRow
import Derived.Test.YtaiodbcnbcdokaaGreatKGrow
import Derived.Test.YtaiodbcnbcdokaaGreatKRows2
import Derived.Test.YtaiodbcnbcdokaaGreatKOwn
import Derived.Laws.StructEq
set_option linter.unusedVariables false
set_option linter.unusedSimpArgs false
set_option linter.unusedSectionVars false
set_option maxRecDepth 100000
set_option maxHeartbeats 16000000
namespace Go.Proofs.YtaiodbcnbcdokaaGreat.Pl
open Go
structure Cfg where
 (ww sl bl wd en rk bg la : Int)
 deriving DecidableEq
abbrev cv (c : Cfg) : Value := .agg #[.int .i64 c.ww, .int .i64 c.sl, .int .i64 c.bl, .int .i64 c.wd, .int .i64 c.en, .int .i64 c.rk, .int .i64 c.bg, .int .u64 c.la]
structure Cfg.Wf (c : Cfg) : Prop where
 la0 : 0 ≤ c.la
 la1 : c.la < 18446744073709551616
def lastOf (c : Cfg) : Int := if c.la < 1048577 then c.la else 1048577
def gM (c : Cfg) : Nat → Int
 | 0 => c.ww | 1 => c.sl | 2 => c.bl | 3 => c.wd | 4 => c.en | 5 => c.rk | 6 => c.bg | _ => lastOf c
def dU : Nat → Int
 | 5 => 0 | _ => 1
def iJ : Nat → Int
 | 0 => 8 | 1 => 8 | 2 => 16 | 3 => 4 | 4 => 32 | 5 => 4 | 6 => 8 | _ => 1048576
def resAt (c : Cfg) : Nat → Int
 | 0 => 0
 | k + 1 => if iJ k < gM c k then 2 else resAt c k
def Small (c : Cfg) : Prop := c.ww < 1 ∨ c.sl < 1 ∨ c.bl < 1 ∨ c.wd < 1 ∨ c.en < 1 ∨ c.bg < 1 ∨ c.rk < 0 ∨ c.la < 1
def Big (c : Cfg) : Prop := 8 < c.ww ∨ 8 < c.sl ∨ 16 < c.bl ∨ 4 < c.wd ∨ 32 < c.en ∨ 8 < c.bg ∨ 4 < c.rk ∨ 1048576 < c.la
instance (c : Cfg) : Decidable (Small c) := by unfold Small; infer_instance
instance (c : Cfg) : Decidable (Big c) := by unfold Big; infer_instance
def chk (c : Cfg) : Int := if Small c then 1 else if Big c then 2 else 0
theorem small_at {c : Cfg} {k : Nat} (hk : k < 8) (h : gM c k < dU k) : Small c := by
 unfold Small
 match k, hk with
 | 0, _ | 1, _ | 2, _ | 3, _ | 4, _ | 5, _ | 6, _ => simp only [gM, dU] at h; omega
 | 7, _ => simp only [gM, dU, lastOf] at h; split at h <;> omega
theorem chk_small {c : Cfg} (h : Small c) : chk c = 1 := by unfold chk; rw [if_pos h]
theorem chk_full {c : Cfg} (h : ∀ k, k < 8 → dU k ≤ gM c k) : chk c = resAt c 8 := by
 have h0 := h 0 aL
 have h1 := h 1 aL
 have h2 := h 2 aL
 have h3 := h 3 aL
 have h4 := h 4 aL
 have h5 := h 5 aL
 have h6 := h 6 aL
 have h7 := h 7 aL
 simp only [gM, dU, lastOf] at h0 h1 h2 h3 h4 h5 h6 h7
 have hs : ¬ Small c := by unfold Small; split at h7 <;> omega
 unfold chk
 rw [if_neg hs]
 simp only [resAt, iJ, gM, lastOf]
 by_cases b : Big c
 ·rw [if_pos b]
  unfold Big at b
  repeat' split
  all_goals first | rfl | omega
 ·rw [if_neg b]
  unfold Big at b
  repeat' split
  all_goals first | rfl | omega
structure Ok (c : Cfg) : Prop where
 ww : 1 ≤ c.ww ∧ c.ww ≤ 8
 sl : 1 ≤ c.sl ∧ c.sl ≤ 8
 bl : 1 ≤ c.bl ∧ c.bl ≤ 16
 wd : 1 ≤ c.wd ∧ c.wd ≤ 4
 en : 1 ≤ c.en ∧ c.en ≤ 32
 rk : 0 ≤ c.rk ∧ c.rk ≤ 4
 bg : 1 ≤ c.bg ∧ c.bg ≤ 8
 la : 1 ≤ c.la ∧ c.la ≤ 1048576
theorem fK {c : Cfg} : chk c = 0 ↔ Ok c := by
 unfold chk
 constructor
 ·intro h
  split at h
  ·cases h
  ·split at h
   ·cases h
   ·rename_i hs hb
    unfold Small at hs; unfold Big at hb
    exact ⟨by omega, by omega, by omega, by omega, by omega, by omega, by omega, by omega⟩
 ·intro h
  obtain ⟨a1, a2, a3, a4, a5, a6, a7, a8⟩ := h
  rw [if_neg qa4m, if_neg (by unfold Big; omega)]
end Go.Proofs.YtaiodbcnbcdokaaGreat.Pl
namespace Go.Proofs.YtaiodbcnbcdokaaGreat.Pl
open Go Go.RowKit
theorem cu {k : IntKind} {a b : Int} (h : a = b) : Ending.returned (.int k a) = .returned (.int k b) := by rw [h]
theorem val_int {k : IntKind} {a b : Int} (h : a = b) : Value.int k a = .int k b := by rw [h]
def fE (c : Cfg) : Value := .agg #[.int .i64 c.ww, .int .i64 1, .int .i64 8, .int .i64 c.sl, .int .i64 1, .int .i64 8, .int .i64 c.bl, .int .i64 1, .int .i64 16, .int .i64 c.wd, .int .i64 1, .int .i64 4, .int .i64 c.en, .int .i64 1, .int .i64 32, .int .i64 c.rk, .int .i64 0, .int .i64 4, .int .i64 c.bg, .int .i64 1, .int .i64 8, .int .i64 (lastOf c), .int .i64 1, .int .i64 1048576]
theorem min_last (c : Cfg) (ts : Array TypeId) (t : TypeId) (w : World) : (Builtin.min_ ts t #[.int .u64 c.la, .int .u64 1048577]).run Tryz.prog w = .ok (.int .u64 (lastOf c)) w := by
 have h : (if 1048577 < c.la then 1048577 else c.la) = lastOf c := by unfold lastOf; split <;> split <;> omega
 rw [← h]
 exact run_min_int2 w ts t .u64 .u64 c.la 1048577
theorem last_range (c : Cfg) (h : c.Wf) : 0 ≤ lastOf c ∧ lastOf c < 2000000 := by
 obtain ⟨h0, h1⟩ := h
 unfold lastOf; split <;> omega
theorem build_field (a l m : Int) (w : World) : (Instr.build 177 #[(0, .int .i64 a), (1, .int .i64 l), (2, .int .i64 m)]).run Tryz.prog w = .ok (.agg #[.int .i64 a, .int .i64 l, .int .i64 m]) w := run_build w _ _ _ ah
theorem build_fields (c : Cfg) (w : World) : (Instr.build 178 #[(0, .agg #[.int .i64 c.ww, .int .i64 1, .int .i64 8]), (1, .agg #[.int .i64 c.sl, .int .i64 1, .int .i64 8]), (2, .agg #[.int .i64 c.bl, .int .i64 1, .int .i64 16]), (3, .agg #[.int .i64 c.wd, .int .i64 1, .int .i64 4]), (4, .agg #[.int .i64 c.en, .int .i64 1, .int .i64 32]), (5, .agg #[.int .i64 c.rk, .int .i64 0, .int .i64 4]), (6, .agg #[.int .i64 c.bg, .int .i64 1, .int .i64 8]), (7, .agg #[.int .i64 (lastOf c), .int .i64 1, .int .i64 1048576])]).run Tryz.prog w = .ok (fE c) w := run_build w _ _ _ ah
theorem fields (c : Cfg) (h : c.Wf) (w : World) : Calls Tryz.prog 125 #[cv c] w fun e w' => e = .returned (fE c) ∧ Below w.heap.size w w' := by
 have hm := min_last c
 have hb := build_field
 have hbs := build_fields c
 obtain ⟨h0, h1⟩ := last_range c h
 go_enter Tryz.func125, Tryz.ntmps125
 go_wp2_with (refine wpList_store_row rfl _ _ _ rfl (w.heap.size + 1) (fE c).cells rfl rfl _ _ (heap_alloc2_new _ _ _) ah ah ah ?_)
 refine bodyPost_ret (v := fE c) ?_ rfl ⟨rfl, below_setRow (((Below.refl _ _).alloc (Nat.le_refl _) _).alloc aF _) aF _⟩
 exact results_cell_row (p := 2) (ty := 178) Tryz.results125 _ _ (w.heap.size + 1) 178 (fE c).cells (0, 0) _ rfl (setRow_heap _ _ _ _ _ _ (heap_alloc2_new _ _ _)) Tryz.underlying178 rfl ah
theorem index_f0 (c : Cfg) (w : World) : (Instr.index 178 (fE c) (.int .i64 ((0 : Nat) : Int))).run Tryz.prog w = .ok (.agg #[.int .i64 (gM c 0), .int .i64 (dU 0), .int .i64 (iJ 0)]) w := ah
theorem index_f1 (c : Cfg) (w : World) : (Instr.index 178 (fE c) (.int .i64 ((1 : Nat) : Int))).run Tryz.prog w = .ok (.agg #[.int .i64 (gM c 1), .int .i64 (dU 1), .int .i64 (iJ 1)]) w := ah
theorem index_f2 (c : Cfg) (w : World) : (Instr.index 178 (fE c) (.int .i64 ((2 : Nat) : Int))).run Tryz.prog w = .ok (.agg #[.int .i64 (gM c 2), .int .i64 (dU 2), .int .i64 (iJ 2)]) w := ah
theorem index_f3 (c : Cfg) (w : World) : (Instr.index 178 (fE c) (.int .i64 ((3 : Nat) : Int))).run Tryz.prog w = .ok (.agg #[.int .i64 (gM c 3), .int .i64 (dU 3), .int .i64 (iJ 3)]) w := ah
theorem index_f4 (c : Cfg) (w : World) : (Instr.index 178 (fE c) (.int .i64 ((4 : Nat) : Int))).run Tryz.prog w = .ok (.agg #[.int .i64 (gM c 4), .int .i64 (dU 4), .int .i64 (iJ 4)]) w := ah
theorem index_f5 (c : Cfg) (w : World) : (Instr.index 178 (fE c) (.int .i64 ((5 : Nat) : Int))).run Tryz.prog w = .ok (.agg #[.int .i64 (gM c 5), .int .i64 (dU 5), .int .i64 (iJ 5)]) w := ah
theorem index_f6 (c : Cfg) (w : World) : (Instr.index 178 (fE c) (.int .i64 ((6 : Nat) : Int))).run Tryz.prog w = .ok (.agg #[.int .i64 (gM c 6), .int .i64 (dU 6), .int .i64 (iJ 6)]) w := ah
theorem index_f7 (c : Cfg) (w : World) : (Instr.index 178 (fE c) (.int .i64 ((7 : Nat) : Int))).run Tryz.prog w = .ok (.agg #[.int .i64 (gM c 7), .int .i64 (dU 7), .int .i64 (iJ 7)]) w := ah
theorem index_fields (c : Cfg) : ∀ (k : Nat), k < 8 → ∀ w : World, (Instr.index 178 (fE c) (.int .i64 (k : Int))).run Tryz.prog w = .ok (.agg #[.int .i64 (gM c k), .int .i64 (dU k), .int .i64 (iJ k)]) w
 | 0, _ => index_f0 c | 1, _ => index_f1 c | 2, _ => index_f2 c | 3, _ => index_f3 c | 4, _ => index_f4 c | 5, _ => index_f5 c | 6, _ => index_f6 c | 7, _ => index_f7 c
theorem check (c : Cfg) (h : c.Wf) (w : World) : Calls Tryz.prog 105 #[cv c] w fun e w' => e = .returned (.int .i64 (chk c)) ∧ Below w.heap.size w w' := by
 go_enter Tryz.func105, Tryz.ntmps105
 go_wp2_with (go_at_call 125; refine (fields c h _).mono ?_; rintro e w1 ⟨rfl, hb1⟩)
 go_loopw [3, 8] (fun r i wr => ∃ k : Nat, k ≤ 8 ∧ i = .int .i64 k ∧ r = .int .i64 (resAt c k) ∧ (∀ j, j < k → dU j ≤ gM c j) ∧ Below w.heap.size w wr) (fun _ i _ => 8 - (intOf i).toNat)
 case atStart => exact ⟨0, by omega, rfl, rfl, fun j hj => by omega, (((Below.refl _ _).alloc (Nat.le_refl _) _).trans (hb1.mono aF))⟩
 case round =>
  obtain ⟨k, hk, rfl, rfl, hall, hbr⟩ := hrel
  by_cases hlt : k < 8
  ·have hix := index_fields c k hlt
   have HA := Lib.hid hall
   have HR : k < 8 := hlt
   clear hall
   by_cases h1 : gM c k < dU k
   ·have HC := Lib.hid (chk_small (small_at hlt h1))
    go_wp2
    go_ret
    exact ⟨cu HC.out.symm, hbr.alloc hbr.size _⟩
   ·have HN : dU k ≤ gM c k := by omega
    by_cases h2 : iJ k < gM c k
    have HS : RowKit.Hid (resAt c (k + 1) = 2) := Lib.hid (by rw [resAt, if_pos h2])
    rotate_left
    have HS : RowKit.Hid (resAt c (k + 1) = resAt c k) := Lib.hid (by rw [resAt, if_neg h2])
    rotate_left
    all_goals
     go_wp2
     go_roundw
     case rel => exact ⟨k + 1, by omega, by go_num, val_int HS.out.symm, fun j hj => by rcases Nat.lt_succ_iff_lt_or_eq.1 hj with hj | rfl; exact HA.out j hj; exact HN, hbr.alloc hbr.size _⟩
     case measure => simp [intOf]; omega
  ·obtain rfl : k = 8 := by omega
   have HC := Lib.hid (chk_full (c := c) hall)
   clear hall
   go_wp2
   go_ret
   exact ⟨cu HC.out.symm, hbr⟩
end Go.Proofs.YtaiodbcnbcdokaaGreat.Pl
namespace Go.Proofs.YtaiodbcnbcdokaaGreat.Pl
open Go Go.RowKit Gro
theorem gB {a b : Bool} (h : a = b) : Ending.returned (.bool a) = .returned (.bool b) := by rw [h]
def nc (c : Cfg) : Cfg := if chk c = 0 then c else ⟨0, 0, 0, 0, 0, 0, 0, 0⟩
def okB (c : Cfg) : Bool := chk c == 0
theorem okB_true {c : Cfg} (h : chk c = 0) : okB c = true := by simp [okB, h]
theorem okB_false {c : Cfg} (h : chk c ≠ 0) : okB c = false := by simp [okB, h]
theorem jA {c : Cfg} (h : okB c = true) : Ok c := fK.1 (by simpa [okB] using h)
def tot (c : Cfg) : Int := if okB c = true then c.sl * c.bl else 0
def siz (c : Cfg) : Int := if okB c = true then 3 + c.ww + c.sl + 2 * c.en + c.sl * c.bl * (1 + c.wd) else 0
def hasB (c : Cfg) (i n : Int) : Bool := okB c && decide (0 ≤ i) && decide (i < n)
def fB (c : Cfg) (i : Int) : Int := if hasB c i c.ww = true then 3 + i else -1
def aS (c : Cfg) (i : Int) : Int := if hasB c i c.sl = true then 3 + c.ww + i else -1
def bf (c : Cfg) (i : Int) : Int := if hasB c i c.en = true then 3 + c.ww + c.sl + 2 * i else -1
def aEnl (c : Cfg) (i : Int) : Int := if hasB c i c.en = true then 3 + c.ww + c.sl + 2 * i + 1 else -1
def aBlk (c : Cfg) (i : Int) : Int := if hasB c i (tot c) = true then 3 + c.ww + c.sl + 2 * c.en + i * (1 + c.wd) else -1
def aWrd (c : Cfg) (b i : Int) : Int := if (hasB c b (tot c) && hasB c i c.wd) = true then 3 + c.ww + c.sl + 2 * c.en + b * (1 + c.wd) + 1 + i else -1
def aHom (c : Cfg) (b : Int) : Int := if hasB c b (tot c) = true then b / c.bl else -1
theorem fV {c : Cfg} {i n : Int} (h : hasB c i n = true) : okB c = true ∧ 0 ≤ i ∧ i < n := by
 simp only [hasB, Bool.and_eq_true, decide_eq_true_eq] at h
 exact ⟨h.1.1, h.1.2, h.2⟩
theorem gT {a b A B : Int} (ha : 0 ≤ a) (hA : a ≤ A) (hb : 0 ≤ b) (hB : b ≤ B) : 0 ≤ a * b ∧ a * b ≤ A * B :=
 ⟨Int.mul_nonneg ha hb, Int.mul_le_mul hA hB hb (Int.le_trans ha hA)⟩
theorem tot_ok {c : Cfg} (h : okB c = true) : tot c = c.sl * c.bl ∧ 0 ≤ c.sl * c.bl ∧ c.sl * c.bl ≤ 128 := by
 have k := jA h
 refine ⟨by rw [tot, if_pos h], ?_⟩
 have := gT (a := c.sl) (b := c.bl) (A := 8) (B := 16) (by have := k.sl; omega) k.sl.2 (by have := k.bl; omega) k.bl.2
 omega
theorem tot_range (c : Cfg) : 0 ≤ tot c ∧ tot c ≤ 128 := by
 by_cases h : okB c = true
 ·have := tot_ok h; omega
 ·rw [tot, if_neg h]; omega
theorem valid (c : Cfg) (h : c.Wf) (w : World) : Calls Tryz.prog 112 #[cv c] w fun e w' => e = .returned (.bool (okB c)) ∧ Below w.heap.size w w' := by
 by_cases hv : chk c = 0
 have hB : (chk c == 0) = true := by simp [hv]
 have HK := Lib.hid (okB_true hv)
 rotate_left
 have hB : (chk c == 0) = false := by simp [hv]
 have HK := Lib.hid (okB_false hv)
 rotate_left
 all_goals
  clear hv
  go_enter Tryz.func112, Tryz.ntmps112
  go_wp2_with (go_at_call 105; refine (check c h _).mono ?_; rintro e w1 ⟨rfl, hb1⟩)
  go_ret
  exact ⟨gB HK.out.symm, ((Below.refl _ _).alloc (Nat.le_refl _) _).trans (hb1.mono aF)⟩
theorem slabsAt (c : Cfg) (h : Ok c) (w : World) : Calls Tryz.prog 113 #[cv c] w fun e w' => e = .returned (.int .i64 (3 + c.ww)) ∧ Below w.heap.size w w' := by
 obtain ⟨h1, h2⟩ := h.ww
 go_enter Tryz.func113, Tryz.ntmps113
 go_wp2
 go_ret
 exact ⟨rfl, (Below.refl _ _).alloc (Nat.le_refl _) _⟩
theorem blockSize (c : Cfg) (h : Ok c) (w : World) : Calls Tryz.prog 115 #[cv c] w fun e w' => e = .returned (.int .i64 (1 + c.wd)) ∧ Below w.heap.size w w' := by
 obtain ⟨h1, h2⟩ := h.wd
 go_enter Tryz.func115, Tryz.ntmps115
 go_wp2
 go_ret
 exact ⟨rfl, (Below.refl _ _).alloc (Nat.le_refl _) _⟩
theorem entriesAt (c : Cfg) (h : Ok c) (w : World) : Calls Tryz.prog 89 #[cv c] w fun e w' => e = .returned (.int .i64 (3 + c.ww + c.sl)) ∧ Below w.heap.size w w' := by
 obtain ⟨h0, k0⟩ := h.ww
 obtain ⟨h1, k1⟩ := h.sl
 have HS := Lib.hid (slabsAt c h)
 go_enter Tryz.func89, Tryz.ntmps89
 exact qa1y
theorem blocksAt (c : Cfg) (h : Ok c) (w : World) : Calls Tryz.prog 114 #[cv c] w fun e w' => e = .returned (.int .i64 (3 + c.ww + c.sl + 2 * c.en)) ∧ Below w.heap.size w w' := by
 obtain ⟨h0, k0⟩ := h.ww
 obtain ⟨h1, k1⟩ := h.sl
 obtain ⟨h2, k2⟩ := h.en
 have HS := Lib.hid (entriesAt c h)
 go_enter Tryz.func114, Tryz.ntmps114
 exact qa1y
theorem has (c : Cfg) (h : c.Wf) (i n : Int) (w : World) : Calls Tryz.prog 88 #[cv c, .int .i64 i, .int .i64 n] w fun e w' => e = .returned (.bool (hasB c i n)) ∧ Below w.heap.size w w' := by
 cases hv : okB c
 ·have HK : RowKit.Hid (hasB c i n = false) := Lib.hid (by simp [hasB, hv])
  exact qa1z
 ·by_cases h0 : 0 ≤ i
  ·by_cases h1 : i < n
   ·have HK : RowKit.Hid (hasB c i n = true) := Lib.hid (by simp [hasB, hv, h0, h1])
    exact qa1z
   ·have HK : RowKit.Hid (hasB c i n = false) := Lib.hid (by simp [hasB, hv, h0, h1])
    go_enter Tryz.func88, Tryz.ntmps88
    go_wp2_with (go_at_call 112; refine (valid c h _).mono ?_; rintro e w1 ⟨rfl, hb1⟩)
    go_ret
    exact ⟨gB (by rw [HK.out]; simpa using h1), ((Below.refl _ _).alloc (Nat.le_refl _) _).trans (hb1.mono aF)⟩
  ·have HK : RowKit.Hid (hasB c i n = false) := Lib.hid (by simp [hasB, hv, h0])
   exact qa1z
theorem total (c : Cfg) (h : c.Wf) (w : World) : Calls Tryz.prog 85 #[cv c] w fun e w' => e = .returned (.int .i64 (tot c)) ∧ Below w.heap.size w w' := by
 cases hv : okB c
 ·have HK : RowKit.Hid (tot c = 0) := Lib.hid (by simp [tot, hv])
  go_enter Tryz.func85, Tryz.ntmps85
  exact qa20
 ·obtain ⟨ht, h0, h1⟩ := tot_ok hv
  have HK := Lib.hid ht
  clear ht
  go_enter Tryz.func85, Tryz.ntmps85
  go_wp2_with (go_at_call 112; refine (valid c h _).mono ?_; rintro e w1 ⟨rfl, hb1⟩; obtain ⟨hc1, hf1⟩ := gU hb1)
  go_ret
  exact qa21
theorem announce (c : Cfg) (h : c.Wf) (i : Int) (w : World) : Calls Tryz.prog 181 #[cv c, .int .i64 i] w fun e w' => e = .returned (.int .i64 (fB c i)) ∧ Below w.heap.size w w' := by
 cases hv : hasB c i c.ww
 have HK : RowKit.Hid (fB c i = -1) := Lib.hid (by rw [fB, if_neg qa4o])
 rotate_left
 obtain ⟨ho, h0, h1⟩ := fV hv
 have hk := jA ho
 obtain ⟨hw0, hw1⟩ := hk.ww
 obtain ⟨hs0, hs1⟩ := hk.sl
 obtain ⟨he0, he1⟩ := hk.en
 have HK : RowKit.Hid (fB c i = 3 + i) := Lib.hid (by rw [fB, if_pos hv])
 clear ho
 rotate_left
 all_goals
  go_enter Tryz.func181, Tryz.ntmps181
  go_wp2_with (go_at_call 88; refine (has c h _ _ _).mono ?_; rintro e w1 ⟨rfl, hb1⟩; obtain ⟨hc1, hf1⟩ := gU hb1)
  go_ret
  exact ⟨cu HK.out.symm, ((Below.refl _ _).alloc (Nat.le_refl _) _).trans (hb1.mono aF)⟩
theorem slab (c : Cfg) (h : c.Wf) (i : Int) (w : World) : Calls Tryz.prog 195 #[cv c, .int .i64 i] w fun e w' => e = .returned (.int .i64 (aS c i)) ∧ Below w.heap.size w w' := by
 cases hv : hasB c i c.sl
 ·have HK : RowKit.Hid (aS c i = -1) := Lib.hid (by rw [aS, if_neg qa4o])
  go_enter Tryz.func195, Tryz.ntmps195
  go_wp2_with (first | (go_at_call 88; refine (has c h _ _ _).mono ?_; rintro e w1 ⟨rfl, hb1⟩; obtain ⟨hc1, hf1⟩ := gU hb1) | (go_at_call 113; refine (slabsAt c hk _).mono ?_; rintro e w2 ⟨rfl, hb2⟩))
  go_ret
  exact qa21
 ·obtain ⟨ho, h0, h1⟩ := fV hv
  have hk := jA ho
  obtain ⟨hw0, hw1⟩ := hk.ww
  obtain ⟨hs0, hs1⟩ := hk.sl
  obtain ⟨he0, he1⟩ := hk.en
  have HK : RowKit.Hid (aS c i = 3 + c.ww + i) := Lib.hid (by rw [aS, if_pos hv])
  clear ho
  go_enter Tryz.func195, Tryz.ntmps195
  go_wp2_with (first | (go_at_call 88; refine (has c h _ _ _).mono ?_; rintro e w1 ⟨rfl, hb1⟩; obtain ⟨hc1, hf1⟩ := gU hb1) | (go_at_call 113; refine (slabsAt c hk _).mono ?_; rintro e w2 ⟨rfl, hb2⟩))
  go_ret
  exact qa22
theorem entry (c : Cfg) (h : c.Wf) (i : Int) (w : World) : Calls Tryz.prog 50 #[cv c, .int .i64 i] w fun e w' => e = .returned (.int .i64 (bf c i)) ∧ Below w.heap.size w w' := by
 cases hv : hasB c i c.en
 ·have HK : RowKit.Hid (bf c i = -1) := Lib.hid (by rw [bf, if_neg qa4o])
  go_enter Tryz.func50, Tryz.ntmps50
  go_wp2_with (first | (go_at_call 88; refine (has c h _ _ _).mono ?_; rintro e w1 ⟨rfl, hb1⟩; obtain ⟨hc1, hf1⟩ := gU hb1) | (go_at_call 89; refine (entriesAt c hk _).mono ?_; rintro e w2 ⟨rfl, hb2⟩))
  go_ret
  exact qa21
 ·obtain ⟨ho, h0, h1⟩ := fV hv
  have hk := jA ho
  obtain ⟨hw0, hw1⟩ := hk.ww
  obtain ⟨hs0, hs1⟩ := hk.sl
  obtain ⟨he0, he1⟩ := hk.en
  have HK : RowKit.Hid (bf c i = 3 + c.ww + c.sl + 2 * i) := Lib.hid (by rw [bf, if_pos hv])
  clear ho
  go_enter Tryz.func50, Tryz.ntmps50
  go_wp2_with (first | (go_at_call 88; refine (has c h _ _ _).mono ?_; rintro e w1 ⟨rfl, hb1⟩; obtain ⟨hc1, hf1⟩ := gU hb1) | (go_at_call 89; refine (entriesAt c hk _).mono ?_; rintro e w2 ⟨rfl, hb2⟩))
  go_ret
  exact qa22
theorem entryLink (c : Cfg) (h : c.Wf) (i : Int) (w : World) : Calls Tryz.prog 97 #[cv c, .int .i64 i] w fun e w' => e = .returned (.int .i64 (aEnl c i)) ∧ Below w.heap.size w w' := by
 cases hv : hasB c i c.en
 ·have HK : RowKit.Hid (aEnl c i = -1) := Lib.hid (by rw [aEnl, if_neg qa4o])
  go_enter Tryz.func97, Tryz.ntmps97
  go_wp2_with (first | (go_at_call 88; refine (has c h _ _ _).mono ?_; rintro e w1 ⟨rfl, hb1⟩; obtain ⟨hc1, hf1⟩ := gU hb1) | (go_at_call 50; refine (entry c h _ _).mono ?_; rintro e w2 ⟨rfl, hb2⟩))
  go_ret
  exact qa21
 ·obtain ⟨ho, h0, h1⟩ := fV hv
  have hk := jA ho
  obtain ⟨hw0, hw1⟩ := hk.ww
  obtain ⟨hs0, hs1⟩ := hk.sl
  obtain ⟨he0, he1⟩ := hk.en
  have HK : RowKit.Hid (aEnl c i = 3 + c.ww + c.sl + 2 * i + 1) := Lib.hid (by rw [aEnl, if_pos hv])
  have he : bf c i = 3 + c.ww + c.sl + 2 * i := by rw [bf, if_pos hv]
  clear ho
  go_enter Tryz.func97, Tryz.ntmps97
  go_wp2_with (first | (go_at_call 88; refine (has c h _ _ _).mono ?_; rintro e w1 ⟨rfl, hb1⟩; obtain ⟨hc1, hf1⟩ := gU hb1) | (go_at_call 50; refine (entry c h _ _).mono ?_; rintro e w2 ⟨rfl, hb2⟩))
  go_ret
  exact qa22
theorem blockLink (c : Cfg) (h : c.Wf) (i : Int) (w : World) : Calls Tryz.prog 214 #[cv c, .int .i64 i] w fun e w' => e = .returned (.int .i64 (aBlk c i)) ∧ Below w.heap.size w w' := by
 cases hv : hasB c i (tot c)
 ·have HK : RowKit.Hid (aBlk c i = -1) := Lib.hid (by rw [aBlk, if_neg qa4o])
  go_enter Tryz.func214, Tryz.ntmps214
  exact qa23
 ·obtain ⟨ho, h0, h1⟩ := fV hv
  have hk := jA ho
  have ht := tot_range c
  obtain ⟨hw0, hw1⟩ := hk.ww
  obtain ⟨hs0, hs1⟩ := hk.sl
  obtain ⟨he0, he1⟩ := hk.en
  obtain ⟨hd0, hd1⟩ := hk.wd
  obtain ⟨hm0, hm1⟩ := gT (a := i) (b := 1 + c.wd) (A := 128) (B := 5) h0 aj aj aj
  have HK : RowKit.Hid (aBlk c i = 3 + c.ww + c.sl + 2 * c.en + i * (1 + c.wd)) := Lib.hid (by rw [aBlk, if_pos hv])
  clear ho
  go_enter Tryz.func214, Tryz.ntmps214
  go_wp2
  refine aN ah ah ?_
  have hg := @cK
  repeat (go_big_quiet_step (first | exact grown_of (total c h _) | exact grown_of (has c h _ _ _)))
  refine wpQuiet_nil ?_
  rintro w2 ⟨⟨_, hb2⟩, rfl⟩
  clear hg
  obtain ⟨hc1, hf1⟩ := gU hb2
  have hz : w.heap.size < w2.heap.size := qa4p
  go_wp2
  refine aN ah ah ?_
  have hg := @cK
  repeat (go_big_quiet_step (first | exact grown_of (blocksAt c hk _) | exact grown_of (blockSize c hk _)))
  refine wpQuiet_nil ?_
  rintro w3 ⟨⟨_, hb3⟩, rfl⟩
  clear hg
  go_wp2
  go_ret
  exact ⟨cu HK.out.symm, (((Below.refl _ _).alloc (Nat.le_refl _) _).trans (hb2.mono aF)).trans (hb3.mono qa4p)⟩
theorem home (c : Cfg) (h : c.Wf) (i : Int) (w : World) : Calls Tryz.prog 219 #[cv c, .int .i64 i] w fun e w' => e = .returned (.int .i64 (aHom c i)) ∧ Below w.heap.size w w' := by
 cases hv : hasB c i (tot c)
 ·have HK : RowKit.Hid (aHom c i = -1) := Lib.hid (by rw [aHom, if_neg qa4o])
  go_enter Tryz.func219, Tryz.ntmps219
  exact qa23
 ·obtain ⟨ho, h0, h1⟩ := fV hv
  have hk := jA ho
  have ht := tot_range c
  obtain ⟨hs0, hs1⟩ := hk.bl
  have hne : (c.bl == 0) = false := bq
  have HK : RowKit.Hid (aHom c i = i / c.bl) := Lib.hid (by rw [aHom, if_pos hv])
  clear ho
  go_enter Tryz.func219, Tryz.ntmps219
  go_wp2
  refine aN ah ah ?_
  have hg := @cK
  repeat (go_big_quiet_step (first | exact grown_of (total c h _) | exact grown_of (has c h _ _ _)))
  refine wpQuiet_nil ?_
  rintro w2 ⟨⟨_, hb2⟩, rfl⟩
  clear hg
  obtain ⟨hc1, hf1⟩ := gU hb2
  have hz : w.heap.size < w2.heap.size := qa4p
  exact qa47
theorem size (c : Cfg) (h : c.Wf) (w : World) : Calls Tryz.prog 90 #[cv c] w fun e w' => e = .returned (.int .i64 (siz c)) ∧ Below w.heap.size w w' := by
 cases hv : okB c
 ·have HK : RowKit.Hid (siz c = 0) := Lib.hid (by simp [siz, hv])
  go_enter Tryz.func90, Tryz.ntmps90
  exact qa20
 ·obtain ⟨ht, h0, h1⟩ := tot_ok hv
  have hk := jA hv
  obtain ⟨hw0, hw1⟩ := hk.ww
  obtain ⟨hs0, hs1⟩ := hk.sl
  obtain ⟨he0, he1⟩ := hk.en
  obtain ⟨hd0, hd1⟩ := hk.wd
  rw [← ht] at h0 h1
  have HK : RowKit.Hid (siz c = 3 + c.ww + c.sl + 2 * c.en + tot c * (1 + c.wd)) := Lib.hid (by rw [siz, if_pos hv, ht])
  obtain ⟨hm0, hm1⟩ := gT (a := tot c) (b := 1 + c.wd) (A := 128) (B := 5) h0 h1 aj aj
  clear ht
  go_enter Tryz.func90, Tryz.ntmps90
  go_wp2_with (go_at_call 112; refine (valid c h _).mono ?_; rintro e w1 ⟨rfl, hb1⟩; obtain ⟨hc1, hf1⟩ := gU hb1)
  have hz : w.heap.size < w1.heap.size := qa4q
  refine aN ah ah ?_
  have hg := @cK
  repeat (go_big_quiet_step (first | exact grown_of (blocksAt c hk _) | exact grown_of (blockSize c hk _) | exact grown_of (total c h _)))
  refine wpQuiet_nil ?_
  rintro w3 ⟨⟨_, hb3⟩, rfl⟩
  clear hg
  go_wp2
  go_ret
  exact ⟨cu HK.out.symm, (((Below.refl _ _).alloc (Nat.le_refl _) _).trans (hb1.mono aF)).trans (hb3.mono aj)⟩
theorem word (c : Cfg) (h : c.Wf) (b i : Int) (w : World) : Calls Tryz.prog 178 #[cv c, .int .i64 b, .int .i64 i] w fun e w' => e = .returned (.int .i64 (aWrd c b i)) ∧ Below w.heap.size w w' := by
 cases hv : hasB c b (tot c)
 ·have HK : RowKit.Hid (aWrd c b i = -1) := Lib.hid (by rw [aWrd, if_neg (by rw [hv]; simp)])
  exact qa24
 ·cases hv2 : hasB c i c.wd
  ·have HK : RowKit.Hid (aWrd c b i = -1) := Lib.hid (by rw [aWrd, if_neg (by rw [hv, hv2]; simp)])
   exact qa24
  ·obtain ⟨ho, h0, h1⟩ := fV hv
   obtain ⟨_, g0, g1⟩ := fV hv2
   have hk := jA ho
   have ht := tot_range c
   obtain ⟨hw0, hw1⟩ := hk.ww
   obtain ⟨hs0, hs1⟩ := hk.sl
   obtain ⟨he0, he1⟩ := hk.en
   obtain ⟨hd0, hd1⟩ := hk.wd
   obtain ⟨hm0, hm1⟩ := gT (a := b) (b := 1 + c.wd) (A := 128) (B := 5) h0 aj aj aj
   have HK : RowKit.Hid (aWrd c b i = aBlk c b + 1 + i) := Lib.hid (by rw [aWrd, aBlk, if_pos hv, if_pos (by rw [hv, hv2]; rfl)])
   have hbl : 0 ≤ aBlk c b ∧ aBlk c b ≤ 1000 := by rw [aBlk, if_pos hv]; omega
   obtain ⟨hb0, hbk⟩ := hbl
   clear ho
   go_enter Tryz.func178, Tryz.ntmps178
   go_wp2
   refine aN ah ah ?_
   have hg := @cK
   repeat (go_big_quiet_step (first | exact grown_of (total c h _) | exact grown_of (has c h _ _ _)))
   refine wpQuiet_nil ?_
   rintro w2 ⟨⟨_, hb2⟩, rfl⟩
   clear hg
   obtain ⟨hc1, hf1⟩ := gU hb2
   have hz : w.heap.size < w2.heap.size := qa4p
   go_wp2_with (go_at_call 214; refine (blockLink c h _ _).mono ?_; rintro e w3 ⟨rfl, hb3⟩)
   go_ret
   exact ⟨cu HK.out.symm, (((Below.refl _ _).alloc (Nat.le_refl _) _).trans (hb2.mono aF)).trans (hb3.mono aj)⟩
theorem jK (c : Cfg) (h : c.Wf) (w : World) : Calls Tryz.prog 84 #[cv c] w fun e w' => e = .returned (.tuple #[cv (nc c), .int .i64 (chk c)]) ∧ Below w.heap.size w w' := by
 by_cases hv : chk c = 0
 ·skip
  have hB' : (chk c != 0) = false := by simp [hv]
  have HK : RowKit.Hid (nc c = c) := Lib.hid (by rw [nc, if_pos hv])
  have HZ := Lib.hid hv
  clear hv
  go_enter Tryz.func84, Tryz.ntmps84
  go_wp2_with (first | (go_at_call 105; refine (check c h _).mono ?_; rintro e w1 ⟨rfl, hb1⟩; obtain ⟨hc1, hf1⟩ := gU hb1; have hz : w.heap.size + 1 < w1.heap.size := qa4q; have HG := Lib.hid ((hb1.block (w.heap.size + 1) aF).trans (heap_alloc2_new _ _ _))) | (refine wpList_store_row rfl _ _ _ rfl (w.heap.size + 1) #[.int .i64 c.ww, .int .i64 c.sl, .int .i64 c.bl, .int .i64 c.wd, .int .i64 c.en, .int .i64 c.rk, .int .i64 c.bg, .int .u64 c.la] rfl rfl _ _ HG.out ah ah ah ?_))
  refine bodyPost_ret (v := .tuple #[cv (nc c), .int .i64 (chk c)]) ?_ rfl ⟨rfl, below_setRow ((((Below.refl _ _).alloc (Nat.le_refl _) _).alloc aF _).trans (hb1.mono bq)) aj _⟩
  rw [HK.out, HZ.out]
  exact Rw.results_cell_slot (p := 2) (q := 3) (ty := 86) Tryz.results84 _ _ (w.heap.size + 1) 86 _ (0, 0) _ rfl (setRow_heap _ _ _ #[.int .i64 c.ww, .int .i64 c.sl, .int .i64 c.bl, .int .i64 c.wd, .int .i64 c.en, .int .i64 c.rk, .int .i64 c.bg, .int .u64 c.la] _ _ HG.out) Tryz.underlying86 rfl ah
 ·skip
  have hB' : (chk c != 0) = true := by simp [hv]
  have HK : RowKit.Hid (nc c = ⟨0, 0, 0, 0, 0, 0, 0, 0⟩) := Lib.hid (by rw [nc, if_neg hv])
  clear hv
  go_enter Tryz.func84, Tryz.ntmps84
  go_wp2_with (first | (go_at_call 105; refine (check c h _).mono ?_; rintro e w1 ⟨rfl, hb1⟩; obtain ⟨hc1, hf1⟩ := gU hb1; have hz : w.heap.size + 1 < w1.heap.size := qa4q; have HG := Lib.hid ((hb1.block (w.heap.size + 1) aF).trans (heap_alloc2_new _ _ _))) | (refine wpList_store_row rfl _ _ _ rfl (w.heap.size + 1) #[.int .i64 0, .int .i64 0, .int .i64 0, .int .i64 0, .int .i64 0, .int .i64 0, .int .i64 0, .int .u64 0] rfl rfl _ _ HG.out ah ah ah ?_))
  refine bodyPost_ret (v := .tuple #[cv (nc c), .int .i64 (chk c)]) ?_ rfl ⟨rfl, below_setRow ((((Below.refl _ _).alloc (Nat.le_refl _) _).alloc aF _).trans (hb1.mono bq)) aj _⟩
  rw [HK.out]
  exact Rw.results_cell_slot (p := 2) (q := 3) (ty := 86) Tryz.results84 _ _ (w.heap.size + 1) 86 _ (0, 0) _ rfl (setRow_heap _ _ _ #[.int .i64 0, .int .i64 0, .int .i64 0, .int .i64 0, .int .i64 0, .int .i64 0, .int .i64 0, .int .u64 0] _ _ HG.out) Tryz.underlying86 rfl ah
end Go.Proofs.YtaiodbcnbcdokaaGreat.Pl
namespace Go.Proofs.YtaiodbcnbcdokaaGreat.Pl
open Go Go.RowKit Gro
theorem chk1 {c : Cfg} (h : Small c) : (1 : Int) = chk c := (chk_small h).symm
theorem chk2 {c : Cfg} (h : ¬ Small c) (hb : Big c) : (2 : Int) = chk c := by unfold chk; rw [if_neg h, if_pos hb]
theorem chk0 {c : Cfg} (h : ¬ Small c) (hb : ¬ Big c) : (0 : Int) = chk c := by unfold chk; rw [if_neg h, if_neg hb]
theorem refCheck (c : Cfg) (h : c.Wf) (w : World) : Calls Tryz.prog 19 #[cv c] w fun e w' => e = .returned (.int .i64 (chk c)) ∧ Below w.heap.size w w' := by
 have k0 := h.la0
 go_enter Tryz.func19, Tryz.ntmps19
 go_wp2
 all_goals go_ret
 all_goals refine ⟨cu ?_, (Below.refl _ _).alloc (Nat.le_refl _) _⟩
 all_goals first | exact chk1 qa4m | exact chk2 qa4m (by unfold Big; omega) | exact chk0 qa4m (by unfold Big; omega)
end Go.Proofs.YtaiodbcnbcdokaaGreat.Pl
namespace Go.Proofs.YtaiodbcnbcdokaaGreat.Pl
open Go Go.RowKit Gro Own
abbrev dY := Int × Int × Int
def sc (l : List dY) : List Value := l.flatMap fun s => [.int .i64 s.1, .int .i64 s.2.1, .int .i64 s.2.2]
theorem sc_append (a b : List dY) : sc (a ++ b) = sc a ++ sc b := by simp [sc]
theorem sc_length (l : List dY) : (sc l).length = l.length * 3 := by
 induction l with
 | nil => rfl
 | cons s r ih => simp only [sc, List.flatMap_cons, List.length_append, List.length_cons] at *; simp only [List.length_nil]; omega
def S0 : List dY := [(0, 0, 0), (0, 1, 0), (0, 2, 0)]
def S1 (k : Nat) : List dY := S0 ++ (List.range k).map fun (a : Nat) => ((1 : Int), (a : Int), (0 : Int))
def S2 (W k : Nat) : List dY := S1 W ++ (List.range k).map fun (a : Nat) => ((2 : Int), (a : Int), (0 : Int))
def S3 (W S k : Nat) : List dY := S2 W S ++ (List.range k).flatMap fun (a : Nat) => [((3 : Int), (a : Int), (0 : Int)), (4, (a : Int), 0)]
def wrd (a k : Nat) : List dY := (List.range k).map fun (b : Nat) => ((6 : Int), (a : Int), (b : Int))
def S4 (W S N D k : Nat) : List dY := S3 W S N ++ (List.range k).flatMap fun (a : Nat) => (5, (a : Int), 0) :: wrd a D
def S5 (W S N D i k : Nat) : List dY := S4 W S N D i ++ ((5, (i : Int), 0) :: wrd i k)
theorem S1_succ (k : Nat) : S1 (k + 1) = S1 k ++ [(1, (k : Int), 0)] := by simp [S1, List.range_succ]
theorem S2_succ (W k : Nat) : S2 W (k + 1) = S2 W k ++ [(2, (k : Int), 0)] := by simp [S2, List.range_succ]
theorem S3_succ (W S k : Nat) : S3 W S (k + 1) = S3 W S k ++ [(3, (k : Int), 0), (4, (k : Int), 0)] := by simp [S3, List.range_succ]
theorem S4_succ (W S N D k : Nat) : S4 W S N D (k + 1) = S5 W S N D k D := by simp [S4, S5, List.range_succ]
theorem S5_zero (W S N D i : Nat) : S5 W S N D i 0 = S4 W S N D i ++ [(5, (i : Int), 0)] := by simp [S5, wrd]
theorem S5_succ (W S N D i k : Nat) : S5 W S N D i (k + 1) = S5 W S N D i k ++ [(6, (i : Int), (k : Int))] := by simp [S5, wrd, List.range_succ]
theorem S1_len (k : Nat) : (S1 k).length = 3 + k := by simp [S1, S0]; omega
theorem S2_len (W k : Nat) : (S2 W k).length = 3 + W + k := by simp [S2, S1_len]
theorem sum_const (c k : Nat) : (List.map (fun _ : Nat => c) (List.range k)).sum = c * k := by
 induction k with
 | zero => simp
 | succ n ih => rw [List.range_succ, List.map_append, List.sum_append, ih, Nat.mul_succ]; simp
theorem S3_len (W S k : Nat) : (S3 W S k).length = 3 + W + S + 2 * k := by
 simp only [S3, List.length_append, S2_len, List.length_flatMap, List.length_cons, List.length_nil]
 rw [sum_const]
theorem wrd_len (a k : Nat) : (wrd a k).length = k := by simp [wrd]
theorem S4_len (W S N D k : Nat) : (S4 W S N D k).length = 3 + W + S + 2 * N + (D + 1) * k := by
 simp only [S4, List.length_append, S3_len, List.length_flatMap, List.length_cons, wrd_len]
 rw [sum_const]
theorem S5_len (W S N D i k : Nat) : (S5 W S N D i k).length = 3 + W + S + 2 * N + (D + 1) * i + 1 + k := by
 simp only [S5, List.length_append, S4_len, List.length_cons, wrd_len]; omega
def spots (c : Cfg) : List dY := S4 c.ww.toNat c.sl.toNat c.en.toNat c.wd.toNat (c.sl * c.bl).toNat
theorem elem33 : Elem Tryz.prog 113 116 3 24 := ⟨Tryz.underlying113, by
 have h : (Tryz.prog.info? 116).map (fun i => (i.zero, i.size, i.bytes)) = some (some (.agg #[.int .i64 0, .int .i64 0, .int .i64 0]), 3, 24) := ah
 obtain ⟨i0, hi, hz0, hz1, hz2⟩ := info_parts h
 exact ⟨i0, _, hi, hz0, hz1, hz2, rfl⟩, by decide, by decide⟩
theorem one3 {a b d : Int} : ∀ u ∈ [Value.int .i64 a, Value.int .i64 b, Value.int .i64 d], u.oneCell' = true := qa4r
theorem one6 {a b d e f g : Int} : ∀ u ∈ [Value.int .i64 a, Value.int .i64 b, Value.int .i64 d, Value.int .i64 e, Value.int .i64 f, Value.int .i64 g], u.oneCell' = true := qa4r
end Go.Proofs.YtaiodbcnbcdokaaGreat.Pl
namespace Go.Proofs.YtaiodbcnbcdokaaGreat.Pl
open Go Go.RowKit Gro Own
def AllOf (c : Cfg) (w : World) (e : Ending) (w' : World) : Prop := ∃ v, e = .returned v ∧ w'.ownsRow (w.heap.size + 1) 116 3 v (spots c).length (sc (spots c)) ∧ Below w.heap.size w w'
abbrev bxv (c : Cfg) : Obj := .cells #[.int .i64 c.ww, .int .i64 c.sl, .int .i64 c.bl, .int .i64 c.wd, .int .i64 c.en, .int .i64 c.rk, .int .i64 c.bg, .int .u64 c.la] 24
def AtL (w : World) (c : Cfg) (L : List dY) (v : Value) (wr : World) : Prop := wr.ownsRow (w.heap.size + 1) 116 3 v L.length (sc L) ∧ Below (w.alloc (bxv c)).heap.size (w.alloc (bxv c)) wr
theorem AtL.next {w : World} {c : Cfg} {L : List dY} {v v' : Value} {wr w' : World} {o : Obj} {news : List dY} {m : Nat} {xs : List Value} (h : AtL w c L v wr) (h1 : w'.ownsRow (w.heap.size + 1) 116 3 v' (L.length + m) (sc L ++ xs)) (hb : Below (w.heap.size + 1) (wr.alloc o) w') (hm : m = news.length) (hx : xs = sc news) : AtL w c (L ++ news) v' w' :=
 ⟨owns_len h1 (by rw [List.length_append, hm]) (by rw [sc_append, hx]), (h.2.alloc h.2.size o).trans (hb.mono aF)⟩
theorem AtL.eq {w : World} {c : Cfg} {L M : List dY} {v : Value} {wr : World} (h : AtL w c L v wr) (e : L = M) : AtL w c M v wr := e ▸ h
theorem mulN {a b A B : Nat} (ha : a ≤ A) (hb : b ≤ B) : 0 ≤ a * b ∧ a * b ≤ A * B := ⟨Nat.zero_le _, Nat.mul_le_mul ha hb⟩
theorem start0 (w : World) (c : Cfg) (v : Value) (hv : v = .slice (some ⟨w.heap.size + 1, 0, none⟩) 3 3) : AtL w c (S1 0) v ((w.alloc (bxv c)).alloc (.cells #[.int .i64 0, .int .i64 0, .int .i64 0, .int .i64 0, .int .i64 1, .int .i64 0, .int .i64 0, .int .i64 2, .int .i64 0] 116)) := by
 refine ⟨⟨by rw [sc_length], .inr ⟨w.heap.size + 1, 3, _, hv, Nat.le_refl _, heap_alloc2_new _ _ _, by decide, by decide, rfl, rfl⟩⟩, (Below.refl _ _).alloc (Nat.le_refl _) _⟩
theorem refAllN (W S B D N : Nat) (rk bg la : Int) (hw1 : W ≤ 8) (hs1 : S ≤ 8) (hl1 : B ≤ 16) (hd1 : D ≤ 4) (he1 : N ≤ 32) (w : World) : Calls Tryz.prog 70 #[cv ⟨W, S, B, D, N, rk, bg, la⟩] w (AllOf ⟨W, S, B, D, N, rk, bg, la⟩ w) := by
 have hSB : (0 : Int) ≤ (S : Int) * (B : Int) ∧ (S : Int) * (B : Int) ≤ 128 := by
  have := gT (a := (S : Int)) (b := (B : Int)) (A := 8) (B := 16) aj aj aj aj
  omega
 obtain ⟨hm0, hm1⟩ := hSB
 have HM : RowKit.Hid (((S * B : Nat) : Int) = (S : Int) * (B : Int)) := Lib.hid aF
 go_enter Tryz.func70, Tryz.ntmps70
 go_wp2
 go_loopw [3, 4] (fun v i wr => ∃ k : Nat, (k : Int) ≤ (W : Int) ∧ i = .int .i64 k ∧ AtL w ⟨W, S, B, D, N, rk, bg, la⟩ (S1 k) v wr) (fun _ i _ => W - (intOf i).toNat)
 case atStart => exact ⟨0, by first | omega | (simp; done) | (simp; omega), rfl, start0 w _ _ rfl⟩
 case round =>
  obtain ⟨k, hk, rfl, hown⟩ := hrel
  obtain ⟨hc1, hf1⟩ := gU hown.2
  have hln : (S1 k).length ≤ 900 := by rw [S1_len]; omega
  by_cases hlt : (k : Int) < (W : Int)
  ·go_wp2_with (at_builtin; refine dX elem33 rfl _ _ rfl (w.heap.size + 1) _ _ _ rfl (World.ownsRow.alloc hown.1 _) wr.heap.size 1 1 [.int .i64 1, .int .i64 (k : Int), .int .i64 0] rfl rfl (eZ _ _ _) one3 aL aj qa4s ?_; intro v' w' hown2 hb2)
   go_roundw
   case rel => exact ⟨k + 1, by omega, by go_num, (AtL.next (news := [(1, (k : Int), 0)]) hown hown2 hb2 rfl rfl).eq (S1_succ k).symm⟩
   case measure => simp [intOf]; omega
  ·obtain rfl : W = k := by omega
   clear hlt hk hln
   go_wp2
   go_loopw [3, 5] (fun v i wr => ∃ k : Nat, (k : Int) ≤ (S : Int) ∧ i = .int .i64 k ∧ AtL w ⟨W, S, B, D, N, rk, bg, la⟩ (S2 W k) v wr) (fun _ i _ => S - (intOf i).toNat)
   case atStart => exact ⟨0, by first | omega | (simp; done) | (simp; omega), rfl, hown.eq (by simp [S2])⟩
   case round =>
    clear hc1 hf1
    obtain ⟨k, hk, rfl, hown⟩ := hrel
    obtain ⟨hc1, hf1⟩ := gU hown.2
    have hln : (S2 W k).length ≤ 900 := by rw [S2_len]; omega
    by_cases hlt : (k : Int) < (S : Int)
    ·go_wp2_with (at_builtin; refine dX elem33 rfl _ _ rfl (w.heap.size + 1) _ _ _ rfl (World.ownsRow.alloc hown.1 _) wr.heap.size 1 1 [.int .i64 2, .int .i64 (k : Int), .int .i64 0] rfl rfl (eZ _ _ _) one3 aL aj qa4s ?_; intro v' w' hown2 hb2)
     go_roundw
     case rel => exact ⟨k + 1, by omega, by go_num, (AtL.next (news := [(2, (k : Int), 0)]) hown hown2 hb2 rfl rfl).eq (S2_succ ..).symm⟩
     case measure => simp [intOf]; omega
    ·obtain rfl : S = k := by omega
     clear hlt hk hln
     go_wp2
     go_loopw [3, 6] (fun v i wr => ∃ k : Nat, (k : Int) ≤ (N : Int) ∧ i = .int .i64 k ∧ AtL w ⟨W, S, B, D, N, rk, bg, la⟩ (S3 W S k) v wr) (fun _ i _ => N - (intOf i).toNat)
     case atStart => exact ⟨0, by first | omega | (simp; done) | (simp; omega), rfl, hown.eq (by simp [S3])⟩
     case round =>
      clear hc1 hf1
      obtain ⟨k, hk, rfl, hown⟩ := hrel
      obtain ⟨hc1, hf1⟩ := gU hown.2
      have hln : (S3 W S k).length ≤ 900 := by rw [S3_len]; omega
      by_cases hlt : (k : Int) < (N : Int)
      ·go_wp2_with (at_builtin; refine dX elem33 rfl _ _ rfl (w.heap.size + 1) _ _ _ rfl (World.ownsRow.alloc hown.1 _) wr.heap.size 2 2 [.int .i64 3, .int .i64 (k : Int), .int .i64 0, .int .i64 4, .int .i64 (k : Int), .int .i64 0] rfl rfl (eZ _ _ _) one6 aL aj qa4s ?_; intro v' w' hown2 hb2)
       go_roundw
       case rel => exact ⟨k + 1, by omega, by go_num, (AtL.next (news := [(3, (k : Int), 0), (4, (k : Int), 0)]) hown hown2 hb2 rfl rfl).eq (S3_succ ..).symm⟩
       case measure => simp [intOf]; omega
      ·obtain rfl : N = k := by omega
       clear hlt hk hln
       go_wp2
       go_loopw [3, 7] (fun v i wr => ∃ k : Nat, (k : Int) ≤ (S : Int) * (B : Int) ∧ i = .int .i64 k ∧ AtL w ⟨W, S, B, D, N, rk, bg, la⟩ (S4 W S N D k) v wr) (fun _ i _ => S * B - (intOf i).toNat)
       case atStart => exact ⟨0, by first | omega | (simp; done) | (simp; omega), rfl, hown.eq (by simp [S4])⟩
       case round =>
        clear hc1 hf1
        obtain ⟨q, hk, rfl, hown⟩ := hrel
        obtain ⟨hc1, hf1⟩ := gU hown.2
        obtain ⟨hq0, hq1⟩ := mulN (a := D + 1) (b := q) (A := 5) (B := 128) aj aj
        have hln : (S4 W S N D q).length ≤ 800 := by rw [S4_len]; omega
        by_cases hlt : (q : Int) < (S : Int) * (B : Int)
        ·go_wp2_with (at_builtin; refine dX elem33 rfl _ _ rfl (w.heap.size + 1) _ _ _ rfl (World.ownsRow.alloc hown.1 _) wr.heap.size 1 1 [.int .i64 5, .int .i64 (q : Int), .int .i64 0] rfl rfl (eZ _ _ _) one3 aL aj qa4s ?_; intro v' w' hown2 hb2)
         have hA := (AtL.next (news := [(5, (q : Int), 0)]) hown hown2 hb2 rfl rfl).eq (S5_zero W S N D q).symm
         clear hown hown2 hb2 hc1 hf1
         obtain ⟨hc1, hf1⟩ := gU hA.2
         go_wp2
         go_loopw [3, 8] (fun v i wr => ∃ k : Nat, (k : Int) ≤ (D : Int) ∧ i = .int .i64 k ∧ AtL w ⟨W, S, B, D, N, rk, bg, la⟩ (S5 W S N D q k) v wr) (fun _ i _ => D - (intOf i).toNat)
         case atStart => exact ⟨0, by first | omega | (simp; done) | (simp; omega), rfl, hA⟩
         case round =>
          clear hc1 hf1
          obtain ⟨k, hk, rfl, hown⟩ := hrel
          obtain ⟨hc1, hf1⟩ := gU hown.2
          have hln : (S5 W S N D q k).length ≤ 900 := by rw [S5_len]; omega
          by_cases hlt2 : (k : Int) < (D : Int)
          ·go_wp2_with (at_builtin; refine dX elem33 rfl _ _ rfl (w.heap.size + 1) _ _ _ rfl (World.ownsRow.alloc hown.1 _) wr.heap.size 1 1 [.int .i64 6, .int .i64 (q : Int), .int .i64 (k : Int)] rfl rfl (eZ _ _ _) one3 aL aj qa4s ?_; intro v' w' hown2 hb2)
           go_roundw
           case rel => exact ⟨k + 1, by omega, by go_num, (AtL.next (news := [(6, (q : Int), (k : Int))]) hown hown2 hb2 rfl rfl).eq (S5_succ ..).symm⟩
           case measure => simp [intOf]; omega
          ·obtain rfl : D = k := by omega
           clear hlt2 hk hln
           go_wp2
           go_roundw
           case rel => exact ⟨q + 1, by omega, by go_num, hown.eq (S4_succ ..).symm⟩
           case measure => have := HM.out; simp [intOf]; omega
        ·obtain rfl : q = S * B := by have := HM.out; omega
         go_wp2
         go_ret
         exact ⟨_, rfl, hown.1, ((Below.refl _ _).alloc (Nat.le_refl _) _).trans (hown.2.mono aF)⟩
theorem refAll (c : Cfg) (h : Ok c) (w : World) : Calls Tryz.prog 70 #[cv c] w (AllOf c w) := by
 obtain ⟨hw, hs, hl, hd, he, _, _, _⟩ := h
 obtain ⟨ww, sl, bl, wd, en, rk, bg, la⟩ := c
 simp only at hw hs hl hd he
 obtain ⟨W, rfl⟩ := Int.eq_ofNat_of_zero_le (a := ww) aj
 obtain ⟨S, rfl⟩ := Int.eq_ofNat_of_zero_le (a := sl) aj
 obtain ⟨B, rfl⟩ := Int.eq_ofNat_of_zero_le (a := bl) aj
 obtain ⟨D, rfl⟩ := Int.eq_ofNat_of_zero_le (a := wd) aj
 obtain ⟨N, rfl⟩ := Int.eq_ofNat_of_zero_le (a := en) aj
 exact refAllN W S B D N rk bg la aj aj aj aj aj w
end Go.Proofs.YtaiodbcnbcdokaaGreat.Pl
namespace Go.Proofs.YtaiodbcnbcdokaaGreat.Pl
open Go Go.RowKit Gro Own
def idx (s : dY) : List dY → Nat → Int
 | [], _ => -1
 | x :: r, k => if x = s then (k : Int) else idx s r (k + 1)
def refAt (c : Cfg) (s : dY) : Int := if chk c = 0 then idx s (spots c) 0 else -1
theorem sc_get (L : List dY) (k : Nat) (h : k < L.length) : (sc L)[k * 3]? = some (.int .i64 L[k].1) ∧ (sc L)[k * 3 + 1]? = some (.int .i64 L[k].2.1) ∧ (sc L)[k * 3 + 2]? = some (.int .i64 L[k].2.2) := by
 induction L generalizing k with
 | nil => simp at h
 | cons s r ih =>
  cases k with
  | zero => simp [sc]
  | succ n =>
   have := ih n (by simpa using h)
   have e : sc (s :: r) = [.int .i64 s.1, .int .i64 s.2.1, .int .i64 s.2.2] ++ sc r := by simp [sc]
   rw [e]
   have e1 : (n + 1) * 3 = n * 3 + 3 := aj
   rw [e1]
   simpa [List.getElem?_append] using this
end Go.Proofs.YtaiodbcnbcdokaaGreat.Pl
namespace Go.Proofs.YtaiodbcnbcdokaaGreat.Pl
open Go
theorem jc {s : dY} : ∀ {L : List dY} {k : Nat}, s ∉ L → idx s L k = -1
 | [], _, _ => rfl
 | x :: r, k, h => by
  rw [idx, if_neg (fun e => h (by rw [e]; exact List.mem_cons_self)), jc (fun e => h (List.mem_cons_of_mem _ e))]
theorem idx_right {s : dY} : ∀ {A B : List dY} {k : Nat}, s ∉ A → idx s (A ++ B) k = idx s B (k + A.length)
 | [], _, k, _ => by simp
 | x :: r, B, k, h => by
  rw [List.cons_append, idx, if_neg (fun e => h (by rw [e]; exact List.mem_cons_self)), idx_right (fun e => h (List.mem_cons_of_mem _ e))]
  congr 1; simp; omega
theorem idx_left {s : dY} : ∀ {A B : List dY} {k : Nat}, s ∉ B → idx s (A ++ B) k = idx s A k
 | [], B, k, h => by rw [List.nil_append, jc h]; rfl
 | x :: r, B, k, h => by
  rw [List.cons_append, idx, idx]
  split
  ·rfl
  ·exact idx_left h
theorem idx_blocks {G : Nat → List dY} {d : Nat} (hd : ∀ a, (G a).length = d) {s : dY} {a0 : Nat} (hu : ∀ a, s ∈ G a → a = a0) (k : Nat) :
  ∀ n, idx s ((List.range n).flatMap G) k = if a0 < n then idx s (G a0) (k + d * a0) else -1
 | 0 => by simp [idx]
 | n + 1 => by
  rw [List.range_succ, List.flatMap_append, List.flatMap_singleton]
  have hl : ((List.range n).flatMap G).length = d * n := by
   rw [List.length_flatMap]
   simp only [hd]
   exact sum_const d n
  by_cases h : n = a0
  ·subst h
   rw [idx_right, hl, if_pos aj]
   intro hm
   obtain ⟨b, hb, hb2⟩ := List.mem_flatMap.1 hm
   have := hu b hb2
   have := List.mem_range.1 hb
   omega
  ·rw [idx_left (fun hm => h (hu n hm)), idx_blocks hd hu k n]
   by_cases h2 : a0 < n
   ·rw [if_pos h2, if_pos aj]
   ·rw [if_neg h2, if_neg aj]
def M1 (n : Nat) : List dY := (List.range n).flatMap fun (a : Nat) => [((1 : Int), (a : Int), (0 : Int))]
def M2 (n : Nat) : List dY := (List.range n).flatMap fun (a : Nat) => [((2 : Int), (a : Int), (0 : Int))]
def M3 (n : Nat) : List dY := (List.range n).flatMap fun (a : Nat) => [((3 : Int), (a : Int), (0 : Int)), (4, (a : Int), 0)]
def M4 (D n : Nat) : List dY := (List.range n).flatMap fun (a : Nat) => (5, (a : Int), 0) :: wrd a D
theorem spots_eq (c : Cfg) : spots c = (((S0 ++ M1 c.ww.toNat) ++ M2 c.sl.toNat) ++ M3 c.en.toNat) ++ M4 c.wd.toNat (c.sl * c.bl).toNat := by
 simp only [spots, S4, S3, S2, S1, M1, M2, M3, M4]
 simp only [List.map_eq_flatMap]
theorem mem_S0 {s : dY} (h : s ∈ S0) : s.1 = 0 := by
 simp [S0] at h; rcases h with rfl | rfl | rfl <;> rfl
theorem mem_M1 {s : dY} {n : Nat} (h : s ∈ M1 n) : s.1 = 1 ∧ s.2.2 = 0 ∧ 0 ≤ s.2.1 := by
 obtain ⟨a, _, h⟩ := List.mem_flatMap.1 h; simp at h; subst h; simp
theorem mem_M2 {s : dY} {n : Nat} (h : s ∈ M2 n) : s.1 = 2 ∧ s.2.2 = 0 ∧ 0 ≤ s.2.1 := by
 obtain ⟨a, _, h⟩ := List.mem_flatMap.1 h; simp at h; subst h; simp
theorem mem_M3 {s : dY} {n : Nat} (h : s ∈ M3 n) : (s.1 = 3 ∨ s.1 = 4) ∧ s.2.2 = 0 ∧ 0 ≤ s.2.1 := by
 obtain ⟨a, _, h⟩ := List.mem_flatMap.1 h; simp at h; rcases h with rfl | rfl <;> simp
theorem mem_M4 {s : dY} {D n : Nat} (h : s ∈ M4 D n) : (s.1 = 5 ∧ s.2.2 = 0 ∨ s.1 = 6 ∧ 0 ≤ s.2.2) ∧ 0 ≤ s.2.1 := by
 obtain ⟨a, _, h⟩ := List.mem_flatMap.1 h
 rcases List.mem_cons.1 h with rfl | h
 ·simp
 ·obtain ⟨b, _, rfl⟩ := List.mem_map.1 h; simp
theorem len_S0 : S0.length = 3 := rfl
section
variable {c : Cfg} (h : Ok c)
theorem fU {c : Cfg} (h : Ok c) : okB c = true := okB_true (fK.2 h)
theorem refAt_ok {c : Cfg} (h : Ok c) (s : dY) : refAt c s = idx s (spots c) 0 := by rw [refAt, if_pos (fK.2 h)]
theorem hasB_ok {c : Cfg} (h : Ok c) (i n : Int) : (hasB c i n = true) ↔ (0 ≤ i ∧ i < n) := by simp [hasB, fU h]
theorem at1 {c : Cfg} (h : Ok c) (a : Int) : refAt c (1, a, 0) = fB c a := by
 have hw := h.ww
 rw [refAt_ok h, spots_eq, idx_left (fun m => by have := mem_M4 m; simp at this), idx_left (fun m => by have := mem_M3 m; simp at this), idx_left (fun m => by have := mem_M2 m; simp at this), idx_right (fun m => by have := mem_S0 m; simp at this), len_S0]
 unfold fB
 by_cases ha : 0 ≤ a
 ·obtain ⟨n, rfl⟩ := Int.eq_ofNat_of_zero_le ha
  unfold M1
  rw [idx_blocks (d := 1) (a0 := n) (fun _ => rfl) (fun b hb => by simp at hb; omega)]
  by_cases hn : (n : Int) < c.ww
  ·rw [if_pos aj, if_pos ((hasB_ok h _ _).2 ⟨ha, hn⟩), idx, if_pos rfl]; omega
  ·rw [if_neg aj, if_neg (fun e => hn ((hasB_ok h _ _).1 e).2)]
 ·rw [jc (fun m => ha (mem_M1 m).2.2), if_neg (fun e => ha ((hasB_ok h _ _).1 e).1)]
end
theorem spots_len {c : Cfg} (h : Ok c) : ((spots c).length : Int) = siz c := by
 have := fU h
 have hw := h.ww
 have hs := h.sl
 have he := h.en
 have hd := h.wd
 have hm := tot_ok this
 unfold spots
 rw [S4_len, siz, if_pos this]
 have : (((c.wd.toNat + 1) * (c.sl * c.bl).toNat : Nat) : Int) = c.sl * c.bl * (1 + c.wd) := by
  rw [Int.natCast_mul, Int.mul_comm]; congr 1 <;> omega
 omega
end Go.Proofs.YtaiodbcnbcdokaaGreat.Pl
