/- The block that an event writes: guard.owner, guard.Written. -/
import Derived.Test.YtgjkjobemnhbmaaPlanAddr
import Derived.Test.YtgjkjobemnhbmaaRefAtNum
import Derived.Test.YtgjkjobemnhbmaaOpenWorks
namespace Go.Proofs.Ytgjkjobemnhbmaa.Wo
open Go Go.RowKit Go.Proofs.Ytgjkjobemnhbmaa.Gro Go.Proofs.Ytgjkjobemnhbmaa.Own Go.Proofs.Ytgjkjobemnhbmaa.Wd Go.Proofs.Ytgjkjobemnhbmaa.Ap Go.Proofs.Ytgjkjobemnhbmaa.Pl Go.Proofs.Ytgjkjobemnhbmaa.Shp
set_option linter.unusedVariables false
set_option linter.unusedSimpArgs false
/-- r is the block that has the address, or -1. -/
def Writ (c : Cfg) (at_ r : Int) : Prop := (r = -1 ∧ ∀ b i : Nat, (b : Int) < tot c → (i : Int) < c.wd → aWrd c b i ≠ at_) ∨ ∃ b i : Nat, r = b ∧ (b : Int) < tot c ∧ (i : Int) < c.wd ∧ aWrd c b i = at_
theorem aWrd_in {c : Cfg} (h : Ok c) {b i : Nat} (hb : (b : Int) < tot c) (hi : (i : Int) < c.wd) : aWrd c b i = 3 + c.ww + c.sl + 2 * c.en + (b : Int) * (1 + c.wd) + 1 + i := by
  unfold aWrd
  rw [if_pos]
  rw [Bool.and_eq_true]
  exact ⟨(hasB_ok h _ _).2 ⟨by omega, hb⟩, (hasB_ok h _ _).2 ⟨by omega, hi⟩⟩
theorem aWrd_inj {c : Cfg} (h : Ok c) {b i b' i' : Nat} (hb : (b : Int) < tot c) (hi : (i : Int) < c.wd) (hb' : (b' : Int) < tot c) (hi' : (i' : Int) < c.wd) (e : aWrd c b i = aWrd c b' i') : b = b' := by
  rw [aWrd_in h hb hi, aWrd_in h hb' hi'] at e
  have key : ∀ x y : Int, x < y → x * (1 + c.wd) + (1 + c.wd) ≤ y * (1 + c.wd) := fun x y hxy => by
    have := Int.mul_le_mul_of_nonneg_right (show x + 1 ≤ y by omega) (show 0 ≤ 1 + c.wd by omega)
    rwa [Int.add_mul, Int.one_mul] at this
  rcases Int.lt_trichotomy (b : Int) (b' : Int) with hlt | heq | hgt
  · have := key _ _ hlt; omega
  · omega
  · have := key _ _ hgt; omega
theorem ok_of_tot {c : Cfg} {b : Nat} (hb : (b : Int) < tot c) : Ok c := by
  cases h : okB c
  · rw [tot, h] at hb
    simp at hb
    omega
  · exact okB_ok h
theorem Writ.same {c : Cfg} {a r r' : Int} (h : Writ c a r) (h' : Writ c a r') : r = r' := by
  rcases h with ⟨rfl, h⟩ | ⟨b, i, rfl, h1, h2, h3⟩
  · rcases h' with ⟨rfl, _⟩ | ⟨b, i, rfl, h1, h2, h3⟩
    · rfl
    · exact absurd h3 (h b i h1 h2)
  · rcases h' with ⟨rfl, h⟩ | ⟨b', i', rfl, h1', h2', h3'⟩
    · exact absurd h3 (h b i h1 h2)
    · rw [aWrd_inj (ok_of_tot h1) h1 h2 h1' h2' (h3.trans h3'.symm)]
theorem writ_none {c : Cfg} {a : Int} (h : tot c ≤ 0) : Writ c a (-1) := .inl ⟨rfl, fun b i hb _ => by omega⟩
theorem writ_range {c : Cfg} {a r : Int} (h : Writ c a r) : -1 ≤ r ∧ r < 128 := by
  rcases h with ⟨rfl, _⟩ | ⟨b, i, rfl, h1, _, _⟩
  · omega
  · have := tot_range c
    omega
def WritPost (c : Cfg) (at_ : Int) (w : World) (e : Ending) (w' : World) : Prop := ∃ r, e = .returned (.tuple #[.int .i64 r, .bool (decide (0 ≤ r))]) ∧ Writ c at_ r ∧ Below w.heap.size w w'
abbrev ccG (c : Cfg) : Array Value := #[.int .i64 c.ww, .int .i64 c.sl, .int .i64 c.bl, .int .i64 c.wd, .int .i64 c.en, .int .i64 c.rk, .int .i64 c.bg, .int .u64 c.la]
set_option maxHeartbeats 2000000 in
theorem owner_bad (c : Cfg) (hf : c.Wf) (at_ : Int) (ht : tot c = 0) (w : World) : Calls Try.prog 102 #[cv c, .int .i64 at_] w (WritPost c at_ w) := by
  have hTo := total c hf
  rw [ht] at hTo
  have HTo := Lib.hid hTo
  have HT := Lib.hid ht
  clear hTo ht
  have P0 := Bk.new w (ccG c) 49
  have hw0 : Below w.heap.size w (w.alloc (.cells (ccG c) 49)) := (Below.refl _ _).alloc (Nat.le_refl _) _
  go_enter Try.func102, Try.ntmps102
  go_wp2_with (refine wpList_load_row rfl 49 _ rfl w.heap.size rfl _ (ccG c) (0, 0) _ (by exact P0) Try.underlying49 rfl (by kernel_rfl) ?_)
  refine (HTo.out _).mono ?_
  rintro e w1 ⟨rfl, hb1⟩
  have hw1 := hw0.trans (hb1.mono hw0.size)
  go_wp2
  refine wp_loop_rounds 1 ?_
  rw [rounds_succ]
  go_wp2
  go_ret2
  exact ⟨-1, rfl, writ_none (by rw [HT.out]; decide), hw1⟩
set_option maxHeartbeats 8000000 in
theorem owner_ok (ww sl bl en rk bg la : Int) (D T : Nat) (hf : (⟨ww, sl, bl, D, en, rk, bg, la⟩ : Cfg).Wf) (at_ : Int) (ht : tot ⟨ww, sl, bl, D, en, rk, bg, la⟩ = (T : Int)) (hT : T ≤ 128) (hD : D ≤ 4) (w : World) :
    Calls Try.prog 102 #[cv ⟨ww, sl, bl, D, en, rk, bg, la⟩, .int .i64 at_] w (WritPost ⟨ww, sl, bl, D, en, rk, bg, la⟩ at_ w) := by
  have hTo := total ⟨ww, sl, bl, D, en, rk, bg, la⟩ hf
  rw [ht] at hTo
  have HTo := Lib.hid hTo
  have HW := Lib.hid (fun b i w => word ⟨ww, sl, bl, D, en, rk, bg, la⟩ hf b i w)
  have HT := Lib.hid ht
  clear hTo ht hf
  have P0 := Bk.new w (ccG ⟨ww, sl, bl, D, en, rk, bg, la⟩) 49
  have hw0 : Below w.heap.size w (w.alloc (.cells (ccG ⟨ww, sl, bl, D, en, rk, bg, la⟩) 49)) := (Below.refl _ _).alloc (Nat.le_refl _) _
  go_enter Try.func102, Try.ntmps102
  go_wp2_with (refine wpList_load_row rfl 49 _ rfl w.heap.size rfl _ (ccG ⟨ww, sl, bl, D, en, rk, bg, la⟩) (0, 0) _ (by exact P0) Try.underlying49 rfl (by kernel_rfl) ?_)
  refine (HTo.out _).mono ?_
  rintro e w1 ⟨rfl, hb1⟩
  have hw1 := hw0.trans (hb1.mono hw0.size)
  have P1 := P0.keep hb1
  clear P0 hw0 hb1
  go_wp2
  go_loopw [10] (fun i wr => ∃ k : Nat, k ≤ T ∧ i = .int .i64 k ∧ (∀ b i : Nat, b < k → (i : Int) < D → aWrd ⟨ww, sl, bl, D, en, rk, bg, la⟩ b i ≠ at_) ∧ Bk wr w.heap.size (ccG ⟨ww, sl, bl, D, en, rk, bg, la⟩) 49 ∧ Below w.heap.size w wr) (fun i _ => T - (intOf i).toNat)
  case atStart => exact ⟨0, Nat.zero_le _, rfl, fun b i h => by omega, P1, hw1⟩
  case round =>
    clear P1 hw1
    obtain ⟨k, hk, rfl, hno, P, hw⟩ := hrel
    have HN := Lib.hid hno
    clear hno
    by_cases hlt : k < T
    · have x := P.cells
      go_wp2
      go_loopw [16] (fun i wr => ∃ j : Nat, j ≤ D ∧ i = .int .i64 j ∧ (∀ i : Nat, i < j → aWrd ⟨ww, sl, bl, D, en, rk, bg, la⟩ k i ≠ at_) ∧ Bk wr w.heap.size (ccG ⟨ww, sl, bl, D, en, rk, bg, la⟩) 49 ∧ Below w.heap.size w wr) (fun i _ => D - (intOf i).toNat)
      case atStart => exact ⟨0, Nat.zero_le _, rfl, fun i h => by omega, P, hw⟩
      case round =>
        clear P hw x
        obtain ⟨j, hj, rfl, hno, P, hw⟩ := hrel
        have HM := Lib.hid hno
        clear hno
        by_cases hlt2 : j < D
        · go_wp2_with (refine wpList_load_row rfl 49 _ rfl w.heap.size rfl _ (ccG ⟨ww, sl, bl, D, en, rk, bg, la⟩) (0, 0) _ (by exact P) Try.underlying49 rfl (by kernel_rfl) ?_)
          refine (HW.out _ _ _).mono ?_
          rintro e w3 ⟨rfl, hb3⟩
          have P3 := P.keep hb3
          have hw3 := hw.trans (hb3.mono hw.size)
          clear P hw hb3
          by_cases he : aWrd ⟨ww, sl, bl, D, en, rk, bg, la⟩ k j = at_
          · have hb : (aWrd ⟨ww, sl, bl, D, en, rk, bg, la⟩ k j == at_) = true := by simp [he]
            have HE := Lib.hid he
            clear he
            go_wp2
            go_ret2
            exact ⟨k, by simp, .inr ⟨k, j, rfl, by rw [HT.out]; omega, by simp; omega, HE.out⟩, hw3⟩
          · have hb : (aWrd ⟨ww, sl, bl, D, en, rk, bg, la⟩ k j == at_) = false := by simp [he]
            have HE := Lib.hid he
            clear he
            go_wp2
            go_roundw
            case rel => exact ⟨j + 1, by omega, by go_num, fun i h => by rcases Nat.lt_succ_iff_lt_or_eq.1 h with h | rfl; exact HM.out i h; exact HE.out, P3, hw3⟩
            case measure => simp [intOf]; omega
        · obtain rfl : D = j := by omega
          go_wp2
          go_roundw
          case rel => exact ⟨k + 1, by omega, by go_num, fun b i h hi => by rcases Nat.lt_succ_iff_lt_or_eq.1 h with h | rfl; exact HN.out b i h hi; exact HM.out i (by omega), P, hw⟩
          case measure => simp [intOf]; omega
    · obtain rfl : T = k := by omega
      go_wp2
      go_ret2
      exact ⟨-1, rfl, .inl ⟨rfl, fun b i hb hi => HN.out b i (by rw [HT.out] at hb; omega) hi⟩, hw⟩
theorem owner (c : Cfg) (hf : c.Wf) (at_ : Int) (w : World) : Calls Try.prog 102 #[cv c, .int .i64 at_] w (WritPost c at_ w) := by
  cases h : okB c
  · exact owner_bad c hf at_ (by rw [tot, h]; rfl) w
  · have ho := okB_ok h
    have htr := tot_range c
    obtain ⟨_, _, _, hd, _, _, _, _⟩ := ho
    obtain ⟨ww, sl, bl, wd, en, rk, bg, la⟩ := c
    simp only at hd
    obtain ⟨D, rfl⟩ := Int.eq_ofNat_of_zero_le (a := wd) (by omega)
    obtain ⟨T, hT⟩ := Int.eq_ofNat_of_zero_le htr.1
    exact owner_ok ww sl bl en rk bg la D T hf at_ hT (by omega) (by omega) w
theorem build_planG (c : Cfg) (w : World) : (Instr.build 49 #[(0, cv c)]).run Try.prog w = .ok (cv c) w := run_build w _ _ _ (by kernel_rfl)
def wr2 (e : Ev) : Bool := decide (e.kd = 2) && decide (e.ak = 2)
/-- What an event writes. -/
def EvW (c : Cfg) (e : Ev) (r : Int) : Prop := (e.kd = 2 ∧ e.ak = 2 ∧ Writ c e.at_ r) ∨ (¬ (e.kd = 2 ∧ e.ak = 2) ∧ r = -1)
theorem EvW.same {c : Cfg} {e : Ev} {r r' : Int} (h : EvW c e r) (h' : EvW c e r') : r = r' := by
  rcases h with ⟨h1, h2, h3⟩ | ⟨h1, rfl⟩
  · rcases h' with ⟨_, _, h3'⟩ | ⟨h1', _⟩
    · exact h3.same h3'
    · exact absurd ⟨h1, h2⟩ h1'
  · rcases h' with ⟨h1', h2', _⟩ | ⟨_, rfl⟩
    · exact absurd ⟨h1', h2'⟩ h1
    · rfl
theorem evw_range {c : Cfg} {e : Ev} {r : Int} (h : EvW c e r) : -1 ≤ r ∧ r < 128 := by
  rcases h with ⟨_, _, h⟩ | ⟨_, rfl⟩
  · exact writ_range h
  · omega
def WrittenPost (c : Cfg) (v : Ev) (w : World) (e : Ending) (w' : World) : Prop := ∃ r, e = .returned (.tuple #[.int .i64 r, .bool (decide (0 ≤ r))]) ∧ EvW c v r ∧ Below w.heap.size w w'
set_option maxRecDepth 10000 in
set_option maxHeartbeats 4000000 in
theorem written (c : Cfg) (hf : c.Wf) (v : Ev) (w : World) : Calls Try.prog 61 #[cv c, .agg (ec v)] w (WrittenPost c v w) := by
  have C0 := (Bk.new w (ccG c) 24).alloc (.cells (ec v) 94)
  have E0 := Bk.new (w.alloc (.cells (ccG c) 24)) (ec v) 94
  have e3 : (ec v)[3]? = some (.int .i64 v.kd) := rfl
  have e15 : (ec v)[15]? = some (.int .i64 v.ak) := rfl
  have e16 : (ec v)[16]? = some (.int .i64 v.at_) := rfl
  have hw0 : Below w.heap.size w ((w.alloc (.cells (ccG c) 24)).alloc (.cells (ec v) 94)) := ((Below.refl _ _).alloc (Nat.le_refl _) _).alloc (by simp) _
  have hbp := build_planG c
  by_cases hk : v.kd = 2
  · have tk : (v.kd != 2) = false := by simp [hk]
    by_cases ha : v.ak = 2
    · have ta : (v.ak != 2) = false := by simp [ha]
      have HKA := Lib.hid (And.intro hk ha)
      clear hk ha
      go_enter Try.func61, Try.ntmps61
      go_wp2_with (refine wpList_load_row rfl 24 _ rfl w.heap.size rfl _ (ccG c) (0, 0) _ (by exact C0) Try.underlying24 rfl (by kernel_rfl) ?_)
      refine (owner c hf v.at_ _).mono ?_
      rintro e w1 ⟨r, rfl, hr, hb1⟩
      go_wp2
      go_ret2
      exact ⟨r, rfl, .inl ⟨HKA.out.1, HKA.out.2, hr⟩, hw0.trans (hb1.mono hw0.size)⟩
    · have ta : (v.ak != 2) = true := by simp [ha]
      have HKA := Lib.hid (show ¬ (v.kd = 2 ∧ v.ak = 2) from fun h => ha h.2)
      clear hk ha
      go_enter Try.func61, Try.ntmps61
      go_wp2
      go_ret2
      exact ⟨-1, rfl, .inr ⟨HKA.out, rfl⟩, hw0⟩
  · have tk : (v.kd != 2) = true := by simp [hk]
    have HKA := Lib.hid (show ¬ (v.kd = 2 ∧ v.ak = 2) from fun h => hk h.1)
    clear hk
    go_enter Try.func61, Try.ntmps61
    go_wp2
    go_ret2
    exact ⟨-1, rfl, .inr ⟨HKA.out, rfl⟩, hw0⟩
end Go.Proofs.Ytgjkjobemnhbmaa.Wo
