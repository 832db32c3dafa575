/- Layer 21: script.workersExist. -/
import Derived.Test.YtpmcedfeiconfaaGreatDoorWords
import Derived.Test.YtpmcedfeiconfaaGreatDoorPlanNum
import Derived.Test.YtpmcedfeiconfaaGreatDoorPlanWalks
namespace Go.Proofs.YtpmcedfeiconfaaGreatDoor.Scw
open Go Go.RowKit Go.Proofs.YtpmcedfeiconfaaGreatDoor.Gro Go.Proofs.YtpmcedfeiconfaaGreatDoor.Own Go.Proofs.YtpmcedfeiconfaaGreatDoor.Wd Go.Proofs.YtpmcedfeiconfaaGreatDoor.Pl
set_option linter.unusedVariables false
set_option linter.unusedSimpArgs false
def cfgC (c : Cfg) : Array Value := #[.int .i64 c.ww, .int .i64 c.sl, .int .i64 c.bl, .int .i64 c.wd, .int .i64 c.en, .int .i64 c.rk, .int .i64 c.bg, .int .u64 c.la]
def outW (c : Cfg) (k : Int) : Bool := decide (k < 0) || decide (c.ww ≤ k)
set_option maxHeartbeats 1000000 in
theorem fOut (c : Cfg) (k : Int) (w : World) (g : Nat) (B : Bk w g (cfgC c) 24) :
    Calls Tryz.prog 51 #[.int .i64 k, .pointer (some ⟨g, 0, none⟩)] w fun e w' => e = .returned (.bool (outW c k)) ∧ Below w.heap.size w w' := by
  have b0 : w.cell? ⟨g, 0, none⟩ = some (.int .i64 c.ww) := B.cells 0
  by_cases h : k < 0
  · have e : outW c k = true := by unfold outW; simp [h]
    have HE := Lib.hid e
    clear e
    go_enter Tryz.func51, Tryz.ntmps51
    go_wp2_with fail
    go_ret
    exact ⟨Wd.ret_bool HE.out.symm, Below.refl _ _⟩
  · have e : outW c k = decide (c.ww ≤ k) := by unfold outW; simp [h]
    have HE := Lib.hid e
    clear e
    go_enter Tryz.func51, Tryz.ntmps51
    go_wp2_with fail
    go_ret
    exact ⟨Wd.ret_bool HE.out.symm, Below.refl _ _⟩
abbrev outV (g : Nat) : Value := .func (.func 51) #[] #[.pointer (some ⟨g, 0, none⟩)]
def IdxPost (c : Cfg) (l : List Int) (w : World) (e : Ending) (w' : World) : Prop :=
  ∃ r : Int, e = .returned (.int .i64 r) ∧ (0 ≤ r ↔ l.any (outW c) = true) ∧ Below w.heap.size w w'
set_option maxHeartbeats 1000000 in
theorem fIdx0 (c : Cfg) (a : Option Addr) (cp : Nat) (g : Nat) (w : World) : Calls Tryz.prog 64 #[.slice a 0 cp, outV g] w (IdxPost c [] w) := by
  go_enter Tryz.func64, Tryz.ntmps64
  go_wp2
  refine wp_loop_rounds 1 ?_
  rw [rounds_succ]
  go_wp2
  go_ret
  exact ⟨-1, rfl, by simp, Below.refl _ _⟩
set_option maxHeartbeats 4000000 in
theorem fIdx1 (c : Cfg) (b o cp : Nat) (l : List Int) (g : Nat) (w : World) (hm : l.length ≤ maxLen) (B : Bk w g (cfgC c) 24)
    (h1 : ∀ i (h : i < l.length), w.cell? ⟨b, o + i, none⟩ = some (.int .i64 l[i])) (hb : b < w.heap.size) :
    Calls Tryz.prog 64 #[.slice (some ⟨b, o, none⟩) l.length cp, outV g] w (IdxPost c l w) := by
  unfold maxLen at hm
  have H1 := Lib.hid h1
  have HB := Lib.hid B
  have Hb := Lib.hid hb
  clear h1 B hb
  go_enter Tryz.func64, Tryz.ntmps64
  go_wp2
  go_loopw [8] (fun i wr => ∃ k : Nat, k ≤ l.length ∧ i = .int .i64 k ∧ RowKit.Hid (∀ j (h : j < k) (h1 : j < l.length), outW c l[j] = false) ∧ RowKit.Hid (Below w.heap.size w wr)) (fun i _ => l.length - (intOf i).toNat)
  case atStart => exact ⟨0, Nat.zero_le _, rfl, Lib.hid (fun j h => by omega), Lib.hid (Below.refl _ _)⟩
  case round =>
    obtain ⟨k, hk, rfl, HA, HW⟩ := hrel
    by_cases hlt : k < l.length
    · have q1 : wr.cell? ⟨b, o + k, none⟩ = some (.int .i64 l[k]) := (HW.out.cell (p := ⟨b, o + k, none⟩) Hb.out).trans (H1.out k hlt)
      have BR := HB.out.keepB HW.out HB.out.lt
      have HC := Lib.hid (fOut c l[k] wr g BR)
      obtain ⟨x, hx⟩ : ∃ x, x = outW c l[k] := ⟨_, rfl⟩
      rw [← hx] at HC
      cases x with
      | false =>
        have HX := Lib.hid hx
        clear hx BR
        go_wp2_with fail
        refine HC.out.mono ?_
        rintro e w2 ⟨rfl, hb2⟩
        have HW2 := Lib.hid (HW.out.trans (hb2.mono HW.out.size))
        clear hb2
        go_wp2
        go_roundw
        case rel => exact ⟨k + 1, by omega, by go_num, Lib.hid (fun j h h1 => by rcases Nat.lt_succ_iff_lt_or_eq.1 h with h | rfl; exact HA.out j h h1; exact HX.out.symm), HW2⟩
        case measure => simp [intOf]; omega
      | true =>
        have HX := Lib.hid hx
        clear hx BR
        go_wp2_with fail
        refine HC.out.mono ?_
        rintro e w2 ⟨rfl, hb2⟩
        have HW2 := Lib.hid (HW.out.trans (hb2.mono HW.out.size))
        clear hb2
        go_wp2
        go_ret
        exact ⟨k, rfl, ⟨fun _ => List.any_eq_true.2 ⟨l[k], List.getElem_mem hlt, HX.out.symm⟩, fun _ => by omega⟩, HW2.out⟩
    · obtain rfl : k = l.length := by omega
      go_wp2
      go_ret
      refine ⟨-1, rfl, ⟨fun h => absurd h (by decide), fun h => ?_⟩, HW.out⟩
      obtain ⟨x, hx, ho⟩ := List.any_eq_true.1 h
      obtain ⟨j, hj, rfl⟩ := List.mem_iff_getElem.1 hx
      rw [HA.out j hj hj] at ho
      cases ho
theorem fHas (c : Cfg) (v : Value) (l : List Int) (g : Nat) (w : World) (R : Reads w .i64 v l) (B : Bk w g (cfgC c) 24) :
    Calls Tryz.prog 50 #[v, outV g] w fun e w' => e = .returned (.bool (l.any (outW c))) ∧ Below w.heap.size w w' := by
  have HC : RowKit.Hid (Calls Tryz.prog 64 #[v, outV g] w (IdxPost c l w)) := Lib.hid (by
    obtain ⟨ad, cap, rfl, hc, hm, h⟩ := R
    rcases h with rfl | ⟨b, off, rfl, hb, hcell⟩
    · exact fIdx0 c ad cap g w
    · exact fIdx1 c b off cap l g w (Nat.le_trans hc hm) B hcell hb)
  clear R B
  go_enter Tryz.func50, Tryz.ntmps50
  go_wp2_with fail
  refine HC.out.mono ?_
  rintro e w1 ⟨r, rfl, hr, hb1⟩
  have HR : RowKit.Hid (decide (0 ≤ r) = l.any (outW c)) := Lib.hid (by rw [Bool.eq_iff_iff, decide_eq_true_eq]; exact hr)
  clear hr
  go_wp2_with fail
  go_ret
  exact ⟨Wd.ret_bool HR.out, hb1⟩
theorem inR_any (c : Cfg) (l : List Int) : (!l.any (outW c)) = l.all fun k => decide (0 ≤ k) && decide (k < c.ww) := by
  rw [List.not_any_eq_all_not]
  congr 1
  funext k
  unfold outW
  by_cases h1 : k < 0 <;> by_cases h2 : c.ww ≤ k <;> simp [h1, h2] <;> omega
set_option maxHeartbeats 1000000 in
theorem fExist (c : Cfg) (v : Value) (l : List Int) (w : World) (R : Reads w .i64 v l) :
    Calls Tryz.prog 27 #[cv c, v] w fun e w' => e = .returned (.bool (l.all fun k => decide (0 ≤ k) && decide (k < c.ww))) ∧ Below w.heap.size w w' := by
  rw [← inR_any]
  obtain ⟨w1, hw1⟩ : ∃ q, q = w.alloc (.cells (cfgC c) 24) := ⟨_, rfl⟩
  have B1 : Bk w1 w.heap.size (cfgC c) 24 := by rw [hw1]; exact Bk.new w _ _
  have b1 : Below w.heap.size w w1 := by rw [hw1]; exact (Below.refl _ _).alloc (Nat.le_refl _) _
  have HC := Lib.hid (fHas c v l w.heap.size w1 (R.keep b1) B1)
  have HB := Lib.hid b1
  have hmf : ∀ (fn : Fn) (first cap : Array Value) (w : World), (Instr.makeFunc fn first cap).run Tryz.prog w = .ok (.func fn first cap) w := fun _ _ _ _ => rfl
  clear R B1 b1
  go_enter Tryz.func27, Tryz.ntmps27
  go_wp2_with fail
  subst hw1
  refine HC.out.mono ?_
  rintro e w2 ⟨rfl, hb2⟩
  have HB2 := Lib.hid (HB.out.trans (hb2.mono HB.out.size))
  clear hb2
  go_wp2_with fail
  go_ret
  exact ⟨rfl, HB2.out⟩
end Go.Proofs.YtpmcedfeiconfaaGreatDoor.Scw
