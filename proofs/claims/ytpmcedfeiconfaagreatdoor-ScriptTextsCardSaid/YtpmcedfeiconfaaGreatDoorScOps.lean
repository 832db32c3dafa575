/- Layer 21: programs as lists of operations in memory; script.rightProgram. -/
import Derived.Test.YtpmcedfeiconfaaGreatDoorOpRight
import Derived.Test.YtpmcedfeiconfaaGreatDoorWords
import Derived.Test.YtpmcedfeiconfaaGreatDoorScrs
import Derived.Deep.MidRow
namespace Go.Proofs.YtpmcedfeiconfaaGreatDoor.Scw
open Go Go.RowKit Go.ChangeMaps Go.Proofs.YtpmcedfeiconfaaGreatDoor.Gro Go.Proofs.YtpmcedfeiconfaaGreatDoor.Own Go.Proofs.YtpmcedfeiconfaaGreatDoor.Mr Go.Proofs.YtpmcedfeiconfaaGreatDoor.Opn Go.Proofs.YtpmcedfeiconfaaGreatDoor.Opw
set_option linter.unusedVariables false
set_option linter.unusedSimpArgs false
/-- A slice of operations that reads as a list. -/
def ReadsO (w : World) (v : Value) (l : List OpD) : Prop :=
  ∃ ad cap, v = .slice ad l.length cap ∧ l.length ≤ cap ∧ cap ≤ maxLen ∧ (l = [] ∨ ∃ b off, ad = some ⟨b, off, none⟩ ∧ b < w.heap.size ∧ ∀ i (h : i < l.length), w.rangeAt b (off + i * 7) (opC l[i]).toList)
theorem ReadsO.keep {w w' : World} {v : Value} {l : List OpD} (h : ReadsO w v l) (hb : Below w.heap.size w w') : ReadsO w' v l := by
  obtain ⟨ad, cap, rfl, h1, h2, h3⟩ := h
  refine ⟨ad, cap, rfl, h1, h2, ?_⟩
  rcases h3 with h3 | ⟨b, off, rfl, hl, hc⟩
  · exact .inl h3
  · exact .inr ⟨b, off, rfl, Nat.lt_of_lt_of_le hl hb.size, fun i hi j v hv => (hb.cell (p := ⟨b, _, none⟩) hl).trans (hc i hi j v hv)⟩
theorem fBad (o : OpD) (w : World) : Calls Tryz.prog 49 #[opV o] w fun e w' => e = .returned (.bool (!right o)) ∧ Below w.heap.size w w' := by
  obtain ⟨w1, hw1⟩ : ∃ q, q = w.alloc (.cells (opC o) 50) := ⟨_, rfl⟩
  have K0 : Bk w1 w.heap.size (opC o) 50 := by rw [hw1]; exact Bk.new w _ _
  have b1 : Below w.heap.size w w1 := by rw [hw1]; exact (Below.refl _ _).alloc (Nat.le_refl _) _
  have HR := Lib.hid (fRight o w1)
  have HB := Lib.hid b1
  clear b1
  go_enter Tryz.func49, Tryz.ntmps49
  go_wp2_with (first | (refine wpList_load_row rfl 50 _ rfl w.heap.size rfl _ (opC o) (0, 0) _ (by first | exact K0 | (rw [hw1] at K0; exact K0)) Tryz.underlying50 rfl (by kernel_rfl) ?_))
  subst hw1
  refine HR.out.mono ?_
  rintro e w2 ⟨rfl, hb2⟩
  have HB2 := Lib.hid (HB.out.trans (hb2.mono HB.out.size))
  clear hb2
  go_wp2_with fail
  go_ret
  exact ⟨rfl, HB2.out⟩
abbrev badV : Value := .func (.func 49) #[] #[]
def IdxO (l : List OpD) (w : World) (e : Ending) (w' : World) : Prop :=
  ∃ r : Int, e = .returned (.int .i64 r) ∧ (0 ≤ r ↔ (l.any fun o => !right o) = true) ∧ Below w.heap.size w w'
theorem fIdxO0 (a : Option Addr) (cp : Nat) (w : World) : Calls Tryz.prog 63 #[.slice a 0 cp, badV] w (IdxO [] w) := by
  go_enter Tryz.func63, Tryz.ntmps63
  go_wp2
  refine wp_loop_rounds 1 ?_
  rw [rounds_succ]
  go_wp2
  go_ret
  exact ⟨-1, rfl, by simp, Below.refl _ _⟩
set_option maxRecDepth 100000 in
set_option maxHeartbeats 4000000 in
theorem fIdxO1 (b o cp : Nat) (l : List OpD) (w : World) (hm : l.length ≤ maxLen)
    (h1 : ∀ i (h : i < l.length), w.rangeAt b (o + i * 7) (opC l[i]).toList) (hb : b < w.heap.size) :
    Calls Tryz.prog 63 #[.slice (some ⟨b, o, none⟩) l.length cp, badV] w (IdxO l w) := by
  unfold maxLen at hm
  have H1 := Lib.hid h1
  have Hb := Lib.hid hb
  clear h1 hb
  go_enter Tryz.func63, Tryz.ntmps63
  go_wp2
  go_loopw [8] (fun i wr => ∃ k : Nat, k ≤ l.length ∧ i = .int .i64 k ∧ RowKit.Hid (∀ j (h : j < k) (h1 : j < l.length), right l[j] = true) ∧ RowKit.Hid (Below w.heap.size w wr)) (fun i _ => l.length - (intOf i).toNat)
  case atStart => exact ⟨0, Nat.zero_le _, rfl, Lib.hid (fun j h => by omega), Lib.hid (Below.refl _ _)⟩
  case round =>
    obtain ⟨k, hk, rfl, HA, HW⟩ := hrel
    by_cases hlt : k < l.length
    · have HRG : RowKit.Hid (wr.rangeAt b (o + k * 7) (opC l[k]).toList) := Lib.hid (fun j v hv => (HW.out.cell (p := ⟨b, _, none⟩) Hb.out).trans (H1.out k hlt j v hv))
      have HC := Lib.hid (fBad l[k] wr)
      obtain ⟨x, hx⟩ : ∃ x, x = right l[k] := ⟨_, rfl⟩
      rw [← hx] at HC
      cases x with
      | true =>
        have HX := Lib.hid hx
        clear hx
        go_wp2_with (first | (refine wpList_load_mid rfl 50 _ rfl b (o + k * 7) rfl (opC l[k]).toList _ (by exact HRG.out) Tryz.underlying50 rfl (by kernel_rfl) ?_))
        refine HC.out.mono ?_
        rintro e w2 ⟨rfl, hb2⟩
        have HW2 := Lib.hid (HW.out.trans (hb2.mono HW.out.size))
        clear hb2
        go_wp2
        go_roundw
        case rel => exact ⟨k + 1, by omega, by go_num, Lib.hid (fun j h h1 => by rcases Nat.lt_succ_iff_lt_or_eq.1 h with h | rfl; exact HA.out j h h1; exact HX.out.symm), HW2⟩
        case measure => simp [intOf]; omega
      | false =>
        have HX := Lib.hid hx
        clear hx
        go_wp2_with (first | (refine wpList_load_mid rfl 50 _ rfl b (o + k * 7) rfl (opC l[k]).toList _ (by exact HRG.out) Tryz.underlying50 rfl (by kernel_rfl) ?_))
        refine HC.out.mono ?_
        rintro e w2 ⟨rfl, hb2⟩
        have HW2 := Lib.hid (HW.out.trans (hb2.mono HW.out.size))
        clear hb2
        go_wp2
        go_ret
        exact ⟨k, rfl, ⟨fun _ => List.any_eq_true.2 ⟨l[k], List.getElem_mem hlt, by rw [← HX.out]; rfl⟩, fun _ => by omega⟩, HW2.out⟩
    · obtain rfl : k = l.length := by omega
      go_wp2
      go_ret
      refine ⟨-1, rfl, ⟨fun h => absurd h (by decide), fun h => ?_⟩, HW.out⟩
      obtain ⟨x, hx, ho⟩ := List.any_eq_true.1 h
      obtain ⟨j, hj, rfl⟩ := List.mem_iff_getElem.1 hx
      rw [HA.out j hj hj] at ho
      cases ho
theorem fHasBad (v : Value) (l : List OpD) (w : World) (R : ReadsO w v l) :
    Calls Tryz.prog 48 #[v, badV] w fun e w' => e = .returned (.bool (l.any fun o => !right o)) ∧ Below w.heap.size w w' := by
  have HC : RowKit.Hid (Calls Tryz.prog 63 #[v, badV] w (IdxO l w)) := Lib.hid (by
    obtain ⟨ad, cap, rfl, hc, hm, h⟩ := R
    rcases h with rfl | ⟨b, off, rfl, hb, hcell⟩
    · exact fIdxO0 ad cap w
    · exact fIdxO1 b off cap l w (Nat.le_trans hc hm) hcell hb)
  clear R
  go_enter Tryz.func48, Tryz.ntmps48
  go_wp2_with fail
  refine HC.out.mono ?_
  rintro e w1 ⟨r, rfl, hr, hb1⟩
  have HR : RowKit.Hid (decide (0 ≤ r) = l.any fun o => !right o) := Lib.hid (by rw [Bool.eq_iff_iff, decide_eq_true_eq]; exact hr)
  clear hr
  go_wp2_with fail
  go_ret
  exact ⟨Wd.ret_bool HR.out, hb1⟩
def okP (l : List OpD) : Bool := decide (l.length ≤ 200) && l.all right
theorem okP_any (l : List OpD) : okP l = (decide ((l.length : Int) ≤ 200) && !(l.any fun o => !right o)) := by
  unfold okP
  rw [List.not_any_eq_all_not]
  congr 1
  · by_cases h : l.length ≤ 200 <;> simp [h] <;> omega
  · simp
set_option maxHeartbeats 1000000 in
theorem fRightProgram (v : Value) (l : List OpD) (w : World) (R : ReadsO w v l) :
    Calls Tryz.prog 26 #[v] w fun e w' => e = .returned (.bool (okP l)) ∧ Below w.heap.size w w' := by
  have HC := Lib.hid (fHasBad v l w R)
  have HP := Lib.hid (okP_any l)
  obtain ⟨ad, cap, rfl, hc, hm, _⟩ := R
  unfold maxLen at hm
  obtain ⟨x, hx⟩ : ∃ x, x = l.any fun o => !right o := ⟨_, rfl⟩
  rw [← hx] at HC HP
  clear hx
  by_cases h : (l.length : Int) ≤ 200
  · have HE : RowKit.Hid (okP l = !x) := Lib.hid (by rw [HP.out]; simp [h])
    go_enter Tryz.func26, Tryz.ntmps26
    go_wp2_with fail
    refine HC.out.mono ?_
    rintro e w1 ⟨rfl, hb1⟩
    go_wp2_with fail
    go_ret
    exact ⟨Wd.ret_bool HE.out.symm, hb1⟩
  · have HE : RowKit.Hid (okP l = false) := Lib.hid (by rw [HP.out]; simp [h])
    go_enter Tryz.func26, Tryz.ntmps26
    go_wp2_with fail
    go_ret
    exact ⟨Wd.ret_bool HE.out.symm, Below.refl _ _⟩
end Go.Proofs.YtpmcedfeiconfaaGreatDoor.Scw
