/- Layer 21: script.number. -/
import Derived.Test.YtpmcedfeiconfaaGreatDoorOpText
import Derived.Test.YtpmcedfeiconfaaGreatDoorScrs
namespace Go.Proofs.YtpmcedfeiconfaaGreatDoor.Scw
open Go Go.RowKit Go.ChangeMaps Go.Proofs.YtpmcedfeiconfaaGreatDoor.Gro Go.Proofs.YtpmcedfeiconfaaGreatDoor.Own Go.Proofs.YtpmcedfeiconfaaGreatDoor.Mr Go.Proofs.YtpmcedfeiconfaaGreatDoor.Opn Go.Proofs.YtpmcedfeiconfaaGreatDoor.Opw Go.Proofs.YtpmcedfeiconfaaGreatDoor.Scr
set_option linter.unusedVariables false
set_option linter.unusedSimpArgs false
/-- The number is given back where the word is one. -/
def NumPost (l : List UInt8) (w : World) (e : Ending) (w' : World) : Prop :=
  ∃ v : Int, 0 ≤ v ∧ v ≤ 9223372036854775807 ∧ e = .returned (.tuple #[.int .i64 v, .bool (rdW l).isSome]) ∧ Below w.heap.size w w' ∧ ∀ u : Nat, rdW l = some u → v = u
set_option maxHeartbeats 4000000 in
theorem fNumber (l : List UInt8) (hl : l.length ≤ 281474976710656) (w : World) (L : Lb w) : Calls Tryz.prog 66 #[strV l] w (NumPost l w) := by
  have HP := Lib.hid (fParse63 ⟨l.toArray⟩ (show l.toArray.size ≤ _ by simpa using hl) w L)
  have hd : (⟨l.toArray⟩ : ByteArray).data.toList = l := rfl
  rw [hd] at HP
  clear hd hl
  go_enter Tryz.func66, Tryz.ntmps66
  go_wp2_with fail
  refine HP.out.mono ?_
  rintro e w1 ⟨v, er, rfl, hb1, h0, h1, hor⟩
  have L1 := L.keep hb1
  have h2 : v ≤ 9223372036854775807 := by have : ((2 ^ 63 - 1 : Nat) : Int) = 9223372036854775807 := by decide
                                          omega
  have HV := Lib.hid (And.intro h0 h2)
  rcases hor with ⟨u, hr, rfl, rfl⟩ | ⟨hr, t, p, rfl⟩
  · have HI := Lib.hid (fItoa (u : Int) h0 h2 w1 L1)
    obtain ⟨tx, htx⟩ : ∃ q, q = dec (u : Int) := ⟨_, rfl⟩
    rw [← htx] at HI
    have hW : rdW l = if tx = l then some u else none := by
      unfold rdW
      rw [hr, htx]
      rfl
    have HW := Lib.hid hW
    have HX := Lib.hid htx
    clear hr h1 HP hW htx
    cases hc : (tx == l) with
    | false =>
      have HC : RowKit.Hid (rdW l = none) := Lib.hid (by rw [HW.out, if_neg (by simpa using hc)])
      go_wp2_with fail
      refine HI.out.mono ?_
      rintro e w2 ⟨rfl, hb2⟩
      go_wp2_with fail
      go_ret2
      exact ⟨u, HV.out.1, HV.out.2, by rw [HC.out]; rfl, hb1.trans (hb2.mono hb1.size), fun u' hu' => by rw [HC.out] at hu'; cases hu'⟩
    | true =>
      have HC : RowKit.Hid (rdW l = some u) := Lib.hid (by rw [HW.out, if_pos (by simpa using hc)])
      go_wp2_with fail
      refine HI.out.mono ?_
      rintro e w2 ⟨rfl, hb2⟩
      go_wp2_with fail
      go_ret2
      exact ⟨u, HV.out.1, HV.out.2, by rw [HC.out]; rfl, hb1.trans (hb2.mono hb1.size), fun u' hu' => by rw [HC.out] at hu'; cases hu'; rfl⟩
  · have HC : RowKit.Hid (rdW l = none) := Lib.hid (by unfold rdW; rw [hr])
    clear hr h1 HP
    go_wp2_with fail
    go_ret2
    exact ⟨v, HV.out.1, HV.out.2, by rw [HC.out]; rfl, hb1, fun u' hu' => by rw [HC.out] at hu'; cases hu'⟩
end Go.Proofs.YtpmcedfeiconfaaGreatDoor.Scw
