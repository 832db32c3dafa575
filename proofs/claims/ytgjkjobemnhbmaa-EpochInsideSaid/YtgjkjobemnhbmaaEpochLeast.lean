/- epoch.Least (made by genei.py). -/
import Derived.Test.YtgjkjobemnhbmaaInsideRef
import Derived.Test.YtgjkjobemnhbmaaEpochStep
import Derived.Test.YtgjkjobemnhbmaaMemFirstWalk
import Derived.Test.YtgjkjobemnhbmaaOpenList
namespace Go.Proofs.Ytgjkjobemnhbmaa.Me
open Go Go.RowKit Go.Proofs.Ytgjkjobemnhbmaa.Gro Go.Proofs.Ytgjkjobemnhbmaa.Own Go.Proofs.Ytgjkjobemnhbmaa.Wd Go.Proofs.Ytgjkjobemnhbmaa.Ap Go.Proofs.Ytgjkjobemnhbmaa.Pl Go.Proofs.Ytgjkjobemnhbmaa.Wo
set_option linter.unusedVariables false
set_option linter.unusedSimpArgs false
/-- The smallest epoch that one of the first k workers announces as active. -/
def leastL (c : Cfg) (L : List Int) : Nat → Int × Bool
  | 0 => (0, false)
  | k + 1 => if insB c L k = true ∧ ((leastL c L k).2 = false ∨ insE c L k < (leastL c L k).1) then (insE c L k, true) else leastL c L k
theorem least_yes {c : Cfg} {L : List Int} {k : Nat} (h1 : insB c L k = true) (h2 : (leastL c L k).2 = false ∨ insE c L k < (leastL c L k).1) : leastL c L (k + 1) = (insE c L k, true) := if_pos ⟨h1, h2⟩
theorem least_no {c : Cfg} {L : List Int} {k : Nat} (h : ¬ (insB c L k = true ∧ ((leastL c L k).2 = false ∨ insE c L k < (leastL c L k).1))) : leastL c L (k + 1) = leastL c L k := if_neg h
theorem least_stay {c : Cfg} {L : List Int} {n : Nat} (h : ∀ k : Nat, n ≤ k → insB c L k = false) : ∀ m, leastL c L (n + m) = leastL c L n
  | 0 => rfl
  | m + 1 => by
    rw [← Nat.add_assoc, least_no (fun q => by rw [h (n + m) (by omega)] at q; cases q.1)]
    exact least_stay h m
set_option maxRecDepth 10000 in
set_option maxHeartbeats 8000000 in
theorem least (c : Cfg) (hf : c.Wf) {L : List Int} {v : Sl} {w : World} (hr : Reads w .u64 v.v L) (hL : ∀ x ∈ L, 0 ≤ x ∧ x < 18446744073709551616) : Calls Try.prog 43 #[cv c, v.v] w (InsQ (leastL c L 8).1 (leastL c L 8).2 w) := by
  have C0 := Bk.new w (ccM c) 24
  have hw0 : Below w.heap.size w (w.alloc (.cells (ccM c) 24)) := (Below.refl _ _).alloc (Nat.le_refl _) _
  have HI := Lib.hid (fun (k : Nat) (w' : World) (hb : Below w.heap.size w w') => inside c hf (hr.keep hb) hL k)
  clear hr hL hf
  go_enter Try.func43, Try.ntmps43
  go_wp2
  go_loopw [6, 7, 11] (fun le fo i wr => ∃ k : Nat, k ≤ 8 ∧ i = .int .i64 k ∧ le = .int .u64 (leastL c L k).1 ∧ fo = .bool (leastL c L k).2 ∧ Bk wr w.heap.size (ccM c) 24 ∧ Below w.heap.size w wr) (fun _ _ i _ => 8 - (intOf i).toNat)
  case atStart => exact ⟨0, by omega, rfl, rfl, rfl, C0, hw0⟩
  case round =>
    clear C0 hw0
    obtain ⟨k, hk, rfl, hle, hfo, C, hw⟩ := hrel
    have hsum : IntKind.i64.wrap ((k : Int) + 1) = (k : Int) + 1 := IntWalk.i64_in _ (by omega)
    by_cases hlt : k < 8
    · obtain ⟨q, hq⟩ : ∃ q, leastL c L k = q := ⟨_, rfl⟩
      obtain ⟨le, fo⟩ := q
      rw [hq] at hle hfo
      subst hle
      subst hfo
      obtain ⟨ac, hac⟩ : ∃ ac, insB c L k = ac := ⟨_, rfl⟩
      obtain ⟨ep, hep⟩ : ∃ ep, insE c L k = ep := ⟨_, rfl⟩
      have HIN : RowKit.Hid (∀ w', Below w.heap.size w w' → Calls Try.prog 41 #[cv c, v.v, .int .i64 k] w' (InsQ ep ac w')) := Lib.hid (fun w' hb => by have := HI.out k w' hb; unfold InsPost at this; rwa [hac, hep] at this)
      cases ac
      · cases fo
        · have HEQ : RowKit.Hid (leastL c L (k + 1) = (le, false)) := Lib.hid (by rw [least_no (fun q => by rw [hac] at q; cases q.1)]; exact hq)
          clear hq hac hep
          go_wp2_with (refine wpList_load_row rfl 24 _ rfl w.heap.size rfl _ (ccM c) (0, 0) _ (by exact C) Try.underlying24 rfl (by kernel_rfl) ?_)
          refine (HIN.out _ hw).mono ?_
          rintro e w2 ⟨rfl, hb2⟩
          have C2 := C.keep hb2
          have hw2 := hw.trans (hb2.mono hw.size)
          clear C hw hb2
          go_wp2
          go_roundw
          case rel => exact ⟨k + 1, by omega, by go_num, by rw [HEQ.out], by rw [HEQ.out], C2, hw2⟩
          case measure => simp [intOf]; omega
        · have HEQ : RowKit.Hid (leastL c L (k + 1) = (le, true)) := Lib.hid (by rw [least_no (fun q => by rw [hac] at q; cases q.1)]; exact hq)
          clear hq hac hep
          go_wp2_with (refine wpList_load_row rfl 24 _ rfl w.heap.size rfl _ (ccM c) (0, 0) _ (by exact C) Try.underlying24 rfl (by kernel_rfl) ?_)
          refine (HIN.out _ hw).mono ?_
          rintro e w2 ⟨rfl, hb2⟩
          have C2 := C.keep hb2
          have hw2 := hw.trans (hb2.mono hw.size)
          clear C hw hb2
          go_wp2
          go_roundw
          case rel => exact ⟨k + 1, by omega, by go_num, by rw [HEQ.out], by rw [HEQ.out], C2, hw2⟩
          case measure => simp [intOf]; omega
      · cases fo
        · have HEQ : RowKit.Hid (leastL c L (k + 1) = (ep, true)) := Lib.hid (by rw [least_yes hac (by rw [hq]; exact .inl rfl), hep])
          clear hq hac hep
          go_wp2_with (refine wpList_load_row rfl 24 _ rfl w.heap.size rfl _ (ccM c) (0, 0) _ (by exact C) Try.underlying24 rfl (by kernel_rfl) ?_)
          refine (HIN.out _ hw).mono ?_
          rintro e w2 ⟨rfl, hb2⟩
          have C2 := C.keep hb2
          have hw2 := hw.trans (hb2.mono hw.size)
          clear C hw hb2
          go_wp2
          go_roundw
          case rel => exact ⟨k + 1, by omega, by go_num, by rw [HEQ.out], by rw [HEQ.out], C2, hw2⟩
          case measure => simp [intOf]; omega
        · by_cases hlt2 : ep < le
          · have hd : decide (ep < le) = true := by simp; omega
            have HEQ : RowKit.Hid (leastL c L (k + 1) = (ep, true)) := Lib.hid (by rw [least_yes hac (by rw [hq]; exact .inr (by rw [hep]; omega))]; rw [hep])
            clear hq hac hep hlt2
            go_wp2_with (refine wpList_load_row rfl 24 _ rfl w.heap.size rfl _ (ccM c) (0, 0) _ (by exact C) Try.underlying24 rfl (by kernel_rfl) ?_)
            refine (HIN.out _ hw).mono ?_
            rintro e w2 ⟨rfl, hb2⟩
            have C2 := C.keep hb2
            have hw2 := hw.trans (hb2.mono hw.size)
            clear C hw hb2
            go_wp2
            go_roundw
            case rel => exact ⟨k + 1, by omega, by go_num, by rw [HEQ.out], by rw [HEQ.out], C2, hw2⟩
            case measure => simp [intOf]; omega
          · have hd : decide (ep < le) = false := by simp; omega
            have HEQ : RowKit.Hid (leastL c L (k + 1) = (le, true)) := Lib.hid (by rw [least_no (fun q => by have q2 := q.2; rw [hq, hep] at q2; rcases q2 with q2 | q2; cases q2; simp only at q2; omega)]; exact hq)
            clear hq hac hep hlt2
            go_wp2_with (refine wpList_load_row rfl 24 _ rfl w.heap.size rfl _ (ccM c) (0, 0) _ (by exact C) Try.underlying24 rfl (by kernel_rfl) ?_)
            refine (HIN.out _ hw).mono ?_
            rintro e w2 ⟨rfl, hb2⟩
            have C2 := C.keep hb2
            have hw2 := hw.trans (hb2.mono hw.size)
            clear C hw hb2
            go_wp2
            go_roundw
            case rel => exact ⟨k + 1, by omega, by go_num, by rw [HEQ.out], by rw [HEQ.out], C2, hw2⟩
            case measure => simp [intOf]; omega
    · obtain rfl : k = 8 := by omega
      subst hle
      subst hfo
      go_wp2
      go_ret2
      exact ⟨rfl, hw⟩
end Go.Proofs.Ytgjkjobemnhbmaa.Me
