/- The example of layer 18; the law GuardPayload. -/
import Derived.Test.YtgjkjobemnhbmaaGuardSeen
import Derived.Test.YtgjkjobemnhbmaaGuardPay
namespace Go.Proofs.Ytgjkjobemnhbmaa.Wo
open Go Go.RowKit Go.Proofs.Ytgjkjobemnhbmaa.Gro Go.Proofs.Ytgjkjobemnhbmaa.Own Go.Proofs.Ytgjkjobemnhbmaa.Wd Go.Proofs.Ytgjkjobemnhbmaa.Ap Go.Proofs.Ytgjkjobemnhbmaa.Pl
set_option linter.unusedVariables false
set_option linter.unusedSimpArgs false
abbrev g1 : Wk := { wz with p := { pz with ln := 61, c := 3 } }
abbrev g2 : Wk := { wz with p := { pz with pn := true, br := 3 } }
theorem build_g1 (w : World) : (Instr.build 63 #[(0, .int .i64 61), (10, .int .i64 3)]).run Try.prog w = .ok (wv g1) w := run_build w _ _ _ (by kernel_rfl)
theorem build_g2 (w : World) : (Instr.build 63 #[(2, .bool true), (11, .int .i64 3)]).run Try.prog w = .ok (wv g2) w := run_build w _ _ _ (by kernel_rfl)
theorem sort22 : sortL [2, 2] = [2] := by
  unfold sortL
  rw [List.mergeSort_of_pairwise (by simp)]
  decide
theorem reads_gs (w : World) (cs : Array Value) (h : cs = wc g1 ++ wc g2) : WReads (w.alloc (.cells cs 63)) (.slice (some ⟨w.heap.size, 0, none⟩) 2 2) [g1, g2] := by
  subst h
  refine ⟨some ⟨w.heap.size, 0, none⟩, 2, rfl, Nat.le_refl _, by unfold maxLen; omega, .inr ⟨w.heap.size, 0, rfl, by simp, fun i hi j v hv => ?_⟩⟩
  rw [(Bk.new w (wc g1 ++ wc g2) 63).cells]
  have hj : j < 33 := by
    have := (List.getElem?_eq_some_iff.1 hv).1
    simpa [wc_size] using this
  have hi' : i < 2 := hi
  rcases (by omega : i = 0 ∨ i = 1) with rfl | rfl
  · rw [Array.getElem?_append_left (by rw [wc_size]; omega)]
    simpa using hv
  · rw [Array.getElem?_append_right (by rw [wc_size]; omega), wc_size]
    have e : 0 + 1 * 33 + j - 33 = j := by omega
    rw [e]
    simpa using hv
theorem below_lit2 {w w1 : World} {o : Obj} (h : Below (w.alloc o).heap.size (w.alloc o) w1) : Below w.heap.size w w1 := ((Below.refl _ _).alloc (Nat.le_refl _) _).trans (h.mono (by simp))
set_option maxRecDepth 10000 in
set_option maxHeartbeats 2000000 in
theorem awake18 (w : World) : Calls Try.prog 58 #[] w fun e w' => e = .returned (.bool true) ∧ Below w.heap.size w w' := by
  have b1 := build_g1
  have b2 := build_g2
  go_enter Try.func58, Try.ntmps58
  go_wp2_with fail
  refine (seen (v := ⟨some ⟨w.heap.size, 0, none⟩, 2, 2⟩) (reads_gs w _ ?hcs) (by simp) (by decide)).mono ?_
  case hcs => kernel_rfl
  rintro e w1 ⟨z, rfl, h1, hb1⟩
  have hbw1 := below_lit2 hb1
  have hs : sortL (sawL [g1, g2]) = [2] := sort22
  rw [hs] at h1
  clear hb1 b1 b2 hs
  have hq := (Bk.new w1 #[.int .u64 7, .int .u64 8, .int .u64 9] 22).cells
  have hb2 : Below w1.heap.size w1 (w1.alloc (.cells #[.int .u64 7, .int .u64 8, .int .u64 9] 22)) := (Below.refl _ _).alloc (Nat.le_refl _) _
  go_wp2_with fail
  refine (payP_loop w1.heap.size 0 3 [7, 8, 9] 7 rfl _ (by simp) (fun i hi => by rw [Nat.zero_add, hq]; have hi' : i < 3 := hi; rcases (by omega : i = 0 ∨ i = 1 ∨ i = 2) with rfl | rfl | rfl <;> rfl) (b := true) ?hb (x := 7) rfl).mono ?_
  case hb =>
    refine ⟨fun _ i hi => ?_, fun _ => rfl⟩
    have hi' : i < 3 := hi
    rcases (by omega : i = 0 ∨ i = 1 ∨ i = 2) with rfl | rfl | rfl
    · exact (by decide : (7 : Int) = IntKind.u64.wrap (7 + ((0 : Nat) : Int)))
    · exact (by decide : (8 : Int) = IntKind.u64.wrap (7 + ((1 : Nat) : Int)))
    · exact (by decide : (9 : Int) = IntKind.u64.wrap (7 + ((2 : Nat) : Int)))
  rintro e w2 ⟨rfl, hb3⟩
  have hbw2 := (hbw1.trans (hb2.mono hbw1.size)).trans (hb3.mono (by simp; have := hbw1.size; omega))
  have h2 := h1.keep (hb2.trans (hb3.mono (by simp)))
  clear h1 hb2 hb3 hq hbw1
  obtain ⟨ad, cap, e, q1, q2, q3⟩ := h2
  rcases q3 with h | ⟨b, off, rfl, _, hc⟩
  · simp at h
  obtain ⟨ad, ln, cp⟩ := z
  simp only [Sl.v, Value.slice.injEq] at e
  obtain ⟨rfl, rfl, rfl⟩ := e
  have hc0 := hc 0 (by simp)
  simp only [List.length_cons, List.length_nil, List.getElem_cons_zero, Nat.add_zero] at hc0
  clear hc
  simp only [Sl.v]
  go_wp2
  go_ret
  exact ⟨rfl, hbw2⟩
set_option maxHeartbeats 1000000 in
theorem guardPayload_long (n : Int) (ad : Option Addr) (len cap : Nat) (hl : 10 < len) (hm : len ≤ 9223372036854775807) (w : World) : Calls Try.prog 10 #[.int .i64 n, .slice ad len cap] w fun e w' => e = .returned (.bool true) ∧ Below w.heap.size w w' := by
  go_enter Try.func10, Try.ntmps10
  go_wp2_with fail
  refine (awake18 _).mono ?_
  rintro e w1 ⟨rfl, hb1⟩
  go_wp2
  go_ret
  exact ⟨rfl, hb1⟩
set_option maxHeartbeats 1000000 in
theorem guardPayload {v : Sl} {l : List Int} (n : Int) (w : World) (h : Reads w .u64 v.v l) (hf : ∀ x ∈ l, 0 ≤ x ∧ x < 18446744073709551616) : Calls Try.prog 10 #[.int .i64 n, v.v] w fun e w' => e = .returned (.bool true) ∧ Below w.heap.size w w' := by
  have hle := reads_le h
  have hln := reads_len h
  by_cases hm : l.length ≤ 10
  · obtain ⟨x, b, H1, H2⟩ := payBoth h hf hm n
    have h1 := Lib.hid H1
    have h2 := Lib.hid H2
    clear H1 H2
    obtain ⟨ad, len, cap⟩ := v
    simp only at hln
    subst hln
    clear h hle hf
    go_enter Try.func10, Try.ntmps10
    go_wp2_with fail
    refine (awake18 _).mono ?_
    rintro e w1 ⟨rfl, hb1⟩
    go_wp2_with fail
    refine (h1.out w1 hb1).mono ?_
    rintro e w2 ⟨rfl, hb2⟩
    have hb12 := hb1.trans (hb2.mono hb1.size)
    go_wp2_with fail
    refine (h2.out w2 hb12).mono ?_
    rintro e w3 ⟨rfl, hb3⟩
    have hb13 := hb12.trans (hb3.mono hb12.size)
    cases b
    · go_wp2
      go_ret
      exact ⟨rfl, hb13⟩
    · go_wp2
      go_ret
      exact ⟨rfl, hb13⟩
  · obtain ⟨ad, len, cap⟩ := v
    simp only at hln hle
    exact guardPayload_long n ad len cap (by omega) (by have := hle; unfold maxLen at this; omega) w
end Go.Proofs.Ytgjkjobemnhbmaa.Wo
