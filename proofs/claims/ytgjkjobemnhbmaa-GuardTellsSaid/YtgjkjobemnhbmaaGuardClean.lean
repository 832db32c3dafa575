/- guard.Clean (made by genguard3.py). -/
import Derived.Test.YtgjkjobemnhbmaaGuardNum
import Derived.Test.YtgjkjobemnhbmaaHeldRow
import Derived.Test.YtgjkjobemnhbmaaGuardPayloadWalk
namespace Go.Proofs.Ytgjkjobemnhbmaa.Wo
open Go Go.RowKit Go.Proofs.Ytgjkjobemnhbmaa.Gro Go.Proofs.Ytgjkjobemnhbmaa.Own Go.Proofs.Ytgjkjobemnhbmaa.Wd Go.Proofs.Ytgjkjobemnhbmaa.Ap Go.Proofs.Ytgjkjobemnhbmaa.Pl Go.Proofs.Ytgjkjobemnhbmaa.Shp
set_option linter.unusedVariables false
set_option linter.unusedSimpArgs false
theorem saw_range {xs : List Wk} (hv : ∀ s ∈ xs, s.p.c ≤ 60 ∧ s.p.br ≤ 60) : ∀ x ∈ sawL xs, 0 ≤ x ∧ x < 60 := fun x hx => by
  obtain ⟨i, hi, hm⟩ := mem_sawL.1 hx
  have q := hv _ (List.getElem_mem hi)
  unfold sawOf at hm
  rcases List.mem_append.1 hm with hm | hm
  · split at hm
    · rw [List.mem_singleton] at hm; omega
    · simp at hm
  · split at hm
    · rw [List.mem_singleton] at hm; omega
    · simp at hm
theorem sortL_len (L : List Int) : (sortL L).length ≤ L.length := by
  unfold sortL Lib.compact Lib.compactUpTo
  rw [List.length_map]
  exact Nat.le_trans (List.length_filter_le _ _) (by simp)
def ClPost (q : Bool) (w : World) (e : Ending) (w' : World) : Prop := e = .returned (.bool q) ∧ Below w.heap.size w w'
set_option maxRecDepth 10000 in
set_option maxHeartbeats 2000000 in
theorem clean_neg (c : Cfg) (hf : c.Wf) (y : Sl) (v : Ev) {r : Int} (hr : EvW c v r) (hn : r < 0) (w : World) : Calls Try.prog 63 #[cv c, y.v, .agg (ec v)] w (ClPost true w) := by
  have C0 := (Bk.new w (ccG c) 24).alloc (.cells (ec v) 94)
  have E0 := Bk.new (w.alloc (.cells (ccG c) 24)) (ec v) 94
  have hw0 : Below w.heap.size w ((w.alloc (.cells (ccG c) 24)).alloc (.cells (ec v) 94)) := ((Below.refl _ _).alloc (Nat.le_refl _) _).alloc (by simp) _
  rw [show (w.alloc (.cells (ccG c) 24)).heap.size = w.heap.size + 1 by simp] at E0
  go_enter Try.func63, Try.ntmps63
  go_wp2_with (first | (refine wpList_load_row rfl 24 _ rfl (w.heap.size) rfl _ (ccG c) (0, 0) _ (by exact C0) Try.underlying24 rfl (by kernel_rfl) ?_) | (refine wpList_load_row rfl 94 _ rfl (w.heap.size + 1) rfl _ (ec v) (0, 0) _ (by exact E0) Try.underlying94 rfl (by kernel_rfl) ?_))
  refine (written c hf v _).mono ?_
  rintro e w1 ⟨r1, rfl, hr1, hb1⟩
  have hne : decide (0 ≤ r1) = false := by
    have := hr1.same hr
    simp; omega
  go_wp2
  go_ret
  exact ⟨rfl, hw0.trans (hb1.mono hw0.size)⟩
set_option maxRecDepth 10000 in
set_option maxHeartbeats 2000000 in
theorem clean_pos (c : Cfg) (hf : c.Wf) (y : Sl) (xs : List Wk) (hl : xs.length ≤ 400) (hv : ∀ s ∈ xs, s.p.c ≤ 60 ∧ s.p.br ≤ 60) (v : Ev) {r : Int} (hr : EvW c v r) (hn : 0 ≤ r) (w : World) (h : WReads w y.v xs) {q : Bool} (hq : decide (r ∈ sawL xs) = q) : Calls Try.prog 63 #[cv c, y.v, .agg (ec v)] w (ClPost (!q) w) := by
  have C0 := (Bk.new w (ccG c) 24).alloc (.cells (ec v) 94)
  have E0 := Bk.new (w.alloc (.cells (ccG c) 24)) (ec v) 94
  have hw0 : Below w.heap.size w ((w.alloc (.cells (ccG c) 24)).alloc (.cells (ec v) 94)) := ((Below.refl _ _).alloc (Nat.le_refl _) _).alloc (by simp) _
  rw [show (w.alloc (.cells (ccG c) 24)).heap.size = w.heap.size + 1 by simp] at E0
  have hsm : (sortL (sawL xs)).length ≤ 1000 := by
    have := sortL_len (sawL xs)
    have := sawL_len xs
    omega
  have hq2 : decide (r ∈ sortL (sawL xs)) = q := by rw [← hq]; exact decide_eq_decide.2 sortL_mem
  have HQ := Lib.hid hq2
  have HH := Lib.hid h
  clear hq hq2 h
  go_enter Try.func63, Try.ntmps63
  go_wp2_with (first | (refine wpList_load_row rfl 24 _ rfl (w.heap.size) rfl _ (ccG c) (0, 0) _ (by exact C0) Try.underlying24 rfl (by kernel_rfl) ?_) | (refine wpList_load_row rfl 94 _ rfl (w.heap.size + 1) rfl _ (ec v) (0, 0) _ (by exact E0) Try.underlying94 rfl (by kernel_rfl) ?_))
  refine (written c hf v _).mono ?_
  rintro e w1 ⟨r1, rfl, hr1, hb1⟩
  obtain rfl : r = r1 := (hr1.same hr).symm
  have hne : decide (0 ≤ r) = true := by simp; omega
  have hw1 := hw0.trans (hb1.mono hw0.size)
  go_wp2_with fail
  refine (seen (HH.out.keep hw1) hl hv).mono ?_
  rintro e w2 ⟨z, rfl, hz, hb2⟩
  have hw2 := hw1.trans (hb2.mono hw1.size)
  go_wp2_with fail
  refine (searchC hz (sortL_lt _) hsm r).mono ?_
  rintro e w3 ⟨i, rfl, hb3⟩
  have hw3 := hw2.trans (hb3.mono hw2.size)
  have hd := HQ.out
  clear hb1 hb2 hb3 hw0 hw1 hw2 hz
  go_wp2
  go_ret
  exact ⟨rfl, hw3⟩
end Go.Proofs.Ytgjkjobemnhbmaa.Wo
