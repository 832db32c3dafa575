/- slices.Sort, slices.Compact and slices.BinarySearch of an own row of ints, in the form of the walks here. -/
import Derived.Test.YtgjkjobemnhbmaaGuardSee0
import Derived.Test.YtgjkjobemnhbmaaShelf
namespace Go.Proofs.Ytgjkjobemnhbmaa.Wo
open Go Go.RowKit Go.Proofs.Ytgjkjobemnhbmaa.Gro Go.Proofs.Ytgjkjobemnhbmaa.Own Go.Proofs.Ytgjkjobemnhbmaa.Wd Go.Proofs.Ytgjkjobemnhbmaa.Ap Go.Proofs.Ytgjkjobemnhbmaa.Pl Go.Sort
set_option linter.unusedVariables false
set_option linter.unusedSimpArgs false
theorem below_putRow {B : Nat} {w : World} {enc : Int → Value} (n g off : Nat) (d : Array Int) (os : Array Obj) (hg : B ≤ g) (hB : B ≤ w.heap.size) : Below B w (Go.Sort.grow (putRow enc (Go.Sort.ahead w n) g off d) os) := by
  refine ⟨rfl, rfl, rfl, by simp, fun k hk => ?_⟩
  have h1 : k < (putRow enc (Go.Sort.ahead w n) g off d).heap.size := by simp; omega
  show ((putRow enc (Go.Sort.ahead w n) g off d).heap ++ os)[k]? = _
  rw [Array.getElem?_append_left h1]
  unfold putRow mapBlock
  simp only [heap_ahead, Array.getElem?_modify]
  rw [if_neg (by omega)]
theorem below_putRow0 {B : Nat} {w : World} {enc : Int → Value} (n g off : Nat) (d : Array Int) (hg : B ≤ g) (hB : B ≤ w.heap.size) : Below B w (putRow enc (Go.Sort.ahead w n) g off d) := by
  have := below_putRow (w := w) (enc := enc) n g off d #[] hg hB
  rwa [grow_empty] at this
/-- A row of ints of the call's own that may be written. -/
def Lays (B : Nat) (w : World) (y : Sl) (L : List Int) : Prop := (L = [] ∧ y.len = 0 ∧ y.cap ≤ maxLen) ∨ ∃ g cap, y = ⟨some ⟨g, 0, none⟩, L.length, cap⟩ ∧ B ≤ g ∧ g < w.heap.size ∧ L.length ≤ cap ∧ cap ≤ maxLen ∧ Holds (Value.int .i64) w g 0 L.toArray
theorem Lays.reads {B : Nat} {w : World} {y : Sl} {L : List Int} (h : Lays B w y L) : Reads w .i64 y.v L := by
  obtain ⟨ad, ln, cp⟩ := y
  rcases h with ⟨rfl, h1, h2⟩ | ⟨g, cap, h0, h1, h2, h3, h4, h5⟩
  · simp only at h1
    subst h1
    exact ⟨ad, cp, rfl, Nat.zero_le _, h2, .inl rfl⟩
  · simp only [Sl.mk.injEq] at h0
    obtain ⟨rfl, rfl, rfl⟩ := h0
    refine ⟨_, _, rfl, h3, h4, .inr ⟨g, 0, rfl, h2, fun i hi => ?_⟩⟩
    rw [(h5 i (by simpa using hi)).1, getElem!_pos _ _ (by simpa using hi)]
    simp
theorem Owned.lays {B : Nat} {w : World} {t : TypeId} {y : Sl} {L : List Int} (h : Owned B w .i64 t y L) : Lays B w y L := by
  obtain ⟨ad, ln, cp⟩ := y
  rcases h.2 with ⟨h0, h1⟩ | ⟨g, cap, cur, h0, hge, hh, h1, h2, h3, h4⟩
  · simp only [Sl.v, Value.slice.injEq] at h0
    obtain ⟨rfl, rfl, rfl⟩ := h0
    exact .inl ⟨List.eq_nil_of_length_eq_zero h1, rfl, Nat.zero_le _⟩
  · simp only [Sl.v, Value.slice.injEq] at h0
    obtain ⟨rfl, rfl, rfl⟩ := h0
    refine .inr ⟨g, _, rfl, hge, (Array.getElem?_eq_some_iff.1 hh).1, h1, h2, fun j hj => ⟨?_, frozen_of_row w g _ cur t hh⟩⟩
    have hj' : j < L.length := by simpa using hj
    rw [Nat.zero_add, cell_of_row w g j cur t (0, 0) hh, getElem!_pos L.toArray j hj]
    have := congrArg (fun l => l[j]?) h4
    simp only [List.getElem?_take, List.getElem?_map] at this
    rw [if_pos (by omega), List.getElem?_eq_getElem hj'] at this
    simpa using this
theorem sortC {B : Nat} {w : World} {y : Sl} {L : List Int} (h : Lays B w y L) (hB : B ≤ w.heap.size) (hm : L.length ≤ 1000) :
    Calls Try.prog 99 #[y.v] w fun e w' => e = .returned (.tuple #[]) ∧ Lays B w' y (L.mergeSort fun x y => decide (x ≤ y)) ∧ Below B w w' := by
  obtain ⟨ad, ln, cp⟩ := y
  rcases h with ⟨rfl, h1, h2⟩ | ⟨g, cap, h0, h1, h2, h3, h4, h5⟩
  · simp only at h1
    subst h1
    refine (Try.slices_Sort_int_none ad cp w).mono ?_
    rintro e w' ⟨rfl, rfl⟩
    exact ⟨rfl, .inl ⟨by simp, rfl, h2⟩, Below.refl _ _⟩
  · simp only [Sl.mk.injEq] at h0
    obtain ⟨rfl, rfl, rfl⟩ := h0
    refine (Try.slices_Sort_int g 0 _ L w h5 h2 (by omega)).mono ?_
    rintro e w' ⟨rfl, n, os, rfl⟩
    have hp := holds_putRow (Value.int .i64) (Go.Sort.ahead w n) g 0 L.toArray (L.mergeSort fun x y => decide (x ≤ y)).toArray (holds_ahead _ _ _ _ _ _ h5) (by simp)
    have hz := size_putRow (Value.int .i64) (Go.Sort.ahead w n) g 0 (L.mergeSort fun x y => decide (x ≤ y)).toArray
    have hlt : g < (putRow (Value.int .i64) (Go.Sort.ahead w n) g 0 (L.mergeSort fun x y => decide (x ≤ y)).toArray).heap.size := by rw [hz]; exact h2
    refine ⟨rfl, .inr ⟨g, cp, by simp, h1, by simp; omega, by simpa using h3, h4, ?_⟩, below_putRow n g 0 _ os h1 hB⟩
    intro j hj
    obtain ⟨q1, q2⟩ := hp j hj
    have e : ∀ a : Addr, a.block = g → (Go.Sort.grow (putRow (Value.int .i64) (Go.Sort.ahead w n) g 0 (L.mergeSort fun x y => decide (x ≤ y)).toArray) os).heap[a.block]? = (putRow (Value.int .i64) (Go.Sort.ahead w n) g 0 (L.mergeSort fun x y => decide (x ≤ y)).toArray).heap[a.block]? := fun a ha => by
      show (_ ++ os)[a.block]? = _
      rw [Array.getElem?_append_left (by rw [ha]; exact hlt)]
    exact ⟨(World.cell?_of_block (e _ rfl)).trans q1, (World.frozen?_of_block (e _ rfl)).trans q2⟩
theorem compactC {B : Nat} {w : World} {y : Sl} {L : List Int} (h : Lays B w y L) (hB : B ≤ w.heap.size) (hm : L.length ≤ 1000) :
    Calls Try.prog 100 #[y.v] w fun e w' => ∃ z : Sl, e = .returned z.v ∧ Reads w' .i64 z.v (Lib.compact L) ∧ Below B w w' := by
  obtain ⟨ad, ln, cp⟩ := y
  rcases h with ⟨rfl, h1, h2⟩ | ⟨g, cap, h0, h1, h2, h3, h4, h5⟩
  · simp only at h1
    subst h1
    refine (Try.slices_Compact_int_empty ad cp w).mono ?_
    rintro e w' ⟨rfl, rfl⟩
    exact ⟨⟨ad, 0, cp⟩, rfl, ⟨ad, cp, rfl, Nat.zero_le _, h2, .inl rfl⟩, Below.refl _ _⟩
  · simp only [Sl.mk.injEq] at h0
    obtain ⟨rfl, rfl, rfl⟩ := h0
    refine (Try.slices_Compact_int g 0 _ L w h5 (by omega) h3).mono ?_
    rintro e w' ⟨rfl, q, rfl⟩
    have hlen : (Lib.compact L).length ≤ L.length := by
      unfold Lib.compact Lib.compactUpTo
      rw [List.length_map]
      exact Nat.le_trans (List.length_filter_le _ _) (by simp)
    have hp := holds_putRow (Value.int .i64) (Go.Sort.ahead w q) g 0 L.toArray (Lib.compact L ++ List.replicate (L.length - (Lib.compact L).length) 0).toArray (holds_ahead _ _ _ _ _ _ h5) (by simp; omega)
    refine ⟨⟨some ⟨g, 0, none⟩, (Lib.compact L).length, cp⟩, rfl, ⟨some ⟨g, 0, none⟩, cp, rfl, Nat.le_trans hlen h3, h4, .inr ⟨g, 0, rfl, by simp; exact h2, fun i hi => ?_⟩⟩, below_putRow0 q g 0 _ h1 hB⟩
    have hj : i < (Lib.compact L ++ List.replicate (L.length - (Lib.compact L).length) 0).toArray.size := by simp; omega
    rw [(hp i hj).1]
    simp [List.getElem!_eq_getElem?_getD, List.getElem?_append_left, hi]
end Go.Proofs.Ytgjkjobemnhbmaa.Wo
