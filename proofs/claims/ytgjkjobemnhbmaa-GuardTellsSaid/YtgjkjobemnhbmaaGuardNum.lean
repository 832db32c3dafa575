/- Sorted rows without repetition: their elements, and a cut that moves on. slices.BinarySearch; guard.Clean. -/
import Derived.Test.YtgjkjobemnhbmaaGuardSees
namespace Go.Proofs.Ytgjkjobemnhbmaa.Wo
open Go Go.RowKit Go.Proofs.Ytgjkjobemnhbmaa.Gro Go.Proofs.Ytgjkjobemnhbmaa.Own Go.Proofs.Ytgjkjobemnhbmaa.Wd Go.Proofs.Ytgjkjobemnhbmaa.Ap Go.Proofs.Ytgjkjobemnhbmaa.Pl Go.Proofs.Ytgjkjobemnhbmaa.Shp
set_option linter.unusedVariables false
set_option linter.unusedSimpArgs false
theorem compactUpTo_spec {d : Array Int} {n : Nat} (hs : ∀ i j, i ≤ j → j < n → d[i]! ≤ d[j]!) : ∀ m, m ≤ n → (∀ x, x ∈ Lib.compactUpTo d m ↔ ∃ j, j < m ∧ d[j]! = x) ∧ (Lib.compactUpTo d m).Pairwise (· < ·) := by
  intro m
  induction m with
  | zero => exact fun _ => ⟨fun x => ⟨fun h => by simp [Lib.compactUpTo] at h, fun ⟨j, hj, _⟩ => by omega⟩, by simp [Lib.compactUpTo]⟩
  | succ m ih =>
    intro hm
    obtain ⟨h1, h2⟩ := ih (by omega)
    rw [Lib.compactUpTo_succ]
    by_cases hk : Lib.keeps d m = true
    · rw [if_pos hk]
      refine ⟨fun x => ?_, ?_⟩
      · rw [List.mem_append, List.mem_singleton, h1]
        constructor
        · rintro (⟨j, hj, e⟩ | e)
          · exact ⟨j, by omega, e⟩
          · exact ⟨m, by omega, e.symm⟩
        · rintro ⟨j, hj, e⟩
          rcases Nat.lt_succ_iff_lt_or_eq.1 hj with hj | rfl
          · exact .inl ⟨j, hj, e⟩
          · exact .inr e.symm
      · rw [List.pairwise_append]
        refine ⟨h2, by simp, fun x hx y hy => ?_⟩
        rw [List.mem_singleton] at hy
        subst hy
        obtain ⟨j, hj, rfl⟩ := (h1 x).1 hx
        have hne : d[m]! ≠ d[m - 1]! := by
          have := of_decide_eq_true hk
          rcases this with h | h
          · omega
          · exact h
        have q1 := hs j (m - 1) (by omega) (by omega)
        have q2 := hs (m - 1) m (by omega) (by omega)
        omega
    · rw [if_neg hk, List.append_nil]
      refine ⟨fun x => ?_, h2⟩
      rw [h1]
      have hnk : ¬ (m = 0 ∨ d[m]! ≠ d[m - 1]!) := fun h => hk (decide_eq_true h)
      constructor
      · rintro ⟨j, hj, e⟩
        exact ⟨j, by omega, e⟩
      · rintro ⟨j, hj, e⟩
        rcases Nat.lt_succ_iff_lt_or_eq.1 hj with hj | rfl
        · exact ⟨j, hj, e⟩
        · have h0 : j ≠ 0 := fun h => hnk (.inl h)
          have he : d[j]! = d[j - 1]! := Decidable.byContradiction fun h => hnk (.inr h)
          exact ⟨j - 1, by omega, he ▸ e⟩
theorem sorted_get {l : List Int} (h : l.Pairwise (· ≤ ·)) : ∀ i j, i ≤ j → j < l.length → l.toArray[i]! ≤ l.toArray[j]! := fun i j hij hj => by
  rw [getElem!_pos l.toArray i (by simp; omega), getElem!_pos l.toArray j (by simpa using hj)]
  simp only [List.getElem_toArray]
  rcases Nat.lt_or_eq_of_le hij with hlt | rfl
  · exact List.pairwise_iff_getElem.1 h i j (by omega) hj hlt
  · exact Int.le_refl _
theorem merge_sorted (L : List Int) : (L.mergeSort fun x y => decide (x ≤ y)).Pairwise (· ≤ ·) := by
  have h := List.pairwise_mergeSort (le := fun x y : Int => decide (x ≤ y)) (fun a b c h1 h2 => by simp only [decide_eq_true_eq] at *; omega) (fun a b => by simp only [Bool.or_eq_true, decide_eq_true_eq]; omega) L
  exact h.imp (fun h => by simpa using h)
theorem sortL_mem {L : List Int} {x : Int} : x ∈ sortL L ↔ x ∈ L := by
  unfold sortL Lib.compact
  rw [(compactUpTo_spec (sorted_get (merge_sorted L)) _ (Nat.le_refl _)).1, ← (List.mergeSort_perm L fun x y => decide (x ≤ y)).mem_iff]
  constructor
  · rintro ⟨j, hj, rfl⟩
    rw [getElem!_pos _ j (by simpa using hj)]
    simp only [List.getElem_toArray]
    exact List.getElem_mem _
  · intro h
    obtain ⟨j, hj, rfl⟩ := List.getElem_of_mem h
    refine ⟨j, hj, ?_⟩
    rw [getElem!_pos _ j (by simpa using hj)]
    simp
theorem sortL_lt (L : List Int) : (sortL L).Pairwise (· < ·) := (compactUpTo_spec (sorted_get (merge_sorted L)) _ (Nat.le_refl _)).2
def Cut (S : List Int) (b : Int) (k : Nat) : Prop := k ≤ S.length ∧ (∀ j (h : j < S.length), j < k → S[j] < b) ∧ ∀ j (h : j < S.length), k ≤ j → b ≤ S[j]
theorem cut_start {S : List Int} (h : ∀ x ∈ S, 0 ≤ x) : Cut S 0 0 := ⟨Nat.zero_le _, fun j _ h => by omega, fun j hj _ => h _ (List.getElem_mem hj)⟩
theorem cut_in {S : List Int} (hs : S.Pairwise (· < ·)) {b : Int} {k : Nat} (h : Cut S b k) (hb : b ∈ S) : (∃ h : k < S.length, S[k] = b) ∧ Cut S (b + 1) (k + 1) := by
  obtain ⟨h1, h2, h3⟩ := h
  obtain ⟨j, hj, e⟩ := List.getElem_of_mem hb
  have hlt := List.pairwise_iff_getElem.1 hs
  have hkj : k ≤ j := by
    rcases Nat.lt_or_ge j k with h | h
    · have := h2 j hj h; omega
    · exact h
  have hk : k < S.length := by omega
  have hkb : S[k] = b := by
    have q := h3 k hk (Nat.le_refl _)
    rcases Nat.lt_or_eq_of_le hkj with h | rfl
    · have := hlt k j hk hj h; omega
    · exact e
  refine ⟨⟨hk, hkb⟩, by omega, fun i hi h => ?_, fun i hi h => ?_⟩
  · rcases Nat.lt_succ_iff_lt_or_eq.1 h with h | rfl
    · have := h2 i hi h; omega
    · omega
  · have := hlt k i hk hi (by omega); omega
theorem cut_out {S : List Int} {b : Int} {k : Nat} (h : Cut S b k) (hb : ¬ b ∈ S) : Cut S (b + 1) k := by
  obtain ⟨h1, h2, h3⟩ := h
  refine ⟨h1, fun i hi h => by have := h2 i hi h; omega, fun i hi h => ?_⟩
  have q := h3 i hi h
  have : S[i] ≠ b := fun e => hb (e ▸ List.getElem_mem hi)
  omega
theorem cut_end {S : List Int} {b : Int} {k : Nat} (h : Cut S b k) (hs : ∀ x ∈ S, x < b) : k = S.length := by
  obtain ⟨h1, h2, h3⟩ := h
  rcases Nat.lt_or_eq_of_le h1 with hk | hk
  · have := h3 k hk (Nat.le_refl _)
    have := hs _ (List.getElem_mem hk)
    omega
  · exact hk
theorem searchC {w : World} {z : Sl} {S : List Int} (h : Reads w .i64 z.v S) (hs : S.Pairwise (· < ·)) (hm : S.length ≤ 1000) (x : Int) : Calls Try.prog 103 #[z.v, .int .i64 x] w fun e w' => ∃ i, e = .returned (.tuple #[.int .i64 i, .bool (decide (x ∈ S))]) ∧ Below w.heap.size w w' := by
  obtain ⟨ad, cap, e, _, _, h3⟩ := h
  rw [e]
  rcases h3 with rfl | ⟨b, off, rfl, hb, hc⟩
  · refine (Try.slices_BinarySearch_int_empty ad cap x w).mono ?_
    rintro e w' ⟨rfl, rfl⟩
    exact ⟨0, by simp, Below.refl _ _⟩
  · refine (Try.slices_BinarySearch_int b off S.length cap S x w (Nat.le_refl _) (by omega) (fun j hj => ?_) ?_).mono ?_
    · rw [hc j hj, List.getD_eq_getElem?_getD, List.getElem?_eq_getElem hj]
      rfl
    · rw [List.take_length]
      exact hs.imp (fun h => Int.le_of_lt h)
    · rintro e w' ⟨rfl, q, rfl⟩
      refine ⟨(((S.take S.length).countP (· < x) : Nat) : Int), ?_, gro_drewN (Below.refl _ _)⟩
      have e1 : (S.take S.length).contains x = decide (x ∈ S) := by
        rw [List.take_length]
        simp
      rw [e1]
end Go.Proofs.Ytgjkjobemnhbmaa.Wo
