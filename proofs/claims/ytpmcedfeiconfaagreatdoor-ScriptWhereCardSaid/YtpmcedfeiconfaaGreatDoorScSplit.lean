/- Layer 21, of no program: what strings.SplitN gives, and when it is all the words. -/
import Derived.Test.YtpmcedfeiconfaaGreatDoorScrs
import Derived.Lib.Split
namespace Go.Proofs.YtpmcedfeiconfaaGreatDoor.Scr
open Go Go.Lib Go.Proofs.YtpmcedfeiconfaaGreatDoor.Opn
set_option linter.unusedVariables false
set_option linter.unusedSimpArgs false
theorem splitK_cut (k : Nat) (s : List UInt8) : splitK [32] 0 (k + 1) s = if (cut s [32]).2.2 = false then [s] else (cut s [32]).1 :: splitK [32] 0 k (cut s [32]).2.1 := by
  rw [splitK]
  unfold Lib.cut
  by_cases h : index s [32] = -1
  · simp [h]
  · have h2 := index_ge s [32]
    have h3 : 0 ≤ index s [32] := by omega
    simp [h, h3]
theorem cut_rest {s : List UInt8} (h : (cut s [32]).2.2 = true) : (cut s [32]).2.1.length < s.length := by
  have := congrArg List.length (cut_parts s 32 h).1
  simp at this
  omega
theorem splitK_pos (k : Nat) (s : List UInt8) : 0 < (splitK [32] 0 k s).length := by
  cases k with
  | zero => simp [splitK]
  | succ k =>
    rw [splitK_cut]
    split <;> simp
theorem splitN_K : ∀ (n k : Nat) (s : List UInt8), n ≤ k ∨ s.length ≤ k → splitN n s = if (splitK [32] 0 k s).length ≤ n then some (splitK [32] 0 k s) else none
  | 0, k, s, h => by
    have := splitK_pos k s
    rw [if_neg (by omega)]
    rfl
  | n + 1, 0, s, h => by
    have : s = [] := List.length_eq_zero_iff.1 (by omega)
    subst this
    rw [splitN, cut_none (by simp)]
    simp [splitK]
  | n + 1, k + 1, s, h => by
    rw [splitN, splitK_cut]
    cases hc : (cut s [32]).2.2 with
    | false =>
      simp only [Bool.false_eq_true, if_false, if_true]
      rw [if_pos (by simp)]
      have hm : (32 : UInt8) ∉ s := fun hm => by
        obtain ⟨a, r, rfl, ha⟩ := List.eq_append_cons_of_mem hm
        rw [cut_hit ha] at hc
        cases hc
      rw [cut_none hm]
    | true =>
      have hl := cut_rest hc
      have ih := splitN_K n k (cut s [32]).2.1 (by omega)
      simp only [if_true, Bool.true_eq_false, if_false, List.length_cons, Nat.add_le_add_iff_right]
      rw [ih]
      by_cases h : (splitK [32] 0 k (cut s [32]).2.1).length ≤ n
      · rw [if_pos h, if_pos h]; rfl
      · rw [if_neg h, if_neg h]; rfl
/-- The words that numbers are read from, of a text and a most. -/
def wordsK (n : Nat) (l : List UInt8) : List (List UInt8) := splitK [32] 0 (min (n + 1) (l.length + 1) - 1) l
theorem rdNums_K (n : Nat) (l : List UInt8) : rdNums n l = if (wordsK n l).length ≤ n then rdAll (wordsK n l) else none := by
  unfold rdNums wordsK
  rw [splitN_K n (min (n + 1) (l.length + 1) - 1) l (by omega)]
  split <;> rfl
theorem splitB_K (n : Nat) (l : List UInt8) : splitB ⟨#[32]⟩ 0 (min (n + 1) ((⟨l.toArray⟩ : ByteArray).size + 1) - 1) ⟨l.toArray⟩ = (wordsK n l).map fun x => ⟨x.toArray⟩ := by
  have hs : (⟨l.toArray⟩ : ByteArray).size = l.length := rfl
  have h := splitB_data ⟨#[32]⟩ 0 (min (n + 1) (l.length + 1) - 1) ⟨l.toArray⟩
  have e : wordsK n l = (splitB ⟨#[32]⟩ 0 (min (n + 1) (l.length + 1) - 1) ⟨l.toArray⟩).map (·.data.toList) := h.symm
  rw [e, hs, List.map_map]
  have : ((fun x : List UInt8 => (⟨x.toArray⟩ : ByteArray)) ∘ fun x : ByteArray => x.data.toList) = id := by
    funext x
    cases x
    rfl
  rw [this, List.map_id]
theorem rdAll_app : ∀ (a b : List (List UInt8)), rdAll (a ++ b) = (rdAll a).bind fun x => (rdAll b).map (x ++ ·)
  | [], b => by simp [rdAll]
  | w :: a, b => by
    rw [List.cons_append, rdAll, rdAll, rdAll_app a b]
    cases rdW w with
    | none => rfl
    | some v => cases rdAll a <;> cases rdAll b <;> rfl
theorem rdAll_bad {ws : List (List UInt8)} {w : List UInt8} (hm : w ∈ ws) (h : rdW w = none) : rdAll ws = none := by
  obtain ⟨a, b, rfl⟩ := List.append_of_mem hm
  rw [rdAll_app, rdAll, h]
  cases rdAll a <;> rfl
theorem words_le (n : Nat) (l : List UInt8) : ∀ x ∈ wordsK n l, x.length ≤ l.length := by
  unfold wordsK
  generalize min (n + 1) (l.length + 1) - 1 = k
  induction k generalizing l with
  | zero => intro x hx; simp [splitK] at hx; rw [hx]; exact Nat.le_refl _
  | succ k ih =>
    intro x hx
    rw [splitK_cut] at hx
    split at hx
    · rw [List.mem_singleton.1 hx]; exact Nat.le_refl _
    · rename_i hc
      have hc' : (cut l [32]).2.2 = true := by simpa using hc
      have hl := congrArg List.length (cut_parts l 32 hc').1
      simp at hl
      rcases List.mem_cons.1 hx with rfl | hx
      · omega
      · have := ih _ x hx
        omega
end Go.Proofs.YtpmcedfeiconfaaGreatDoor.Scr
