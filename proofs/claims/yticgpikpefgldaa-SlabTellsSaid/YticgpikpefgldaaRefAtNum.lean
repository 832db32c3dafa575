/- The place of a word in the list is the address that plan reckons; no Go in this text. -/
import Derived.Test.YticgpikpefgldaaRefAt
namespace Go.Proofs.Yticgpikpefgldaa.Pl
open Go
set_option linter.unusedVariables false

theorem idx_none {s : Spot} : ∀ {L : List Spot} {k : Nat}, s ∉ L → idx s L k = -1
  | [], _, _ => rfl
  | x :: r, k, h => by
    rw [idx, if_neg (fun e => h (by rw [e]; exact List.mem_cons_self)), idx_none (fun e => h (List.mem_cons_of_mem _ e))]
theorem idx_right {s : Spot} : ∀ {A B : List Spot} {k : Nat}, s ∉ A → idx s (A ++ B) k = idx s B (k + A.length)
  | [], _, k, _ => by simp
  | x :: r, B, k, h => by
    rw [List.cons_append, idx, if_neg (fun e => h (by rw [e]; exact List.mem_cons_self)), idx_right (fun e => h (List.mem_cons_of_mem _ e))]
    congr 1; simp; omega
theorem idx_left {s : Spot} : ∀ {A B : List Spot} {k : Nat}, s ∉ B → idx s (A ++ B) k = idx s A k
  | [], B, k, h => by rw [List.nil_append, idx_none h]; rfl
  | x :: r, B, k, h => by
    rw [List.cons_append, idx, idx]
    split
    · rfl
    · exact idx_left h
theorem idx_blocks {G : Nat → List Spot} {d : Nat} (hd : ∀ a, (G a).length = d) {s : Spot} {a0 : Nat} (hu : ∀ a, s ∈ G a → a = a0) (k : Nat) :
    ∀ n, idx s ((List.range n).flatMap G) k = if a0 < n then idx s (G a0) (k + d * a0) else -1
  | 0 => by simp [idx]
  | n + 1 => by
    rw [List.range_succ, List.flatMap_append, List.flatMap_singleton]
    have hl : ((List.range n).flatMap G).length = d * n := by
      rw [List.length_flatMap]
      simp only [hd]
      exact sum_const d n
    by_cases h : n = a0
    · subst h
      rw [idx_right, hl, if_pos (by omega)]
      intro hm
      obtain ⟨b, hb, hb2⟩ := List.mem_flatMap.1 hm
      have := hu b hb2
      have := List.mem_range.1 hb
      omega
    · rw [idx_left (fun hm => h (hu n hm)), idx_blocks hd hu k n]
      by_cases h2 : a0 < n
      · rw [if_pos h2, if_pos (by omega)]
      · rw [if_neg h2, if_neg (by omega)]

def M1 (n : Nat) : List Spot := (List.range n).flatMap fun (a : Nat) => [((1 : Int), (a : Int), (0 : Int))]
def M2 (n : Nat) : List Spot := (List.range n).flatMap fun (a : Nat) => [((2 : Int), (a : Int), (0 : Int))]
def M3 (n : Nat) : List Spot := (List.range n).flatMap fun (a : Nat) => [((3 : Int), (a : Int), (0 : Int)), (4, (a : Int), 0)]
def M4 (D n : Nat) : List Spot := (List.range n).flatMap fun (a : Nat) => (5, (a : Int), 0) :: wrd a D
theorem spots_eq (c : Cfg) : spots c = (((S0 ++ M1 c.ww.toNat) ++ M2 c.sl.toNat) ++ M3 c.en.toNat) ++ M4 c.wd.toNat (c.sl * c.bl).toNat := by
  simp only [spots, S4, S3, S2, S1, M1, M2, M3, M4]
  simp only [List.map_eq_flatMap]
theorem mem_S0 {s : Spot} (h : s ∈ S0) : s.1 = 0 := by
  simp [S0] at h; rcases h with rfl | rfl | rfl <;> rfl
theorem mem_M1 {s : Spot} {n : Nat} (h : s ∈ M1 n) : s.1 = 1 ∧ s.2.2 = 0 ∧ 0 ≤ s.2.1 := by
  obtain ⟨a, _, h⟩ := List.mem_flatMap.1 h; simp at h; subst h; simp
theorem mem_M2 {s : Spot} {n : Nat} (h : s ∈ M2 n) : s.1 = 2 ∧ s.2.2 = 0 ∧ 0 ≤ s.2.1 := by
  obtain ⟨a, _, h⟩ := List.mem_flatMap.1 h; simp at h; subst h; simp
theorem mem_M3 {s : Spot} {n : Nat} (h : s ∈ M3 n) : (s.1 = 3 ∨ s.1 = 4) ∧ s.2.2 = 0 ∧ 0 ≤ s.2.1 := by
  obtain ⟨a, _, h⟩ := List.mem_flatMap.1 h; simp at h; rcases h with rfl | rfl <;> simp
theorem mem_M4 {s : Spot} {D n : Nat} (h : s ∈ M4 D n) : (s.1 = 5 ∧ s.2.2 = 0 ∨ s.1 = 6 ∧ 0 ≤ s.2.2) ∧ 0 ≤ s.2.1 := by
  obtain ⟨a, _, h⟩ := List.mem_flatMap.1 h
  rcases List.mem_cons.1 h with rfl | h
  · simp
  · obtain ⟨b, _, rfl⟩ := List.mem_map.1 h; simp
theorem len_S0 : S0.length = 3 := rfl
theorem len_M1 (n : Nat) : (M1 n).length = n := by
  unfold M1; rw [List.length_flatMap]; simp only [List.length_singleton]; rw [sum_const]; omega
theorem len_M2 (n : Nat) : (M2 n).length = n := by
  unfold M2; rw [List.length_flatMap]; simp only [List.length_singleton]; rw [sum_const]; omega
theorem len_M3 (n : Nat) : (M3 n).length = 2 * n := by
  unfold M3; rw [List.length_flatMap]; simp only [List.length_cons, List.length_nil]; rw [sum_const]

section
variable {c : Cfg} (h : Ok c)
theorem okB_of_ok {c : Cfg} (h : Ok c) : okB c = true := okB_true (chk_ok.2 h)
theorem refAt_ok {c : Cfg} (h : Ok c) (s : Spot) : refAt c s = idx s (spots c) 0 := by rw [refAt, if_pos (chk_ok.2 h)]
theorem hasB_ok {c : Cfg} (h : Ok c) (i n : Int) : (hasB c i n = true) ↔ (0 ≤ i ∧ i < n) := by simp [hasB, okB_of_ok h]
theorem at1 {c : Cfg} (h : Ok c) (a : Int) : refAt c (1, a, 0) = aAnn c a := by
  have hw := h.ww
  rw [refAt_ok h, spots_eq, idx_left (fun m => by have := mem_M4 m; simp at this), idx_left (fun m => by have := mem_M3 m; simp at this), idx_left (fun m => by have := mem_M2 m; simp at this), idx_right (fun m => by have := mem_S0 m; simp at this), len_S0]
  unfold aAnn
  by_cases ha : 0 ≤ a
  · obtain ⟨n, rfl⟩ := Int.eq_ofNat_of_zero_le ha
    unfold M1
    rw [idx_blocks (d := 1) (a0 := n) (fun _ => rfl) (fun b hb => by simp at hb; omega)]
    by_cases hn : (n : Int) < c.ww
    · rw [if_pos (by omega), if_pos ((hasB_ok h _ _).2 ⟨ha, hn⟩), idx, if_pos rfl]; omega
    · rw [if_neg (by omega), if_neg (fun e => hn ((hasB_ok h _ _).1 e).2)]
  · rw [idx_none (fun m => ha (mem_M1 m).2.2), if_neg (fun e => ha ((hasB_ok h _ _).1 e).1)]
theorem at2 {c : Cfg} (h : Ok c) (a : Int) : refAt c (2, a, 0) = aSlab c a := by
  have hw := h.ww
  have hs := h.sl
  rw [refAt_ok h, spots_eq, idx_left (fun m => by have := mem_M4 m; simp at this), idx_left (fun m => by have := mem_M3 m; simp at this), idx_right (fun m => by
    rcases List.mem_append.1 m with m | m
    · have := mem_S0 m; simp at this
    · have := mem_M1 m; simp at this), List.length_append, len_S0, len_M1]
  unfold aSlab
  by_cases ha : 0 ≤ a
  · obtain ⟨n, rfl⟩ := Int.eq_ofNat_of_zero_le ha
    unfold M2
    rw [idx_blocks (d := 1) (a0 := n) (fun _ => rfl) (fun b hb => by simp at hb; omega)]
    by_cases hn : (n : Int) < c.sl
    · rw [if_pos (by omega), if_pos ((hasB_ok h _ _).2 ⟨ha, hn⟩), idx, if_pos rfl]; omega
    · rw [if_neg (by omega), if_neg (fun e => hn ((hasB_ok h _ _).1 e).2)]
  · rw [idx_none (fun m => ha (mem_M2 m).2.2), if_neg (fun e => ha ((hasB_ok h _ _).1 e).1)]
theorem not_low {s : Spot} {a b : Nat} (h : 2 < s.1) : s ∉ S0 ++ M1 a ++ M2 b := fun m => by
  rcases List.mem_append.1 m with m | m
  · rcases List.mem_append.1 m with m | m
    · have := mem_S0 m; omega
    · have := mem_M1 m; omega
  · have := mem_M2 m; omega
theorem at3 {c : Cfg} (h : Ok c) (a : Int) : refAt c (3, a, 0) = aEnt c a := by
  have hw := h.ww
  have hs := h.sl
  have he := h.en
  rw [refAt_ok h, spots_eq, idx_left (fun m => by have := mem_M4 m; simp at this), idx_right (not_low (by simp)), List.length_append, List.length_append, len_S0, len_M1, len_M2]
  unfold aEnt
  by_cases ha : 0 ≤ a
  · obtain ⟨n, rfl⟩ := Int.eq_ofNat_of_zero_le ha
    unfold M3
    rw [idx_blocks (d := 2) (a0 := n) (fun _ => rfl) (fun b hb => by simp at hb; omega)]
    by_cases hn : (n : Int) < c.en
    · rw [if_pos (by omega), if_pos ((hasB_ok h _ _).2 ⟨ha, hn⟩), idx, if_pos rfl]; omega
    · rw [if_neg (by omega), if_neg (fun e => hn ((hasB_ok h _ _).1 e).2)]
  · rw [idx_none (fun m => ha (mem_M3 m).2.2), if_neg (fun e => ha ((hasB_ok h _ _).1 e).1)]
theorem at4 {c : Cfg} (h : Ok c) (a : Int) : refAt c (4, a, 0) = aEnl c a := by
  have hw := h.ww
  have hs := h.sl
  have he := h.en
  rw [refAt_ok h, spots_eq, idx_left (fun m => by have := mem_M4 m; simp at this), idx_right (not_low (by simp)), List.length_append, List.length_append, len_S0, len_M1, len_M2]
  unfold aEnl
  by_cases ha : 0 ≤ a
  · obtain ⟨n, rfl⟩ := Int.eq_ofNat_of_zero_le ha
    unfold M3
    rw [idx_blocks (d := 2) (a0 := n) (fun _ => rfl) (fun b hb => by simp at hb; omega)]
    by_cases hn : (n : Int) < c.en
    · rw [if_pos (by omega), if_pos ((hasB_ok h _ _).2 ⟨ha, hn⟩), idx, if_neg (by simp), idx, if_pos rfl]; omega
    · rw [if_neg (by omega), if_neg (fun e => hn ((hasB_ok h _ _).1 e).2)]
  · rw [idx_none (fun m => ha (mem_M3 m).2.2), if_neg (fun e => ha ((hasB_ok h _ _).1 e).1)]
theorem not_low3 {s : Spot} {a b d : Nat} (h : 4 < s.1) : s ∉ S0 ++ M1 a ++ M2 b ++ M3 d := fun m => by
  rcases List.mem_append.1 m with m | m
  · exact not_low (by omega) m
  · have := mem_M3 m; omega
theorem len_pre (c : Cfg) : (S0 ++ M1 c.ww.toNat ++ M2 c.sl.toNat ++ M3 c.en.toNat).length = 3 + c.ww.toNat + c.sl.toNat + 2 * c.en.toNat := by
  simp only [List.length_append, len_S0, len_M1, len_M2, len_M3]
theorem wrd_idx (a D : Nat) (b : Int) (k : Nat) : idx (6, (a : Int), b) (wrd a D) k = if 0 ≤ b ∧ b < D then (k : Int) + b else -1 := by
  by_cases hb : 0 ≤ b
  · obtain ⟨n, rfl⟩ := Int.eq_ofNat_of_zero_le hb
    unfold wrd
    rw [List.map_eq_flatMap, idx_blocks (d := 1) (a0 := n) (fun _ => rfl) (fun b hb => by simp at hb; omega)]
    by_cases hn : n < D
    · rw [if_pos hn, if_pos (by omega), idx, if_pos rfl]; omega
    · rw [if_neg hn, if_neg (by omega)]
  · rw [if_neg (by omega), idx_none]
    intro m
    obtain ⟨x, _, e⟩ := List.mem_map.1 m
    simp at e; omega
theorem tot_nat {c : Cfg} (h : Ok c) : tot c = ((c.sl * c.bl).toNat : Int) := by
  have := tot_ok (okB_of_ok h)
  omega
theorem at5 {c : Cfg} (h : Ok c) (a : Int) : refAt c (5, a, 0) = aBlk c a := by
  have hw := h.ww
  have hs := h.sl
  have he := h.en
  have hd := h.wd
  have ht := tot_nat h
  rw [refAt_ok h, spots_eq, idx_right (not_low3 (by simp)), len_pre]
  unfold aBlk
  by_cases ha : 0 ≤ a
  · obtain ⟨n, rfl⟩ := Int.eq_ofNat_of_zero_le ha
    unfold M4
    rw [idx_blocks (d := c.wd.toNat + 1) (a0 := n) (fun x => by rw [List.length_cons, wrd_len]) (fun b hb => by
      rcases List.mem_cons.1 hb with e | e
      · simp at e; omega
      · obtain ⟨x, _, e⟩ := List.mem_map.1 e; simp at e)]
    by_cases hn : (n : Int) < tot c
    · rw [if_pos (by omega), if_pos ((hasB_ok h _ _).2 ⟨ha, hn⟩), idx, if_pos rfl]
      have : (((c.wd.toNat + 1) * n : Nat) : Int) = (n : Int) * (1 + c.wd) := by
        rw [Int.natCast_mul, Int.mul_comm]; congr 1; omega
      omega
    · rw [if_neg (by omega), if_neg (fun e => hn ((hasB_ok h _ _).1 e).2)]
  · rw [idx_none (fun m => ha (mem_M4 m).2), if_neg (fun e => ha ((hasB_ok h _ _).1 e).1)]
theorem at6 {c : Cfg} (h : Ok c) (a b : Int) : refAt c (6, a, b) = aWrd c a b := by
  have hw := h.ww
  have hs := h.sl
  have he := h.en
  have hd := h.wd
  have ht := tot_nat h
  rw [refAt_ok h, spots_eq, idx_right (not_low3 (by simp)), len_pre]
  unfold aWrd
  by_cases ha : 0 ≤ a
  · obtain ⟨n, rfl⟩ := Int.eq_ofNat_of_zero_le ha
    unfold M4
    rw [idx_blocks (d := c.wd.toNat + 1) (a0 := n) (fun x => by rw [List.length_cons, wrd_len]) (fun b hb => by
      rcases List.mem_cons.1 hb with e | e
      · simp at e
      · obtain ⟨x, _, e⟩ := List.mem_map.1 e; simp at e; omega)]
    by_cases hn : (n : Int) < tot c
    · rw [if_pos (by omega), idx, if_neg (by simp), wrd_idx]
      by_cases hb : 0 ≤ b ∧ b < c.wd
      · rw [if_pos (by omega), if_pos (by rw [Bool.and_eq_true]; exact ⟨(hasB_ok h _ _).2 ⟨ha, hn⟩, (hasB_ok h _ _).2 hb⟩)]
        have : (((c.wd.toNat + 1) * n : Nat) : Int) = (n : Int) * (1 + c.wd) := by
          rw [Int.natCast_mul, Int.mul_comm]; congr 1; omega
        omega
      · rw [if_neg (by omega), if_neg (fun e => hb ((hasB_ok h _ _).1 (Bool.and_eq_true _ _ ▸ e).2))]
    · rw [if_neg (by omega), if_neg (fun e => hn ((hasB_ok h _ _).1 (Bool.and_eq_true _ _ ▸ e).1).2)]
  · rw [idx_none (fun m => ha (mem_M4 m).2), if_neg (fun e => ha ((hasB_ok h _ _).1 (Bool.and_eq_true _ _ ▸ e).1).1)]
end
theorem bad {c : Cfg} (h : chk c ≠ 0) (i n : Int) : hasB c i n = false := by simp [hasB, okB_false h]
theorem refAt_all (c : Cfg) (a b : Int) : refAt c (1, a, 0) = aAnn c a ∧ refAt c (2, a, 0) = aSlab c a ∧ refAt c (3, a, 0) = aEnt c a ∧ refAt c (4, a, 0) = aEnl c a ∧ refAt c (5, a, 0) = aBlk c a ∧ refAt c (6, a, b) = aWrd c a b := by
  by_cases hv : chk c = 0
  · have h := chk_ok.1 hv
    exact ⟨at1 h a, at2 h a, at3 h a, at4 h a, at5 h a, at6 h a b⟩
  · simp only [refAt, if_neg hv, aAnn, aSlab, aEnt, aEnl, aBlk, aWrd, bad hv]
    simp
theorem spots_len {c : Cfg} (h : Ok c) : ((spots c).length : Int) = siz c := by
  have := okB_of_ok h
  have hw := h.ww
  have hs := h.sl
  have he := h.en
  have hd := h.wd
  have hm := tot_ok this
  unfold spots
  rw [S4_len, siz, if_pos this]
  have : (((c.wd.toNat + 1) * (c.sl * c.bl).toNat : Nat) : Int) = c.sl * c.bl * (1 + c.wd) := by
    rw [Int.natCast_mul, Int.mul_comm]; congr 1 <;> omega
  omega
end Go.Proofs.Yticgpikpefgldaa.Pl
