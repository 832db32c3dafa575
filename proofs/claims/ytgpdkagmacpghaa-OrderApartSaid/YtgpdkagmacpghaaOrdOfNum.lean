/- Where an operation's events lie, and which answers order.Of gives: numbers alone. -/
import Derived.Test.YtgpdkagmacpghaaOrdNum
namespace Go.Proofs.Ytgpdkagmacpghaa.Od
set_option linter.unusedVariables false
/-- The places of an operation's events of a kind. -/
def pl : List Ev → Int → Int × Int → Nat → List Nat
  | [], _, _, _ => []
  | e :: r, kd, o, i => if e.k = kd ∧ e.o = o then i :: pl r kd o (i + 1) else pl r kd o (i + 1)
theorem pl_append : ∀ (s : List Ev) (e : Ev) (kd : Int) (o : Int × Int) (i : Nat), pl (s ++ [e]) kd o i = pl s kd o i ++ (if e.k = kd ∧ e.o = o then [i + s.length] else [])
  | [], e, kd, o, i => by
    simp only [List.nil_append, pl, List.length_nil, Nat.add_zero]
  | x :: r, e, kd, o, i => by
    have ih := pl_append r e kd o (i + 1)
    simp only [List.cons_append, pl, List.length_cons]
    rw [show i + (r.length + 1) = i + 1 + r.length by omega]
    split <;> simp [ih]
theorem pl_take (s : List Ev) (kd : Int) (o : Int × Int) (k : Nat) (h : k < s.length) : pl (s.take (k + 1)) kd o 0 = pl (s.take k) kd o 0 ++ (if s[k].k = kd ∧ s[k].o = o then [k] else []) := by
  rw [List.take_succ_eq_append_getElem h, pl_append, List.length_take, Nat.min_eq_left (by omega), Nat.zero_add]
theorem fp_head : ∀ (s : List Ev) (o : Int × Int) (i : Nat), fpF s o i = (pl s 3 o i).head?
  | [], _, _ => rfl
  | e :: r, o, i => by
    rw [fpF, pl]
    split
    · rfl
    · exact fp_head r o (i + 1)
theorem mem_pl : ∀ (s : List Ev) (kd : Int) (o : Int × Int) (i j : Nat), j ∈ pl s kd o i ↔ ∃ h : j - i < s.length, i ≤ j ∧ s[j - i].k = kd ∧ s[j - i].o = o
  | [], kd, o, i, j => by simp [pl]
  | e :: r, kd, o, i, j => by
    have ih := mem_pl r kd o (i + 1) j
    have key : j ∈ pl r kd o (i + 1) ↔ ∃ h : j - i < (e :: r).length, i < j ∧ (e :: r)[j - i].k = kd ∧ (e :: r)[j - i].o = o := by
      rw [ih]
      constructor
      · rintro ⟨h, h1, h2⟩
        refine ⟨by simp; omega, by omega, ?_⟩
        have e1 : (e :: r)[j - i]'(by simp; omega) = r[j - (i + 1)] := by
          rw [List.getElem_cons, dif_neg (by omega)]
          congr 1
        rw [e1]
        exact h2
      · rintro ⟨h, h1, h2⟩
        have hl : j - (i + 1) < r.length := by simp at h; omega
        refine ⟨hl, by omega, ?_⟩
        have e1 : (e :: r)[j - i] = r[j - (i + 1)] := by
          rw [List.getElem_cons, dif_neg (by omega)]
          congr 1
        rw [e1] at h2
        exact h2
    rw [pl]
    constructor
    · intro h
      split at h
      · rename_i c
        rcases List.mem_cons.1 h with h | h
        · subst h
          exact ⟨by simp, Nat.le_refl _, by simpa using c⟩
        · obtain ⟨h1, h2, h3⟩ := key.1 h
          exact ⟨h1, by omega, h3⟩
      · obtain ⟨h1, h2, h3⟩ := key.1 h
        exact ⟨h1, by omega, h3⟩
    · rintro ⟨h, h1, h2⟩
      by_cases hj : j = i
      · subst hj
        rw [if_pos (by simpa using h2)]
        exact List.mem_cons_self
      · have := key.2 ⟨h, by omega, h2⟩
        split
        · exact List.mem_cons_of_mem _ this
        · exact this
theorem mem_pl0 {s : List Ev} {kd : Int} {o : Int × Int} {j : Nat} : j ∈ pl s kd o 0 ↔ ∃ h : j < s.length, s[j].k = kd ∧ s[j].o = o := by
  rw [mem_pl]
  simp
theorem pl_sorted : ∀ (s : List Ev) (kd : Int) (o : Int × Int) (i : Nat), (pl s kd o i).Pairwise (· < ·)
  | [], _, _, _ => by simp [pl]
  | e :: r, kd, o, i => by
    have ih := pl_sorted r kd o (i + 1)
    rw [pl]
    split
    · refine List.pairwise_cons.2 ⟨fun j hj => ?_, ih⟩
      obtain ⟨_, h, _⟩ := (mem_pl _ _ _ _ _).1 hj
      omega
    · exact ih
/-- The first place from one on. -/
def fst (s : List Ev) (kd : Int) (o : Int × Int) (m : Nat) : Option Nat := (pl s kd o 0).find? (fun x => decide (m ≤ x))
theorem find_ge : ∀ (l : List Nat), l.Pairwise (· < ·) → ∀ m, (m ∈ l → l.find? (fun x => decide (m ≤ x)) = some m) ∧ (m ∉ l → l.find? (fun x => decide (m ≤ x)) = l.find? (fun x => decide (m + 1 ≤ x)))
  | [], _, m => by simp
  | a :: r, h, m => by
    obtain ⟨h1, h2⟩ := List.pairwise_cons.1 h
    obtain ⟨i1, i2⟩ := find_ge r h2 m
    constructor
    · intro hm
      by_cases ha : m ≤ a
      · rw [List.find?_cons_of_pos (by simpa using ha)]
        rcases List.mem_cons.1 hm with e | e
        · rw [e]
        · have := h1 m e
          omega
      · rw [List.find?_cons_of_neg (by simpa using ha)]
        rcases List.mem_cons.1 hm with e | e
        · omega
        · exact i1 e
    · intro hm
      have hne : m ≠ a := fun e => hm (e ▸ List.mem_cons_self)
      have hr : m ∉ r := fun e => hm (List.mem_cons_of_mem _ e)
      by_cases ha : m ≤ a
      · rw [List.find?_cons_of_pos (by simpa using ha), List.find?_cons_of_pos (by simp; omega)]
      · rw [List.find?_cons_of_neg (by simpa using ha), List.find?_cons_of_neg (by simp; omega)]
        exact i2 hr
theorem fst_hit {s : List Ev} {kd : Int} {o : Int × Int} {m : Nat} (h : m < s.length) (h1 : s[m].k = kd) (h2 : s[m].o = o) : fst s kd o m = some m :=
  (find_ge _ (pl_sorted s kd o 0) m).1 (mem_pl0.2 ⟨h, h1, h2⟩)
theorem fst_miss {s : List Ev} {kd : Int} {o : Int × Int} {m : Nat} (h : m < s.length) (h1 : ¬ (s[m].k = kd ∧ s[m].o = o)) : fst s kd o m = fst s kd o (m + 1) :=
  (find_ge _ (pl_sorted s kd o 0) m).2 (fun e => by obtain ⟨_, h3⟩ := mem_pl0.1 e; exact h1 h3)
theorem fst_end (s : List Ev) (kd : Int) (o : Int × Int) (m : Nat) (h : s.length ≤ m) : fst s kd o m = none := by
  unfold fst
  rw [List.find?_eq_none]
  intro x hx
  obtain ⟨h3, _⟩ := mem_pl0.1 hx
  simp
  omega
theorem fst_lt {s : List Ev} {kd : Int} {o : Int × Int} {m j : Nat} (h : fst s kd o m = some j) : j < s.length ∧ m ≤ j := by
  unfold fst at h
  have h1 := List.mem_of_find?_eq_some h
  have h2 := List.find?_some h
  obtain ⟨h3, _⟩ := mem_pl0.1 h1
  exact ⟨h3, by simpa using h2⟩
theorem fst_zero (s : List Ev) (kd : Int) (o : Int × Int) : fst s kd o 0 = (pl s kd o 0).head? := by
  unfold fst
  cases pl s kd o 0 with
  | nil => rfl
  | cons a r => simp
/-- Which event's answer the i-th event gives, if it is its operation's first point: that of the return, or its own unless it only reads. -/
def pick (s : List Ev) (rd : Nat → Bool) (i : Nat) : Option Nat :=
  match s[i]? with
  | none => none
  | some e => if e.k = 3 ∧ fst s 3 e.o 0 = some i then (match fst s 4 e.o (i + 1) with | some r => some r | none => if rd i = true then none else some i) else none
def ofF (s : List Ev) (rd : Nat → Bool) (n : Nat) : List Nat := (List.range n).filterMap (pick s rd)
theorem ofF_succ (s : List Ev) (rd : Nat → Bool) (n : Nat) : ofF s rd (n + 1) = ofF s rd n ++ (pick s rd n).toList := by
  unfold ofF
  rw [List.range_succ, List.filterMap_append]
  congr 1
theorem pick_lt {s : List Ev} {rd : Nat → Bool} {i j : Nat} (h : pick s rd i = some j) : j < s.length := by
  unfold pick at h
  cases he : s[i]? with
  | none => rw [he] at h; cases h
  | some e =>
    rw [he] at h
    simp only at h
    split at h
    · cases hf : fst s 4 e.o (i + 1) with
      | none =>
        rw [hf] at h
        simp only at h
        split at h
        · cases h
        · simp only [Option.some.injEq] at h
          subst h
          exact (List.getElem?_eq_some_iff.1 he).1
      | some r =>
        rw [hf] at h
        simp only [Option.some.injEq] at h
        subst h
        exact (fst_lt hf).1
    · cases h
theorem ofF_lt {s : List Ev} {rd : Nat → Bool} {n j : Nat} (h : j ∈ ofF s rd n) : j < s.length := by
  obtain ⟨i, _, hp⟩ := List.mem_filterMap.1 h
  exact pick_lt hp
theorem ofF_len (s : List Ev) (rd : Nat → Bool) (n : Nat) : (ofF s rd n).length ≤ n := by
  unfold ofF
  have := List.length_filterMap_le (pick s rd) (List.range n)
  simpa using this
end Go.Proofs.Ytgpdkagmacpghaa.Od
