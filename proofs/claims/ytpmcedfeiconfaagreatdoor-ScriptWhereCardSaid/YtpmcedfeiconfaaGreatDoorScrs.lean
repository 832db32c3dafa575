/- Layer 21, of no program: the text of a script, and what is read back from it, line by line. -/
import Derived.Test.YtpmcedfeiconfaaGreatDoorOpNum
import Derived.Test.YtpmcedfeiconfaaGreatDoorPlanNum
namespace Go.Proofs.YtpmcedfeiconfaaGreatDoor.Scr
open Go Go.Lib Go.Proofs.YtpmcedfeiconfaaGreatDoor.Opn Go.Proofs.YtpmcedfeiconfaaGreatDoor.Pl
set_option linter.unusedVariables false
set_option linter.unusedSimpArgs false
structure ScD where
  c : Cfg
  p : List (List OpD)
  k : List Int
  deriving DecidableEq
abbrev cz : Cfg := ⟨0, 0, 0, 0, 0, 0, 0, 0⟩
abbrev hallW : List UInt8 := [104, 97, 108, 108]
abbrev doW : List UInt8 := [100, 111]
abbrev pickW : List UInt8 := [112, 105, 99, 107]
def cfgL (c : Cfg) : List Int := [c.ww, c.sl, c.bl, c.wd, c.en, c.rk, c.bg, c.la]
def cfgOf : List Int → Option Cfg
  | [a, b, d, e, f, g, h, i] => some ⟨a, b, d, e, f, g, h, i⟩
  | _ => none
def okC (c : Cfg) : Bool := chk c == 0
/-- a list in pieces of twenty -/
def chunks : Nat → List Int → List (List Int)
  | 0, _ => []
  | n + 1, l => if l = [] then [] else l.take 20 :: chunks n (l.drop 20)
def chunk (l : List Int) : List (List Int) := chunks (l.length + 1) l
def numsT (l : List Int) : List UInt8 := (l.map fun n => 32 :: dec n).flatten
def hallL (c : Cfg) : List UInt8 := hallW ++ numsT (cfgL c)
def doL (w : Nat) (o : OpD) : List UInt8 := doW ++ 32 :: (dec w ++ 32 :: text o)
def pickL (l : List Int) : List UInt8 := pickW ++ numsT l
def progL : Nat → List (List OpD) → List (List UInt8)
  | _, [] => []
  | w, l :: r => l.map (doL w) ++ progL (w + 1) r
def lines (s : ScD) : List (List UInt8) := hallL s.c :: (progL 0 s.p ++ (chunk s.k).map pickL)
def textS (s : ScD) : List UInt8 := ((lines s).map (· ++ [10])).flatten
def inR (c : Cfg) (l : List Int) : Bool := l.all fun k => decide (0 ≤ k) && decide (k < c.ww)
def lastOk (p : List (List OpD)) : Bool := match p.getLast? with | none => true | some l => !l.isEmpty
def rightS (s : ScD) : Bool := okC s.c && (decide ((s.p.length : Int) ≤ s.c.ww) && (decide (s.k.length ≤ 2000) && (lastOk s.p && ((s.p.all fun l => decide (l.length ≤ 200) && l.all right) && inR s.c s.k))))
/-! ### what is read -/
def rdW (l : List UInt8) : Option Nat := match rdN 63 l with | some v => if decDigits v = l then some v else none | none => none
/-- words between single spaces, at most n of them -/
def splitN : Nat → List UInt8 → Option (List (List UInt8))
  | 0, _ => none
  | n + 1, s => if (cut s [32]).2.2 = true then (splitN n (cut s [32]).2.1).map ((cut s [32]).1 :: ·) else some [(cut s [32]).1]
def rdAll : List (List UInt8) → Option (List Int)
  | [] => some []
  | w :: r => match rdW w with | none => none | some v => (rdAll r).map ((v : Int) :: ·)
def rdNums (n : Nat) (s : List UInt8) : Option (List Int) := (splitN n s).bind rdAll
structure RdS where
  s : ScD
  b : List UInt8
  deriving DecidableEq
def addOp (p : List (List OpD)) (w : Nat) (o : OpD) : List (List OpD) :=
  if w + 1 = p.length then p.take w ++ [p.getD w [] ++ [o]] else p ++ List.replicate (w - p.length) [] ++ [[o]]
def lineS (l : List UInt8) (st : RdS) : Option RdS :=
  if (cut l [32]).1 = hallW then
    if st.b = [] then
      match (rdNums 8 (cut l [32]).2.1).bind cfgOf with
      | none => none
      | some c => if okC c then some ⟨{ st.s with c := c }, hallW⟩ else none
    else none
  else if (cut l [32]).1 = doW then
    if st.b = hallW ∨ st.b = doW then
      match rdW (cut (cut l [32]).2.1 [32]).1, parseL (cut (cut l [32]).2.1 [32]).2.1 with
      | some w, some o => if (w : Int) < st.s.c.ww ∧ st.s.p.length ≤ w + 1 ∧ ((addOp st.s.p w o).getD w []).length ≤ 200 then some ⟨{ st.s with p := addOp st.s.p w o }, doW⟩ else none
      | _, _ => none
    else none
  else if (cut l [32]).1 = pickW then
    if st.b = hallW ∨ st.b = doW ∨ st.b = pickW then
      match rdNums 20 (cut l [32]).2.1 with
      | none => none
      | some ks => if st.s.k.length % 20 = 0 ∧ (st.s.k ++ ks).length ≤ 2000 ∧ inR st.s.c ks = true then some ⟨{ st.s with k := st.s.k ++ ks }, pickW⟩ else none
    else none
  else none
abbrev st0 : RdS := ⟨⟨cz, [], []⟩, []⟩
/-- the script and 0, or the line at which it is wrong -/
def parseS : Nat → Nat → List UInt8 → RdS → Option ScD × Nat
  | 0, n, _, _ => (none, n)
  | f + 1, n, t, st =>
    if (cut t [10]).2.2 = false then (none, n)
    else match lineS (cut t [10]).1 st with
      | none => (none, n)
      | some st' => if (cut t [10]).2.1 = [] then (some st'.s, 0) else parseS f (n + 1) (cut t [10]).2.1 st'
/-! ### numbers there and back -/
theorem rdW_dec {n : Nat} (h : n ≤ 9223372036854775807) : rdW (decDigits n) = some n := by
  unfold rdW
  have : rdN 63 (decDigits n) = some n := rd_dec (by decide) (by omega)
  rw [this]
  simp
theorem rdW_some {l : List UInt8} {n : Nat} (h : rdW l = some n) : decDigits n = l ∧ n ≤ 9223372036854775807 := by
  unfold rdW at h
  cases hc : rdN 63 l with
  | none => rw [hc] at h; cases h
  | some v =>
    rw [hc] at h
    simp only at h
    split at h
    · rename_i he
      injection h with h
      subst h
      refine ⟨he, ?_⟩
      unfold rdN at hc
      split at hc
      · rename_i u hu
        injection hc with hc
        subst hc
        have := parseUintB_le hu
        have e : (2 : Nat) ^ 63 - 1 = 9223372036854775807 := by decide
        omega
      · cases hc
    · cases h
theorem cut_parts (s : List UInt8) (c : UInt8) : (cut s [c]).2.2 = true → s = (cut s [c]).1 ++ c :: (cut s [c]).2.1 ∧ c ∉ (cut s [c]).1 := by
  intro h
  by_cases hm : c ∈ s
  · obtain ⟨a, r, rfl, ha⟩ := List.eq_append_cons_of_mem hm
    rw [cut_hit ha]
    exact ⟨rfl, ha⟩
  · rw [cut_none hm] at h
    cases h
end Go.Proofs.YtpmcedfeiconfaaGreatDoor.Scr

/- Layer 21, of no program: what is written is read back, line by line; where it fails. -/
namespace Go.Proofs.YtpmcedfeiconfaaGreatDoor.Scr
open Go Go.Lib Go.Proofs.YtpmcedfeiconfaaGreatDoor.Opn Go.Proofs.YtpmcedfeiconfaaGreatDoor.Pl
set_option linter.unusedVariables false
set_option linter.unusedSimpArgs false
/-! ### numbers -/
def In63 (k : Int) : Prop := 0 ≤ k ∧ k ≤ 9223372036854775807
theorem dec_no (k : Int) : (32 : UInt8) ∉ dec k := dec_not (by decide)
theorem dec_no10 (k : Int) : (10 : UInt8) ∉ dec k := dec_not (by decide)
theorem nums_join (n : Int) (l : List Int) : numsT (n :: l) = 32 :: join ((n :: l).map dec) [32] := by
  simp [numsT, join_cons, joinTail, List.map_map, Function.comp_def]
theorem rdW_dec' {k : Int} (h : In63 k) : rdW (dec k) = some k.toNat := rdW_dec (by have := h.2; omega)
theorem rdAll_dec : ∀ (l : List Int), (∀ k ∈ l, In63 k) → rdAll (l.map dec) = some l
  | [], _ => rfl
  | k :: l, h => by
    have h1 := h k (by simp)
    rw [List.map_cons, rdAll, rdW_dec' h1, rdAll_dec l (fun k hk => h k (by simp [hk]))]
    simp only [Option.map_some, Option.some.injEq, List.cons.injEq, and_true]
    have := h1.1
    omega
theorem splitN_join : ∀ (n : Nat) (w : List UInt8) (r : List (List UInt8)), (∀ x ∈ w :: r, (32 : UInt8) ∉ x) → r.length < n → splitN n (join (w :: r) [32]) = some (w :: r)
  | 0, w, r, _, hn => by omega
  | n + 1, w, [], h, hn => by
    rw [join_one, splitN, cut_none (h w (by simp))]
    simp
  | n + 1, w, y :: r, h, hn => by
    have hj : join (w :: y :: r) [32] = w ++ 32 :: join (y :: r) [32] := by
      rw [join_cons, join_cons]
      simp [joinTail]
    rw [hj, splitN, cut_hit (h w (by simp))]
    simp only [if_true]
    rw [splitN_join n y r (fun x hx => h x (List.mem_cons_of_mem _ hx)) (by simp at hn; omega)]
    rfl
theorem rdNums_back {m : Nat} {n : Int} {l : List Int} (h : ∀ k ∈ n :: l, In63 k) (hm : l.length < m) : rdNums m (join ((n :: l).map dec) [32]) = some (n :: l) := by
  unfold rdNums
  rw [List.map_cons, splitN_join m (dec n) (l.map dec) (fun x hx => by
    rcases List.mem_cons.1 hx with rfl | hx
    · exact dec_no n
    · obtain ⟨k, _, rfl⟩ := List.mem_map.1 hx
      exact dec_no k) (by simpa using hm)]
  rw [Option.bind_some, ← List.map_cons, rdAll_dec _ h]
theorem rdAll_some : ∀ (ws : List (List UInt8)) (l : List Int), rdAll ws = some l → ws = l.map dec ∧ ∀ k ∈ l, In63 k
  | [], l, h => by
    simp only [rdAll, Option.some.injEq] at h
    subst h
    exact ⟨rfl, fun k hk => by cases hk⟩
  | w :: r, l, h => by
    rw [rdAll] at h
    cases hw : rdW w with
    | none => rw [hw] at h; cases h
    | some v =>
      rw [hw] at h
      simp only [Option.map_eq_some_iff] at h
      obtain ⟨l', h1, rfl⟩ := h
      obtain ⟨e1, e2⟩ := rdAll_some r l' h1
      obtain ⟨f1, f2⟩ := rdW_some hw
      refine ⟨by rw [List.map_cons, ← e1]; congr 1; exact f1.symm, fun k hk => ?_⟩
      rcases List.mem_cons.1 hk with rfl | hk
      · exact ⟨by omega, by omega⟩
      · exact e2 k hk
theorem splitN_some : ∀ (n : Nat) (s : List UInt8) (ws : List (List UInt8)), splitN n s = some ws → s = join ws [32] ∧ 0 < ws.length ∧ ws.length ≤ n
  | 0, s, ws, h => by cases h
  | n + 1, s, ws, h => by
    rw [splitN] at h
    split at h
    · rename_i hc
      simp only [Option.map_eq_some_iff] at h
      obtain ⟨r, h1, rfl⟩ := h
      obtain ⟨e1, e2, e3⟩ := splitN_some n _ r h1
      have hp := (cut_parts s 32 hc).1
      refine ⟨?_, by simp, by simp; omega⟩
      cases r with
      | nil => simp at e2
      | cons y r =>
        rw [join_cons] at e1 ⊢
        conv => lhs; rw [hp, e1]
        simp [joinTail]
    · rename_i hc
      injection h with h
      subst h
      have hm : (32 : UInt8) ∉ s := fun hm => by
        obtain ⟨a, r, rfl, ha⟩ := List.eq_append_cons_of_mem hm
        rw [cut_hit ha] at hc
        exact hc rfl
      rw [cut_none hm, join_one]
      exact ⟨rfl, by simp, by simp⟩
theorem rdNums_some {n : Nat} {s : List UInt8} {l : List Int} (h : rdNums n s = some l) : 32 :: s = numsT l ∧ 0 < l.length ∧ l.length ≤ n ∧ ∀ k ∈ l, In63 k := by
  unfold rdNums at h
  rw [Option.bind_eq_some_iff] at h
  obtain ⟨ws, h1, h2⟩ := h
  obtain ⟨e1, e2, e3⟩ := splitN_some n s ws h1
  obtain ⟨f1, f2⟩ := rdAll_some ws l h2
  subst f1
  rw [List.length_map] at e2 e3
  refine ⟨?_, e2, e3, f2⟩
  cases l with
  | nil => simp at e2
  | cons k l => rw [nums_join, ← e1]
/-! ### the loop over the lines -/
def feed : List (List UInt8) → RdS → Option RdS
  | [], st => some st
  | l :: r, st => (lineS l st).bind (feed r)
theorem feed_app : ∀ (a b : List (List UInt8)) (st : RdS), feed (a ++ b) st = (feed a st).bind (feed b)
  | [], b, st => rfl
  | l :: a, b, st => by
    simp only [List.cons_append, feed]
    cases lineS l st with
    | none => rfl
    | some st' => exact feed_app a b st'
def endl (ls : List (List UInt8)) : List UInt8 := (ls.map (· ++ [10])).flatten
theorem endl_cons (l : List UInt8) (r : List (List UInt8)) : endl (l :: r) = l ++ 10 :: endl r := by simp [endl]
theorem endl_nil (r : List (List UInt8)) : endl r = [] ↔ r = [] := by
  cases r with
  | nil => simp [endl]
  | cons l r => simp [endl_cons]
/-- All lines are read. -/
theorem parse_ok : ∀ (ls : List (List UInt8)) (f n : Nat) (st st' : RdS), ls ≠ [] → (∀ l ∈ ls, (10 : UInt8) ∉ l) → ls.length ≤ f → feed ls st = some st' → parseS f n (endl ls) st = (some st'.s, 0)
  | [], f, n, st, st', h, _, _, _ => absurd rfl h
  | l :: r, 0, n, st, st', _, _, hf, _ => by simp at hf
  | l :: r, f + 1, n, st, st', _, hn, hf, h => by
    rw [parseS, endl_cons, cut_hit (hn l (by simp))]
    simp only [Bool.true_eq_false, if_false]
    simp only [feed] at h
    cases hl : lineS l st with
    | none => rw [hl] at h; cases h
    | some s1 =>
      rw [hl, Option.bind_some] at h
      simp only
      by_cases hr : r = []
      · subst hr
        simp only [feed, Option.some.injEq] at h
        subst h
        rw [if_pos (by simp [endl])]
      · rw [if_neg (by rw [endl_nil]; exact hr)]
        exact parse_ok r f (n + 1) s1 st' hr (fun x hx => hn x (by simp [hx])) (by simp at hf; omega) h
/-- The first so many lines are read, the next is not. -/
theorem parse_bad : ∀ (a : List (List UInt8)) (l : List UInt8) (r : List (List UInt8)) (f n : Nat) (st st' : RdS), (∀ x ∈ a, (10 : UInt8) ∉ x) → (10 : UInt8) ∉ l → a.length < f → feed a st = some st' → lineS l st' = none → parseS f n (endl (a ++ l :: r)) st = (none, n + a.length)
  | [], l, r, 0, n, st, st', _, _, hf, _, _ => by simp at hf
  | [], l, r, f + 1, n, st, st', _, hl, hf, h, hb => by
    simp only [feed, Option.some.injEq] at h
    subst h
    rw [List.nil_append, parseS, endl_cons, cut_hit hl]
    simp only [Bool.true_eq_false, if_false, hb]
    rfl
  | x :: a, l, r, 0, n, st, st', _, _, hf, _, _ => by simp at hf
  | x :: a, l, r, f + 1, n, st, st', ha, hl, hf, h, hb => by
    rw [List.cons_append, parseS, endl_cons, cut_hit (ha x (by simp))]
    simp only [Bool.true_eq_false, if_false]
    simp only [feed] at h
    cases hx : lineS x st with
    | none => rw [hx] at h; cases h
    | some s1 =>
      rw [hx, Option.bind_some] at h
      simp only
      rw [if_neg (by rw [endl_nil]; simp), parse_bad a l r f (n + 1) s1 st' (fun y hy => ha y (by simp [hy])) hl (by simp at hf; omega) h hb]
      simp only [List.length_cons, Prod.mk.injEq, true_and]
      omega
/-- The lines are read, and then comes something that is not ended. -/
theorem parse_open : ∀ (a : List (List UInt8)) (l : List UInt8) (f n : Nat) (st st' : RdS), (∀ x ∈ a, (10 : UInt8) ∉ x) → (10 : UInt8) ∉ l → l ≠ [] ∨ a = [] → a.length < f → feed a st = some st' → parseS f n (endl a ++ l) st = (none, n + a.length)
  | [], l, 0, n, st, st', _, _, _, hf, _ => by simp at hf
  | [], l, f + 1, n, st, st', _, hl, _, hf, h => by
    have e : endl [] ++ l = l := rfl
    rw [e, parseS, cut_none hl]
    simp
  | x :: a, l, 0, n, st, st', _, _, _, hf, _ => by simp at hf
  | x :: a, l, f + 1, n, st, st', ha, hl, hne, hf, h => by
    have hl0 : l ≠ [] := by rcases hne with h | h
                            · exact h
                            · cases h
    have e : endl (x :: a) ++ l = x ++ 10 :: (endl a ++ l) := by rw [endl_cons]; simp
    rw [e, parseS, cut_hit (ha x (by simp))]
    simp only [Bool.true_eq_false, if_false]
    simp only [feed] at h
    cases hx : lineS x st with
    | none => rw [hx] at h; cases h
    | some s1 =>
      rw [hx, Option.bind_some] at h
      simp only
      rw [if_neg (by simp [hl0]), parse_open a l f (n + 1) s1 st' (fun y hy => ha y (by simp [hy])) hl (.inl hl0) (by simp at hf; omega) h]
      simp only [List.length_cons, Prod.mk.injEq, true_and]
      omega
/-- What was read is lines that were read. -/
theorem parse_some : ∀ (f n : Nat) (t : List UInt8) (st : RdS) (s : ScD) (k : Nat), parseS f n t st = (some s, k) → k = 0 ∧ ∃ ls st', t = endl ls ∧ ls ≠ [] ∧ feed ls st = some st' ∧ s = st'.s
  | 0, n, t, st, s, k, h => by simp [parseS] at h
  | f + 1, n, t, st, s, k, h => by
    rw [parseS] at h
    split at h
    · cases h
    · rename_i hc
      have hc' : (cut t [10]).2.2 = true := by simpa using hc
      have hp := (cut_parts t 10 hc').1
      cases hl : lineS (cut t [10]).1 st with
      | none => rw [hl] at h; cases h
      | some s1 =>
        rw [hl] at h
        simp only at h
        split at h
        · rename_i hr
          simp only [Prod.mk.injEq, Option.some.injEq] at h
          obtain ⟨rfl, rfl⟩ := h
          refine ⟨rfl, [(cut t [10]).1], s1, ?_, by simp, ?_, rfl⟩
          · conv => lhs; rw [hp, hr]
            simp [endl]
          · simp [feed, hl]
        · obtain ⟨hk, ls, st', e1, e2, e3, e4⟩ := parse_some f (n + 1) _ s1 s k h
          refine ⟨hk, (cut t [10]).1 :: ls, st', ?_, by simp, ?_, e4⟩
          · conv => lhs; rw [hp, e1]
            rw [endl_cons]
          · simp [feed, hl, e3]
theorem count_cut (t : List UInt8) (h : (cut t [10]).2.2 = true) : t.count 10 = (cut t [10]).2.1.count 10 + 1 := by
  obtain ⟨h1, h2⟩ := cut_parts t 10 h
  conv => lhs; rw [h1]
  rw [List.count_append, List.count_cons, List.count_eq_zero_of_not_mem h2]
  simp
theorem parse_none : ∀ (f n : Nat) (t : List UInt8) (st : RdS) (k : Nat), parseS f n t st = (none, k) → n ≤ k ∧ k ≤ n + t.count 10
  | 0, n, t, st, k, h => by
    simp [parseS] at h
    omega
  | f + 1, n, t, st, k, h => by
    rw [parseS] at h
    split at h
    · simp only [Prod.mk.injEq, true_and] at h
      omega
    · rename_i hc
      have hc' : (cut t [10]).2.2 = true := by simpa using hc
      have hcount := count_cut t hc'
      cases hl : lineS (cut t [10]).1 st with
      | none =>
        rw [hl] at h
        simp only [Prod.mk.injEq, true_and] at h
        omega
      | some s1 =>
        rw [hl] at h
        simp only at h
        split at h
        · cases h
        · have := parse_none f (n + 1) _ s1 k h
          omega
end Go.Proofs.YtpmcedfeiconfaaGreatDoor.Scr

/- Layer 21, of no program: what a line that is read does, and that the lines of what was read are the lines that were read. -/
namespace Go.Proofs.YtpmcedfeiconfaaGreatDoor.Scr
open Go Go.Lib Go.Proofs.YtpmcedfeiconfaaGreatDoor.Opn Go.Proofs.YtpmcedfeiconfaaGreatDoor.Pl
set_option linter.unusedVariables false
set_option linter.unusedSimpArgs false
theorem cut_words {l w : List UInt8} (hw : (cut l [32]).1 = w) (h : (cut l [32]).2.2 = true) : l = w ++ 32 :: (cut l [32]).2.1 := by
  subst hw
  exact (cut_parts l 32 h).1
theorem cut_false {l : List UInt8} (c : UInt8) (h : (cut l [c]).2.2 = false) : (cut l [c]).2.1 = [] := by
  by_cases hm : c ∈ l
  · obtain ⟨a, r, rfl, ha⟩ := List.eq_append_cons_of_mem hm
    rw [cut_hit ha] at h
    cases h
  · rw [cut_none hm]
theorem rdW_nil : rdW [] = none := by decide
theorem rdNums_nil (n : Nat) : rdNums n [] = none := by
  cases n with
  | zero => rfl
  | succ n =>
    unfold rdNums
    rw [splitN, cut_none (by simp)]
    rfl
theorem cfgOf_some {l : List Int} {c : Cfg} (h : cfgOf l = some c) : l = cfgL c := by
  unfold cfgOf at h
  split at h
  · injection h with h
    subst h
    rfl
  · cases h
/-- What a line that is read says, and does. -/
inductive Step (st : RdS) (l : List UInt8) : RdS → Prop
  | hall (c : Cfg) : st.b = [] → l = hallL c → okC c = true → Step st l ⟨{ st.s with c := c }, hallW⟩
  | doo (w : Nat) (o : OpD) : (st.b = hallW ∨ st.b = doW) → l = doL w o → right o = true → (w : Int) < st.s.c.ww → st.s.p.length ≤ w + 1 →
      ((addOp st.s.p w o).getD w []).length ≤ 200 → Step st l ⟨{ st.s with p := addOp st.s.p w o }, doW⟩
  | pick (ks : List Int) : (st.b = hallW ∨ st.b = doW ∨ st.b = pickW) → l = pickL ks → 0 < ks.length → ks.length ≤ 20 → st.s.k.length % 20 = 0 →
      (st.s.k ++ ks).length ≤ 2000 → inR st.s.c ks = true → Step st l ⟨{ st.s with k := st.s.k ++ ks }, pickW⟩
theorem step_of {l : List UInt8} {st st' : RdS} (h : lineS l st = some st') : Step st l st' := by
  unfold lineS at h
  have nc : ∀ n, (rdNums n (cut l [32]).2.1).isSome → (cut l [32]).2.2 = true := fun n hn => by
    cases hc : (cut l [32]).2.2 with
    | true => rfl
    | false => rw [cut_false 32 hc, rdNums_nil] at hn; cases hn
  split at h
  · rename_i hw
    split at h
    · rename_i hb
      split at h
      · cases h
      · rename_i c hc
        split at h
        · rename_i hok
          injection h with h
          subst h
          rw [Option.bind_eq_some_iff] at hc
          obtain ⟨ns, h1, h2⟩ := hc
          have hcc := nc 8 (by rw [h1]; rfl)
          have := rdNums_some h1
          refine .hall c hb ?_ hok
          rw [hallL, ← cfgOf_some h2, ← this.1]
          exact cut_words hw hcc
        · cases h
    · cases h
  · split at h
    · rename_i hw
      split at h
      · rename_i hb
        split at h
        · rename_i w o h1 h2
          split at h
          · rename_i hc
            injection h with h
            subst h
            obtain ⟨ro, to⟩ := Opn.parse_some h2
            have f2 : (cut (cut l [32]).2.1 [32]).2.2 = true := by
              cases hf : (cut (cut l [32]).2.1 [32]).2.2 with
              | true => rfl
              | false =>
                rw [cut_false 32 hf] at to
                exact absurd to (text_ne ro)
            have f1 : (cut l [32]).2.2 = true := by
              cases hf : (cut l [32]).2.2 with
              | true => rfl
              | false =>
                rw [cut_false 32 hf] at f2
                exact absurd f2 (by decide)
            have e1 := cut_words hw f1
            have e2 := (cut_parts _ 32 f2).1
            obtain ⟨d1, _⟩ := rdW_some h1
            refine .doo w o hb ?_ ro hc.1 hc.2.1 hc.2.2
            rw [doL, to]
            conv => lhs; rw [e1, e2]
            rw [← d1]
            rfl
          · cases h
        · cases h
      · cases h
    · split at h
      · rename_i hw
        split at h
        · rename_i hb
          split at h
          · cases h
          · rename_i ks hk
            split at h
            · rename_i hc
              injection h with h
              subst h
              have hcc := nc 20 (by rw [hk]; rfl)
              obtain ⟨e1, e2, e3, _⟩ := rdNums_some hk
              refine .pick ks hb ?_ e2 e3 hc.1 hc.2.1 hc.2.2
              rw [pickL, ← e1]
              exact cut_words hw hcc
            · cases h
        · cases h
      · cases h
/-! ### the lines of what was read -/
theorem progL_app : ∀ (a b : List (List OpD)) (n : Nat), progL n (a ++ b) = progL n a ++ progL (n + a.length) b
  | [], b, n => by simp [progL]
  | x :: a, b, n => by
    rw [List.cons_append, progL, progL, progL_app a b (n + 1), List.append_assoc, List.length_cons]
    congr 3
    omega
theorem progL_empty : ∀ (m n : Nat), progL n (List.replicate m []) = []
  | 0, n => rfl
  | m + 1, n => by rw [List.replicate_succ, progL, progL_empty m (n + 1)]; rfl
theorem take_last {p : List (List OpD)} {w : Nat} (h : w + 1 = p.length) : p = p.take w ++ [p.getD w []] := by
  have hw : w < p.length := by omega
  have e : p.getD w [] = p[w] := by simp [hw]
  rw [e, ← List.take_succ_eq_append_getElem hw, h, List.take_length]
theorem progL_add {p : List (List OpD)} {w : Nat} (o : OpD) (h : p.length ≤ w + 1) : progL 0 (addOp p w o) = progL 0 p ++ [doL w o] := by
  unfold addOp
  split
  · rename_i he
    conv => rhs; rw [take_last he]
    rw [progL_app, progL_app]
    have : (p.take w).length = w := by rw [List.length_take]; omega
    rw [this]
    simp [progL]
  · rename_i he
    rw [progL_app, progL_app, progL_empty]
    have : 0 + (p ++ List.replicate (w - p.length) []).length = w := by simp; omega
    rw [this]
    simp [progL]
theorem add_length {p : List (List OpD)} {w : Nat} (o : OpD) (h : p.length ≤ w + 1) : (addOp p w o).length = w + 1 := by
  unfold addOp
  split
  · simp; omega
  · simp; omega
theorem chunks_app {ks : List Int} (h0 : 0 < ks.length) (h1 : ks.length ≤ 20) : ∀ (m : Nat) (a : List Int) (n n' : Nat), a.length = 20 * m → m + 1 < n → m < n' → chunks n (a ++ ks) = chunks n' a ++ [ks]
  | 0, a, n, n', ha, hn, hn' => by
    have : a = [] := List.length_eq_zero_iff.1 (by omega)
    subst this
    obtain ⟨n, rfl⟩ : ∃ k, n = k + 2 := ⟨n - 2, by omega⟩
    obtain ⟨n', rfl⟩ : ∃ k, n' = k + 1 := ⟨n' - 1, by omega⟩
    have hk : ks ≠ [] := fun e => by subst e; simp at h0
    rw [List.nil_append, chunks, if_neg hk, List.take_of_length_le h1, List.drop_eq_nil_of_le h1, chunks, if_pos rfl, chunks, if_pos rfl]
    rfl
  | m + 1, a, n, n', ha, hn, hn' => by
    obtain ⟨n, rfl⟩ : ∃ k, n = k + 1 := ⟨n - 1, by omega⟩
    obtain ⟨n', rfl⟩ : ∃ k, n' = k + 1 := ⟨n' - 1, by omega⟩
    have hk : ks ≠ [] := fun e => by subst e; simp at h0
    have hne : a ≠ [] := fun e => by subst e; simp at ha
    rw [chunks, if_neg (by simp [hne]), chunks, if_neg hne, List.take_append_of_le_length (by omega), List.drop_append_of_le_length (by omega)]
    rw [chunks_app h0 h1 m (a.drop 20) n n' (by rw [List.length_drop]; omega) (by omega) (by omega), List.cons_append]
theorem chunk_add {k ks : List Int} (h0 : 0 < ks.length) (h1 : ks.length ≤ 20) (hk : k.length % 20 = 0) : chunk (k ++ ks) = chunk k ++ [ks] :=
  chunks_app h0 h1 (k.length / 20) k _ _ (by omega) (by simp; omega) (by omega)
/-- What was read, and of which lines. -/
inductive Good : RdS → List (List UInt8) → Prop
  | none : Good st0 []
  | some (s : ScD) (b : List UInt8) : rightS s = true → (b = hallW ∨ b = doW → s.k = []) → (b = hallW ∨ b = doW ∨ b = pickW) → Good ⟨s, b⟩ (lines s)
theorem right_iff (s : ScD) : rightS s = true ↔ okC s.c = true ∧ (s.p.length : Int) ≤ s.c.ww ∧ s.k.length ≤ 2000 ∧ lastOk s.p = true ∧ (∀ l ∈ s.p, l.length ≤ 200 ∧ ∀ o ∈ l, right o = true) ∧ inR s.c s.k = true := by
  unfold rightS
  simp only [Bool.and_eq_true, decide_eq_true_eq, List.all_eq_true]
theorem ok_ww {c : Cfg} (h : okC c = true) : 1 ≤ c.ww ∧ c.ww ≤ 8 := by
  unfold okC chk at h
  split at h
  · cases h
  · split at h
    · cases h
    · rename_i h1 h2
      unfold Small at h1
      unfold Big at h2
      omega
theorem mem_add {p : List (List OpD)} {w : Nat} {o : OpD} {l : List OpD} (h : l ∈ addOp p w o) : l ∈ p ∨ l = [] ∨ l = p.getD w [] ++ [o] ∧ w + 1 = p.length ∨ l = [o] := by
  unfold addOp at h
  split at h
  · rename_i he
    rcases List.mem_append.1 h with h | h
    · exact .inl (List.mem_of_mem_take h)
    · exact .inr (.inr (.inl ⟨List.mem_singleton.1 h, he⟩))
  · rcases List.mem_append.1 h with h | h
    · rcases List.mem_append.1 h with h | h
      · exact .inl h
      · exact .inr (.inl (List.eq_of_mem_replicate h))
    · exact .inr (.inr (.inr (List.mem_singleton.1 h)))
theorem add_getD {p : List (List OpD)} {w : Nat} (o : OpD) (h : p.length ≤ w + 1) : (addOp p w o).getD w [] = (if w + 1 = p.length then p.getD w [] ++ [o] else [o]) := by
  unfold addOp
  split
  · rename_i he
    have : (p.take w).length = w := by rw [List.length_take]; omega
    rw [List.getD_eq_getElem?_getD, List.getElem?_append_right (by omega), this]
    simp
  · rename_i he
    have : (p ++ List.replicate (w - p.length) []).length = w := by simp; omega
    rw [List.getD_eq_getElem?_getD, List.getElem?_append_right (by omega), this]
    simp
theorem last_add {p : List (List OpD)} {w : Nat} (o : OpD) : lastOk (addOp p w o) = true := by
  have h : ∃ x, (addOp p w o).getLast? = some (x ++ [o]) := by
    unfold addOp
    split
    · exact ⟨p.getD w [], by rw [List.getLast?_append]; rfl⟩
    · exact ⟨[], by rw [List.getLast?_append]; rfl⟩
  obtain ⟨x, h⟩ := h
  unfold lastOk
  rw [h]
  simp
theorem step_good {st st' : RdS} {ls : List (List UInt8)} {l : List UInt8} (g : Good st ls) (h : Step st l st') : Good st' (ls ++ [l]) := by
  cases h with
  | hall c hb hl hok =>
    cases g with
    | none =>
      have hw := ok_ww hok
      subst hl
      refine .some ⟨c, [], []⟩ hallW ?_ (fun _ => rfl) (.inl rfl)
      rw [right_iff]
      exact ⟨hok, by simp; omega, by simp, rfl, by simp, rfl⟩
    | some s b hr hk hbb => rcases hbb with rfl | rfl | rfl <;> cases hb
  | doo w o hb hl ro hw hp h200 =>
    cases g with
    | none => rcases hb with hb | hb <;> cases hb
    | some s b hr hk hbb =>
      have hk0 := hk hb
      have e : lines { s with p := addOp s.p w o } = lines s ++ [l] := by
        subst hl
        simp only [lines, hk0, progL_add o hp]
        simp [chunk, chunks]
      rw [← e]
      refine .some { s with p := addOp s.p w o } doW ?_ (fun _ => hk0) (.inr (.inl rfl))
      rw [right_iff] at hr ⊢
      obtain ⟨r1, r2, r3, r4, r5, r6⟩ := hr
      refine ⟨r1, ?_, r3, last_add o, ?_, r6⟩
      · rw [add_length o hp]
        simp only at hw ⊢
        omega
      · intro x hx
        rw [add_getD o hp] at h200
        rcases mem_add hx with h | rfl | ⟨rfl, he⟩ | rfl
        · exact r5 x h
        · exact ⟨by simp, by simp⟩
        · rw [if_pos he] at h200
          refine ⟨h200, fun y hy => ?_⟩
          have hm : s.p.getD w [] ∈ s.p := by
            have hw : w < s.p.length := by have := he; omega
            have e : s.p.getD w [] = s.p[w] := by simp [hw]
            rw [e]
            exact List.getElem_mem hw
          rcases List.mem_append.1 hy with hy | hy
          · exact (r5 _ hm).2 y hy
          · rw [List.mem_singleton.1 hy]; exact ro
        · exact ⟨by simp, fun y hy => by rw [List.mem_singleton.1 hy]; exact ro⟩
  | pick ks hb hl h0 h20 hm h2000 hin =>
    cases g with
    | none => rcases hb with hb | hb | hb <;> cases hb
    | some s b hr hk hbb =>
      have e : lines { s with k := s.k ++ ks } = lines s ++ [l] := by
        subst hl
        simp only [lines, chunk_add h0 h20 hm]
        simp
      rw [← e]
      refine .some { s with k := s.k ++ ks } pickW ?_ (fun h => by rcases h with h | h <;> cases h) (.inr (.inr rfl))
      rw [right_iff] at hr ⊢
      obtain ⟨r1, r2, r3, r4, r5, r6⟩ := hr
      refine ⟨r1, r2, h2000, r4, r5, ?_⟩
      unfold inR at r6 hin ⊢
      rw [List.all_append, Bool.and_eq_true]
      exact ⟨r6, hin⟩
theorem feed_good : ∀ (ls' : List (List UInt8)) (ls : List (List UInt8)) (st st' : RdS), Good st ls → feed ls' st = some st' → Good st' (ls ++ ls')
  | [], ls, st, st', g, h => by
    injection h with h
    subst h
    rw [List.append_nil]
    exact g
  | l :: r, ls, st, st', g, h => by
    simp only [feed] at h
    cases hl : lineS l st with
    | none => rw [hl] at h; cases h
    | some s1 =>
      rw [hl, Option.bind_some] at h
      have := feed_good r (ls ++ [l]) s1 st' (step_good g (step_of hl)) h
      rwa [List.append_assoc, List.singleton_append] at this
/-- If a text is read, it is the text of what is read, which is right. -/
theorem parse_right {f : Nat} {t : List UInt8} {s : ScD} {k : Nat} (h : parseS f 1 t st0 = (some s, k)) : k = 0 ∧ rightS s = true ∧ textS s = t := by
  obtain ⟨rfl, ls, st', rfl, hne, hf, rfl⟩ := parse_some f 1 t st0 s k h
  have g := feed_good ls [] st0 st' .none hf
  rw [List.nil_append] at g
  cases g with
  | none => exact absurd rfl hne
  | some s b hr _ _ => exact ⟨rfl, hr, rfl⟩
end Go.Proofs.YtpmcedfeiconfaaGreatDoor.Scr

/- Layer 21, of no program: the lines of a right script are read, and give the script. -/
namespace Go.Proofs.YtpmcedfeiconfaaGreatDoor.Scr
open Go Go.Lib Go.Proofs.YtpmcedfeiconfaaGreatDoor.Opn Go.Proofs.YtpmcedfeiconfaaGreatDoor.Pl
set_option linter.unusedVariables false
set_option linter.unusedSimpArgs false
theorem ok_in {c : Cfg} (h : okC c = true) : ∀ k ∈ cfgL c, In63 k := by
  unfold okC chk at h
  split at h
  · cases h
  · split at h
    · cases h
    · rename_i h1 h2
      unfold Small at h1
      unfold Big at h2
      intro k hk
      simp only [cfgL, List.mem_cons, List.not_mem_nil, or_false] at hk
      unfold In63
      rcases hk with rfl | rfl | rfl | rfl | rfl | rfl | rfl | rfl <;> omega
theorem hall_line {c : Cfg} {st : RdS} (h : okC c = true) (hb : st.b = []) : lineS (hallL c) st = some ⟨{ st.s with c := c }, hallW⟩ := by
  have e : hallL c = hallW ++ 32 :: join (List.map dec (cfgL c)) [32] := by rw [hallL, cfgL, nums_join]
  have hc : cut (hallL c) [32] = (hallW, join (List.map dec (cfgL c)) [32], true) := by rw [e]; exact cut_hit (by decide)
  have hr : rdNums 8 (join (List.map dec (cfgL c)) [32]) = some (cfgL c) := rdNums_back (n := c.ww) (l := [c.sl, c.bl, c.wd, c.en, c.rk, c.bg, c.la]) (ok_in h) (by simp)
  unfold lineS
  rw [hc]
  simp only [if_true, hb, hr, Option.bind_some]
  have : cfgOf (cfgL c) = some c := rfl
  rw [this]
  simp only [h, if_true]
theorem do_line {w : Nat} {o : OpD} {st : RdS} (F : o.Fits) (ro : right o = true) (hb : st.b = hallW ∨ st.b = doW) (hw : (w : Int) < st.s.c.ww) (h8 : st.s.c.ww ≤ 8)
    (hp : st.s.p.length ≤ w + 1) (h200 : ((addOp st.s.p w o).getD w []).length ≤ 200) : lineS (doL w o) st = some ⟨{ st.s with p := addOp st.s.p w o }, doW⟩ := by
  have hc : cut (doL w o) [32] = (doW, dec w ++ 32 :: text o, true) := cut_hit (by decide)
  have hc2 : cut (dec w ++ 32 :: text o) [32] = (dec w, text o, true) := cut_hit (dec_no _)
  have hd : rdW (dec w) = some w := rdW_dec (n := w) (by omega)
  unfold lineS
  rw [hc]
  simp only [hc2, hd, parse_text F ro]
  rw [if_neg (by decide), if_pos trivial, if_pos hb, if_pos ⟨hw, hp, h200⟩]
theorem pick_line {ks : List Int} {st : RdS} (hb : st.b = hallW ∨ st.b = doW ∨ st.b = pickW) (h0 : 0 < ks.length) (h20 : ks.length ≤ 20) (hm : st.s.k.length % 20 = 0)
    (h2000 : (st.s.k ++ ks).length ≤ 2000) (h8 : st.s.c.ww ≤ 8) (hin : inR st.s.c ks = true) : lineS (pickL ks) st = some ⟨{ st.s with k := st.s.k ++ ks }, pickW⟩ := by
  obtain ⟨n, l, rfl⟩ : ∃ n l, ks = n :: l := by
    cases ks with
    | nil => simp at h0
    | cons n l => exact ⟨n, l, rfl⟩
  have hc : cut (pickL (n :: l)) [32] = (pickW, join (List.map dec (n :: l)) [32], true) := by rw [pickL, nums_join]; exact cut_hit (by decide)
  have hI : ∀ k ∈ n :: l, In63 k := fun k hk => by
    unfold inR at hin
    have := List.all_eq_true.1 hin k hk
    simp only [Bool.and_eq_true, decide_eq_true_eq] at this
    exact ⟨this.1, by omega⟩
  have hr : rdNums 20 (join (List.map dec (n :: l)) [32]) = some (n :: l) := rdNums_back hI (by simp at h20; omega)
  unfold lineS
  rw [hc]
  simp only [hr]
  rw [if_neg (by decide), if_neg (by decide), if_pos trivial, if_pos hb, if_pos ⟨hm, h2000, hin⟩]
/-! ### programs -/
def pad (n : Nat) (Q : List (List OpD)) : List (List OpD) := Q ++ List.replicate (n - Q.length) []
theorem pad_succ {w : Nat} {Q : List (List OpD)} (h : Q.length ≤ w) : pad (w + 1) Q = pad w Q ++ [[]] := by
  unfold pad
  rw [List.append_assoc, show w + 1 - Q.length = (w - Q.length) + 1 by omega, List.replicate_succ']
theorem pad_full {w : Nat} {Q : List (List OpD)} (h : Q.length = w) : pad w Q = Q := by
  unfold pad
  rw [h, Nat.sub_self]
  simp
theorem pad_length {w : Nat} {Q : List (List OpD)} (h : Q.length ≤ w) : (pad w Q).length = w := by
  unfold pad
  simp
  omega
theorem add_pad {w : Nat} {Q A : List (List OpD)} {d : List OpD} (o : OpD) (h : Q.length ≤ w + 1) (hA : A.length = w) (e : pad (w + 1) Q = A ++ [d]) : addOp Q w o = A ++ [d ++ [o]] := by
  unfold addOp
  split
  · rename_i he
    rw [pad_full he.symm] at e
    subst e
    have h1 : (A ++ [d]).take w = A := by rw [← hA, List.take_left']; rfl
    have h2 : (A ++ [d]).getD w [] = d := by rw [List.getD_eq_getElem?_getD, List.getElem?_append_right (by omega), hA]; simp
    rw [h1, h2]
  · rename_i he
    rw [pad_succ (by omega)] at e
    have := List.append_inj' e rfl
    obtain ⟨e1, e2⟩ := this
    injection e2 with e2 _
    subst e1 e2
    rfl
theorem feed_ops (c : Cfg) (h8 : c.ww ≤ 8) (w : Nat) (hw : (w : Int) < c.ww) (A : List (List OpD)) (hA : A.length = w) : ∀ (l : List OpD) (Q : List (List OpD)) (d : List OpD) (b : List UInt8),
    (b = hallW ∨ b = doW) → Q.length ≤ w + 1 → pad (w + 1) Q = A ++ [d] → d.length + l.length ≤ 200 → (∀ o ∈ l, o.Fits ∧ right o = true) →
    ∃ Q' b', feed (l.map (doL w)) ⟨⟨c, Q, []⟩, b⟩ = some ⟨⟨c, Q', []⟩, b'⟩ ∧ (b' = hallW ∨ b' = doW) ∧ Q'.length ≤ w + 1 ∧ pad (w + 1) Q' = A ++ [d ++ l]
  | [], Q, d, b, hb, hQ, e, h200, hF => ⟨Q, b, rfl, hb, hQ, by rw [List.append_nil]; exact e⟩
  | o :: l, Q, d, b, hb, hQ, e, h200, hF => by
    have e1 := add_pad o hQ hA e
    have el := add_length o hQ
    have hd : (addOp Q w o).getD w [] = d ++ [o] := by
      rw [e1, List.getD_eq_getElem?_getD, List.getElem?_append_right (by omega), hA]
      simp
    have hl := do_line (st := ⟨⟨c, Q, []⟩, b⟩) (hF o (by simp)).1 (hF o (by simp)).2 hb hw h8 hQ (by
      simp only [hd, List.length_append, List.length_cons, List.length_nil] at h200 ⊢
      omega)
    obtain ⟨Q', b', f1, f2, f3, f4⟩ := feed_ops c h8 w hw A hA l (addOp Q w o) (d ++ [o]) doW (.inr rfl) (by omega) (by rw [pad_full el, e1]) (by simp at h200 ⊢; omega) (fun y hy => hF y (by simp [hy]))
    refine ⟨Q', b', ?_, f2, f3, by rw [f4]; simp⟩
    rw [List.map_cons, feed, hl, Option.bind_some]
    exact f1
theorem feed_prog (c : Cfg) (h8 : c.ww ≤ 8) : ∀ (r : List (List OpD)) (w : Nat) (Q : List (List OpD)) (b : List UInt8),
    (b = hallW ∨ b = doW) → Q.length ≤ w → ((w + r.length : Nat) : Int) ≤ c.ww → (∀ l ∈ r, l.length ≤ 200 ∧ ∀ o ∈ l, o.Fits ∧ right o = true) →
    ∃ Q' b', feed (progL w r) ⟨⟨c, Q, []⟩, b⟩ = some ⟨⟨c, Q', []⟩, b'⟩ ∧ (b' = hallW ∨ b' = doW) ∧ Q'.length ≤ w + r.length ∧ pad (w + r.length) Q' = pad w Q ++ r
  | [], w, Q, b, hb, hQ, hw, hF => ⟨Q, b, rfl, hb, hQ, by rw [List.append_nil]; rfl⟩
  | l :: r, w, Q, b, hb, hQ, hw, hF => by
    have hl := hF l (by simp)
    obtain ⟨Q1, b1, f1, f2, f3, f4⟩ := feed_ops c h8 w (by simp at hw; omega) (pad w Q) (pad_length hQ) l Q [] b hb (by omega) (pad_succ hQ) (by simpa using hl.1) hl.2
    obtain ⟨Q2, b2, g1, g2, g3, g4⟩ := feed_prog c h8 r (w + 1) Q1 b1 f2 f3 (by simp at hw ⊢; omega) (fun x hx => hF x (by simp [hx]))
    refine ⟨Q2, b2, ?_, g2, by simp; omega, ?_⟩
    · rw [progL, feed_app, f1, Option.bind_some]
      exact g1
    · rw [List.length_cons, show w + (r.length + 1) = w + 1 + r.length by omega, g4, f4]
      simp
theorem feed_picks (c : Cfg) (p : List (List OpD)) (h8 : c.ww ≤ 8) : ∀ (n : Nat) (ks k : List Int) (b : List UInt8),
    (b = hallW ∨ b = doW ∨ b = pickW) → ks.length < n → k.length % 20 = 0 → (k ++ ks).length ≤ 2000 → inR c ks = true →
    ∃ b', feed ((chunks n ks).map pickL) ⟨⟨c, p, k⟩, b⟩ = some ⟨⟨c, p, k ++ ks⟩, b'⟩
  | 0, ks, k, b, hb, hn, hk, h2000, hin => by omega
  | n + 1, ks, k, b, hb, hn, hk, h2000, hin => by
    rw [chunks]
    by_cases h : ks = []
    · rw [if_pos h]
      subst h
      exact ⟨b, by rw [List.append_nil]; rfl⟩
    · rw [if_neg h]
      have hpos : 0 < ks.length := List.length_pos_iff.2 h
      have hin' : inR c (ks.take 20) = true ∧ inR c (ks.drop 20) = true := by
        unfold inR at hin ⊢
        rw [← List.take_append_drop 20 ks, List.all_append, Bool.and_eq_true] at hin
        exact hin
      have hl := pick_line (ks := ks.take 20) (st := ⟨⟨c, p, k⟩, b⟩) hb (by rw [List.length_take]; omega) (by rw [List.length_take]; omega) hk (by simp at h2000 ⊢; omega) h8 hin'.1
      rw [List.map_cons, feed, hl, Option.bind_some]
      by_cases h20 : 20 ≤ ks.length
      · obtain ⟨b', f⟩ := feed_picks c p h8 n (ks.drop 20) (k ++ ks.take 20) pickW (.inr (.inr rfl)) (by rw [List.length_drop]; omega) (by simp; omega) (by simp at h2000 ⊢; omega) hin'.2
        refine ⟨b', ?_⟩
        simp only at f ⊢
        rw [f, List.append_assoc, List.take_append_drop]
      · have hd : ks.drop 20 = [] := List.drop_eq_nil_of_le (by omega)
        have ht : ks.take 20 = ks := List.take_of_length_le (by omega)
        rw [hd, ht]
        refine ⟨pickW, ?_⟩
        cases n with
        | zero => rfl
        | succ n => rw [chunks, if_pos rfl]; rfl
def FitS (s : ScD) : Prop := ∀ l ∈ s.p, ∀ o ∈ l, o.Fits
theorem feed_lines {s : ScD} (hr : rightS s = true) (F : FitS s) : ∃ b, feed (lines s) st0 = some ⟨s, b⟩ := by
  rw [right_iff] at hr
  obtain ⟨r1, r2, r3, r4, r5, r6⟩ := hr
  have h8 := (ok_ww r1).2
  have e0 := hall_line (st := st0) r1 rfl
  obtain ⟨Q, b, f1, f2, f3, f4⟩ := feed_prog s.c h8 s.p 0 [] hallW (.inl rfl) (by simp) (by simpa using r2) (fun l hl => ⟨(r5 l hl).1, fun o ho => ⟨F l hl o ho, (r5 l hl).2 o ho⟩⟩)
  have eQ : Q = s.p := by
    have e : pad (0 + s.p.length) Q = s.p := by rw [f4]; rfl
    rw [Nat.zero_add] at e f3
    by_cases hl : Q.length = s.p.length
    · rw [pad_full hl] at e
      exact e
    · obtain ⟨m, hm⟩ : ∃ m, s.p.length = m + 1 := ⟨s.p.length - 1, by omega⟩
      rw [hm, pad_succ (by omega)] at e
      rw [← e] at r4
      unfold lastOk at r4
      rw [List.getLast?_append] at r4
      cases r4
  subst eQ
  obtain ⟨b', g⟩ := feed_picks s.c s.p h8 (s.k.length + 1) s.k [] b (by rcases f2 with h | h <;> simp [h]) (by omega) (by decide) (by simpa using r3) r6
  refine ⟨b', ?_⟩
  rw [lines, feed, e0, Option.bind_some, feed_app]
  simp only [st0] at f1 ⊢
  rw [f1, Option.bind_some]
  exact g
theorem feed_front {a r : List (List UInt8)} {st st' : RdS} (h : feed (a ++ r) st = some st') : ∃ s1, feed a st = some s1 := by
  rw [feed_app] at h
  cases ha : feed a st with
  | none => rw [ha] at h; cases h
  | some s1 => exact ⟨s1, rfl⟩
/-! ### no line has a line's end in it -/
theorem nums_no10 (l : List Int) : (10 : UInt8) ∉ numsT l := by
  unfold numsT
  intro h
  obtain ⟨x, h1, h2⟩ := List.mem_flatten.1 h
  obtain ⟨k, _, rfl⟩ := List.mem_map.1 h1
  rcases List.mem_cons.1 h2 with h2 | h2
  · cases h2
  · exact dec_no10 k h2
theorem name_no10 (k : Int) : (10 : UInt8) ∉ name k := by
  unfold name
  repeat' split
  all_goals decide
theorem tick_no10 (o : OpD) : (10 : UInt8) ∉ tick o := by
  unfold tick
  split
  · simp only [List.mem_cons, List.mem_append, not_or]
    exact ⟨by decide, dec_no10 _, by decide, dec_no10 _⟩
  · exact dec_no10 _
theorem join_no {c d : UInt8} (hd : c ≠ d) : ∀ (r : List (List UInt8)) (w : List UInt8), (∀ x ∈ w :: r, c ∉ x) → c ∉ join (w :: r) [d]
  | [], w, h => by rw [join_one]; exact h w (by simp)
  | y :: r, w, h => by
    have e : join (w :: y :: r) [d] = w ++ d :: join (y :: r) [d] := by
      rw [join_cons, join_cons]
      simp [joinTail]
    rw [e, List.mem_append, List.mem_cons, not_or, not_or]
    exact ⟨h w (by simp), hd, join_no hd r y (fun x hx => h x (List.mem_cons_of_mem _ hx))⟩
theorem text_no10 (o : OpD) : (10 : UInt8) ∉ text o := by
  unfold text words
  refine join_no (by decide) (parts o) (name o.k) fun x hx => ?_
  rcases List.mem_cons.1 hx with rfl | hx
  · exact name_no10 _
  · unfold parts at hx
    simp only [List.mem_append] at hx
    rcases hx with hx | hx | hx
    · split at hx
      · rw [List.mem_singleton.1 hx]; exact tick_no10 o
      · cases hx
    · split at hx
      · rw [List.mem_singleton.1 hx]; exact dec_no10 _
      · cases hx
    · split at hx
      · rw [List.mem_singleton.1 hx]; exact dec_no10 _
      · cases hx
theorem do_no10 (w : Nat) (o : OpD) : (10 : UInt8) ∉ doL w o := by
  unfold doL
  simp only [List.mem_append, List.mem_cons, not_or]
  exact ⟨by decide, by decide, dec_no10 _, by decide, text_no10 o⟩
theorem prog_no10 : ∀ (p : List (List OpD)) (w : Nat), ∀ l ∈ progL w p, (10 : UInt8) ∉ l
  | [], w, l, h => by cases h
  | x :: p, w, l, h => by
    rw [progL, List.mem_append] at h
    rcases h with h | h
    · obtain ⟨o, _, rfl⟩ := List.mem_map.1 h
      exact do_no10 w o
    · exact prog_no10 p (w + 1) l h
theorem lines_no10 (s : ScD) : ∀ l ∈ lines s, (10 : UInt8) ∉ l := fun l h => by
  rw [lines, List.mem_cons, List.mem_append] at h
  rcases h with rfl | h | h
  · unfold hallL
    rw [List.mem_append, not_or]
    exact ⟨by decide, nums_no10 _⟩
  · exact prog_no10 s.p 0 l h
  · obtain ⟨k, _, rfl⟩ := List.mem_map.1 h
    unfold pickL
    rw [List.mem_append, not_or]
    exact ⟨by decide, nums_no10 _⟩
theorem line_ne {s : ScD} : ∀ l ∈ lines s, l ≠ [] := fun l h e => by
  subst e
  rw [lines, List.mem_cons, List.mem_append] at h
  rcases h with h | h | h
  · simp [hallL] at h
  · have : ∀ (p : List (List OpD)) (w : Nat), [] ∉ progL w p := by
      intro p
      induction p with
      | nil => intro w h; cases h
      | cons x p ih =>
        intro w h
        rw [progL, List.mem_append] at h
        rcases h with h | h
        · obtain ⟨o, _, he⟩ := List.mem_map.1 h
          simp [doL] at he
        · exact ih _ h
    exact this _ _ h
  · obtain ⟨k, _, he⟩ := List.mem_map.1 h
    simp [pickL] at he
/-! ### what the laws ask of the loop -/
theorem textS_endl (s : ScD) : textS s = endl (lines s) := rfl
/-- The text of a right script is read, and gives the script. -/
theorem parse_back {s : ScD} (hr : rightS s = true) (F : FitS s) {f : Nat} (hf : (lines s).length ≤ f) : parseS f 1 (textS s) st0 = (some s, 0) := by
  obtain ⟨b, h⟩ := feed_lines hr F
  rw [textS_endl]
  exact parse_ok (lines s) f 1 st0 ⟨s, b⟩ (by simp [lines]) (lines_no10 s) hf h
abbrev walkL : List UInt8 := [119, 97, 108, 107, 32, 49]
theorem walk_none (st : RdS) : lineS walkL st = none := by
  have e : cut walkL [32] = ([119, 97, 108, 107], [49], true) := cut_hit (a := [119, 97, 108, 107]) (r := [49]) (by decide)
  unfold lineS
  rw [e]
  rw [if_neg (by decide), if_neg (by decide), if_neg (by decide)]
theorem where_bad {s : ScD} (hr : rightS s = true) (F : FitS s) {k : Nat} (hk : k < (lines s).length) {f : Nat} (hf : (lines s).length ≤ f) :
    parseS f 1 (endl ((lines s).set k walkL)) st0 = (none, k + 1) := by
  obtain ⟨b, h⟩ := feed_lines hr F
  have e : lines s = (lines s).take k ++ (lines s).drop k := (List.take_append_drop _ _).symm
  rw [e] at h
  obtain ⟨s1, h1⟩ := feed_front h
  rw [List.set_eq_take_append_cons_drop, if_pos hk]
  have := parse_bad ((lines s).take k) walkL ((lines s).drop (k + 1)) f 1 st0 s1 (fun x hx => lines_no10 s x (List.mem_of_mem_take hx)) (by decide) (by rw [List.length_take]; omega) h1 (walk_none s1)
  rw [this, List.length_take]
  simp only [Prod.mk.injEq, true_and]
  omega
theorem where_front {s : ScD} (hr : rightS s = true) (F : FitS s) {k : Nat} (h0 : 0 < k) (hk : k < (lines s).length) {f : Nat} (hf : (lines s).length ≤ f) :
    ∃ s', parseS f 1 (endl ((lines s).take k)) st0 = (some s', 0) := by
  obtain ⟨b, h⟩ := feed_lines hr F
  have e : lines s = (lines s).take k ++ (lines s).drop k := (List.take_append_drop _ _).symm
  rw [e] at h
  obtain ⟨s1, h1⟩ := feed_front h
  refine ⟨s1.s, parse_ok _ f 1 st0 s1 (fun hn => ?_) (fun x hx => lines_no10 s x (List.mem_of_mem_take hx)) (by rw [List.length_take]; omega) h1⟩
  have := congrArg List.length hn
  rw [List.length_take, List.length_nil] at this
  omega
theorem where_none {f : Nat} (hf : 0 < f) : parseS f 1 [] st0 = (none, 1) := by
  obtain ⟨f, rfl⟩ : ∃ k, f = k + 1 := ⟨f - 1, by omega⟩
  rw [parseS, cut_none (by simp)]
  simp
theorem where_open {s : ScD} (hr : rightS s = true) (F : FitS s) {f : Nat} (hf : (lines s).length ≤ f) : parseS f 1 (textS s).dropLast st0 = (none, (lines s).length) := by
  obtain ⟨b, h⟩ := feed_lines hr F
  have hne : lines s ≠ [] := by simp [lines]
  have e : lines s = (lines s).dropLast ++ [(lines s).getLast hne] := (List.dropLast_concat_getLast hne).symm
  have hlen := congrArg List.length e
  simp only [List.length_append, List.length_cons, List.length_nil] at hlen
  have et : (textS s).dropLast = endl (lines s).dropLast ++ (lines s).getLast hne := by
    rw [textS_endl]
    conv => lhs; rw [e]
    have : endl ((lines s).dropLast ++ [(lines s).getLast hne]) = (endl (lines s).dropLast ++ (lines s).getLast hne) ++ [10] := by simp [endl]
    rw [this, List.dropLast_concat]
  rw [e] at h
  obtain ⟨s1, h1⟩ := feed_front h
  have hm := List.getLast_mem hne
  rw [et, parse_open (lines s).dropLast _ f 1 st0 s1 (fun x hx => lines_no10 s x (List.dropLast_subset _ hx)) (lines_no10 s _ hm) (.inl (line_ne _ hm)) (by omega) h1]
  simp only [Prod.mk.injEq, true_and]
  omega
end Go.Proofs.YtpmcedfeiconfaaGreatDoor.Scr
