/- Layer 12, of no program: the text of an operation and what is read back from it. -/
import Derived.Lib.ParseIntBCases
import Derived.Lib.IndexMore
import Derived.Lib.IndexBytes
import Derived.Lib.ItoaNum
import Derived.Lib.Join
namespace Go.Proofs.YtpmcedfeiconfaaGreatDoor.Opn
open Go Go.Lib
set_option linter.unusedSimpArgs false
set_option linter.unusedVariables false
structure OpD where
  k : Int
  t : Int
  x : Int
  s : Int
  u : Bool
  b : Int
  n : Int
  deriving DecidableEq
def OpD.zero : OpD := ⟨0, 0, 0, 0, false, 0, 0⟩
/-- The fields fit their types. -/
structure OpD.Fits (o : OpD) : Prop where
  k : -9223372036854775808 ≤ o.k ∧ o.k ≤ 9223372036854775807
  t : 0 ≤ o.t ∧ o.t ≤ 18446744073709551615
  x : 0 ≤ o.x ∧ o.x ≤ 18446744073709551615
  s : -9223372036854775808 ≤ o.s ∧ o.s ≤ 9223372036854775807
  b : -9223372036854775808 ≤ o.b ∧ o.b ≤ 9223372036854775807
  n : -9223372036854775808 ≤ o.n ∧ o.n ≤ 9223372036854775807
def name (k : Int) : List UInt8 :=
  if k = 1 then [112, 105, 110] else if k = 2 then [117, 110, 112, 105, 110] else if k = 7 then [112, 101, 101, 107] else if k = 8 then [99, 111, 108, 108, 101, 99, 116]
  else if k = 3 then [97, 108, 108, 111, 99] else if k = 4 then [102, 114, 101, 101] else if k = 6 then [100, 101, 114, 101, 102] else if k = 5 then [119, 114, 105, 116, 101]
  else if k = 9 then [100, 114, 97, 105, 110] else []
def isKind (k : Int) : Bool := decide (1 ≤ k ∧ k ≤ 9)
def askB (k : Int) : Bool := k == 4 || k == 5 || k == 6
def numB (k : Int) : Bool := k == 3 || k == 5
def slabB (k : Int) : Bool := k == 9
def rightTk (o : OpD) : Bool :=
  if askB o.k = false then o.t == 0 && !o.u && o.b == 0 && o.n == 0
  else if o.u then o.t == 0 && decide (0 ≤ o.b) && decide (0 ≤ o.n) else o.b == 0 && o.n == 0
def right (o : OpD) : Bool := isKind o.k && (rightTk o && ((numB o.k || o.x == 0) && (o.s == 0 || (slabB o.k && decide (0 < o.s)))))
def dec (i : Int) : List UInt8 := decDigits i.toNat
def tick (o : OpD) : List UInt8 := if o.u then 64 :: (dec o.b ++ 46 :: dec o.n) else dec o.t
def parts (o : OpD) : List (List UInt8) := (if askB o.k then [tick o] else []) ++ ((if numB o.k then [dec o.x] else []) ++ (if slabB o.k then [dec o.s] else []))
def words (o : OpD) : List (List UInt8) := name o.k :: parts o
def text (o : OpD) : List UInt8 := join (words o) [32]
/-! ### what is read -/
def splitL : Nat → List UInt8 → List (List UInt8)
  | 0, _ => []
  | n + 1, s => (cut s [32]).1 :: (if (cut s [32]).2.2 = false ∨ n = 0 then [] else splitL n (cut s [32]).2.1)
def rdN (B : Nat) (l : List UInt8) : Option Nat := match parseUintB B l with | .ok v => some v | _ => none
/-- the ticket's fields: T, Use, By, Nth -/
def rdT (l : List UInt8) : Option (Int × Bool × Int × Int) :=
  if [64].isPrefixOf l then
    if (cut (l.drop 1) [46]).2.2 then
      match rdN 63 (cut (l.drop 1) [46]).1, rdN 63 (cut (l.drop 1) [46]).2.1 with
      | some b, some n => some (0, true, (b : Int), (n : Int))
      | _, _ => none
    else none
  else match rdN 64 l with | some v => some ((v : Int), false, 0, 0) | none => none
def kinds : List Int := [1, 2, 7, 8, 3, 4, 6, 5, 9]
def find (l : List UInt8) : Option Int := kinds.find? (fun k => name k == l)
def stepT (p : List UInt8) (o : OpD) : Option OpD := match rdT p with | some (t, u, b, n) => some { o with t := t, u := u, b := b, n := n } | none => none
def stepX (p : List UInt8) (o : OpD) : Option OpD := match rdN 64 p with | some v => some { o with x := (v : Int) } | none => none
def stepS (p : List UInt8) (o : OpD) : Option OpD := match rdN 63 p with | some v => some { o with s := (v : Int) } | none => none
/-- which parts a kind has: 0: ticket, 1: number, 2: slab -/
def pts (k : Int) : List Nat := (if askB k then [0] else []) ++ ((if numB k then [1] else []) ++ (if slabB k then [2] else []))
def stepP : Nat → List UInt8 → OpD → Option OpD
  | 0, p, o => stepT p o
  | 1, p, o => stepX p o
  | _, p, o => stepS p o
def runP : List Nat → List (List UInt8) → OpD → Option OpD
  | i :: r, p :: q, o => (stepP i p o).bind (runP r q)
  | _, _, o => some o
def readL (l : List (List UInt8)) : Option OpD :=
  match l with
  | [] => none
  | h :: r => match find h with
    | none => none
    | some k => if r.length = (pts k).length then runP (pts k) r { OpD.zero with k := k } else none
def parseL (s : List UInt8) : Option OpD := match readL (splitL 4 s) with | none => none | some o => if right o && text o == s then some o else none
/-! ### cutting -/
theorem cut_none {a : List UInt8} {c : UInt8} (h : c ∉ a) : cut a [c] = (a, [], false) := by
  have hi : index a [c] = -1 := index_none fun j hj => by
    cases hd : a.drop j with
    | nil => simp [occAt, hd]
    | cons y l =>
      have hm : y ∈ a := List.mem_of_mem_drop (by rw [hd]; exact List.mem_cons_self)
      have : ¬ c = y := fun e => h (e ▸ hm)
      simp [occAt, hd, List.isPrefixOf, this]
  unfold cut
  rw [hi, if_neg (by decide)]
theorem cut_hit {a r : List UInt8} {c : UInt8} (h : c ∉ a) : cut (a ++ c :: r) [c] = (a, r, true) := by
  have hi : index (a ++ c :: r) [c] = a.length := index_first (by simp) (by simp [occAt]) fun j hj => by
    have hd : (a ++ c :: r).drop j = a[j] :: (a.drop (j + 1) ++ c :: r) := by
      rw [List.drop_append_of_le_length (by omega), List.drop_eq_getElem_cons hj]; rfl
    have : ¬ c = a[j] := fun e => h (e ▸ List.getElem_mem hj)
    simp [occAt, hd, List.isPrefixOf, this]
  unfold cut
  rw [hi, if_pos (by omega)]
  have e : ((a.length : Int)).toNat = a.length := by omega
  rw [e]
  simp
/-! ### digits -/
theorem dec_digit : ∀ (u : Nat), ∀ c ∈ decDigits u, 48 ≤ c.toNat ∧ c.toNat ≤ 57 := by
  intro u
  induction u using Nat.strongRecOn with
  | _ u ih =>
    intro c hc
    rw [decDigits] at hc
    have hx : ∀ d, d < 10 → 48 ≤ (UInt8.ofNat (48 + d)).toNat ∧ (UInt8.ofNat (48 + d)).toNat ≤ 57 := by
      intro d hd
      have : (UInt8.ofNat (48 + d)).toNat = 48 + d := by simp; omega
      omega
    by_cases h : u < 10
    · rw [dif_pos h] at hc
      simp only [List.mem_singleton] at hc
      rw [hc]
      exact hx u h
    · rw [dif_neg h] at hc
      rcases List.mem_append.mp hc with h' | h'
      · exact ih _ (by omega) c h'
      · simp only [List.mem_singleton] at h'
        rw [h']
        exact hx _ (by omega)
theorem dec_not {u : Nat} {c : UInt8} (h : c.toNat < 48) : c ∉ decDigits u := fun hc => by have := (dec_digit u c hc).1; omega
theorem dec_ne (u : Nat) : decDigits u ≠ [] := fun h => by have := decDigits_length u; rw [h] at this; have := nDigits_pos u; simp at *; omega
theorem parseM_app (M : Nat) : ∀ (l r : List UInt8) (acc v : Nat), parseUintM M acc l = .ok v → parseUintM M acc (l ++ r) = parseUintM M v r
  | [], r, acc, v, h => by
    simp only [parseUintM] at h
    injection h with h
    rw [h]; rfl
  | c :: l, r, acc, v, h => by
    simp only [List.cons_append, parseUintM] at h ⊢
    split at h
    · split at h
      · cases h
      · split at h
        · cases h
        · rw [if_pos (by assumption), if_neg (by assumption), if_neg (by assumption)]
          exact parseM_app M l r _ v h
    · cases h
theorem parse_dec (M : Nat) (hM : M ≤ 18446744073709551615) : ∀ u, u ≤ M → parseUintM M 0 (decDigits u) = .ok u := by
  intro u
  induction u using Nat.strongRecOn with
  | _ u ih =>
    intro hu
    have hx : ∀ d, d < 10 → (UInt8.ofNat (48 + d)).toNat = 48 + d := by intro d hd; simp; omega
    rw [decDigits]
    by_cases h : u < 10
    · rw [dif_pos h]
      simp only [parseUintM]
      rw [hx u h, if_pos (by omega), if_neg (by omega), if_neg (by omega)]
      congr 1; omega
    · rw [dif_neg h, parseM_app M _ _ 0 (u / 10) (ih (u / 10) (by omega) (by omega))]
      simp only [parseUintM]
      rw [hx _ (by omega), if_pos (by omega), if_neg (by omega), if_neg (by omega)]
      congr 1; omega
theorem rd_dec {B : Nat} (hB : 2 ^ B - 1 ≤ 18446744073709551615) {u : Nat} (h : u ≤ 2 ^ B - 1) : rdN B (decDigits u) = some u := by
  unfold rdN parseUintB
  rw [if_neg (dec_ne u), parse_dec _ hB u h]
/-! ### back -/
theorem name_no (k : Int) : (32 : UInt8) ∉ name k := by
  unfold name
  repeat' split
  all_goals decide
theorem find_name {k : Int} (h : isKind k = true) : find (name k) = some k := by
  have h' : 1 ≤ k ∧ k ≤ 9 := by simpa [isKind] using h
  have : k = 1 ∨ k = 2 ∨ k = 3 ∨ k = 4 ∨ k = 5 ∨ k = 6 ∨ k = 7 ∨ k = 8 ∨ k = 9 := by omega
  rcases this with rfl | rfl | rfl | rfl | rfl | rfl | rfl | rfl | rfl <;> decide
theorem split_join : ∀ (n : Nat) (w : List UInt8) (r : List (List UInt8)), (∀ x ∈ w :: r, (32 : UInt8) ∉ x) → r.length ≤ n → splitL (n + 1) (join (w :: r) [32]) = w :: r
  | n, w, [], h, hn => by
    have hw := h w (by simp)
    rw [join_one]
    unfold splitL
    rw [cut_none hw]
    simp
  | 0, w, y :: r, h, hn => by simp at hn
  | n + 1, w, y :: r, h, hn => by
    have hw := h w (by simp)
    have hj : join (w :: y :: r) [32] = w ++ 32 :: join (y :: r) [32] := by
      rw [join_cons, join_cons]
      simp [joinTail]
    rw [hj]
    unfold splitL
    rw [cut_hit hw]
    simp only [Bool.true_eq_false, Nat.add_eq_zero_iff, Nat.one_ne_zero, and_false, or_self, if_false]
    rw [split_join n y r (fun x hx => h x (List.mem_cons_of_mem _ hx)) (by simp at hn; omega)]
theorem rd_tick {o : OpD} (F : o.Fits) (h : right o = true) (ha : askB o.k = true) : rdT (tick o) = some (o.t, o.u, o.b, o.n) ∧ (32 : UInt8) ∉ tick o := by
  have hr : rightTk o = true := by
    simp only [right, Bool.and_eq_true] at h
    exact h.2.1
  rw [rightTk, ha] at hr
  simp only [Bool.true_eq_false, if_false] at hr
  unfold tick
  obtain ⟨k, t, x, s, u, b, n⟩ := o
  cases u
  · simp only [Bool.false_eq_true, if_false, Bool.and_eq_true, beq_iff_eq] at hr ⊢
    obtain ⟨hb, hn⟩ := hr
    have ht := F.t
    simp only at ht
    refine ⟨?_, dec_not (by decide)⟩
    have hp : [64].isPrefixOf (dec t) = false := by
      cases hd : dec t with
      | nil => rfl
      | cons y l =>
        have := (dec_digit t.toNat y (by show y ∈ dec t; rw [hd]; simp)).1
        have hy : ¬ (64 : UInt8) = y := fun e => by
          have := (dec_digit t.toNat y (by show y ∈ dec t; rw [hd]; simp)).2
          rw [← e] at this
          simp at this
        simp [List.isPrefixOf, hy]
    have hd : rdN 64 (dec t) = some t.toNat := rd_dec (by decide) (by omega)
    unfold rdT
    rw [hp, hd]
    simp only [Bool.false_eq_true, if_false]
    rw [hb, hn]
    congr 2
    omega
  · simp only [if_true, Bool.and_eq_true, beq_iff_eq, decide_eq_true_eq] at hr ⊢
    obtain ⟨⟨ht, hb⟩, hn⟩ := hr
    have h1 := F.b
    have h2 := F.n
    simp only at h1 h2
    refine ⟨?_, ?_⟩
    · have hp : [64].isPrefixOf (64 :: (dec b ++ 46 :: dec n)) = true := by simp [List.isPrefixOf]
      have hc : cut ((64 :: (dec b ++ 46 :: dec n)).drop 1) [46] = (dec b, dec n, true) := by
        simp only [List.drop_succ_cons, List.drop_zero]
        exact cut_hit (dec_not (by decide))
      have hd1 : rdN 63 (dec b) = some b.toNat := rd_dec (by decide) (by omega)
      have hd2 : rdN 63 (dec n) = some n.toNat := rd_dec (by decide) (by omega)
      unfold rdT
      rw [hp, hc]
      simp only [if_true]
      rw [hd1, hd2, ht]
      simp only [Option.some.injEq, Prod.mk.injEq, true_and]
      omega
    · simp only [List.mem_cons, List.mem_append, not_or]
      exact ⟨by decide, dec_not (by decide), by decide, dec_not (by decide)⟩
theorem parts_no {o : OpD} (F : o.Fits) (h : right o = true) : ∀ x ∈ parts o, (32 : UInt8) ∉ x := by
  intro x hx
  unfold parts at hx
  rcases List.mem_append.mp hx with h1 | h1
  · by_cases ha : askB o.k = true
    · rw [if_pos ha] at h1
      simp only [List.mem_singleton] at h1
      rw [h1]
      exact (rd_tick F h ha).2
    · rw [if_neg ha] at h1; cases h1
  · rcases List.mem_append.mp h1 with h2 | h2
    · split at h2
      · simp only [List.mem_singleton] at h2
        rw [h2]
        exact dec_not (by decide)
      · cases h2
    · split at h2
      · simp only [List.mem_singleton] at h2
        rw [h2]
        exact dec_not (by decide)
      · cases h2
theorem read_words {o : OpD} (F : o.Fits) (h : right o = true) : readL (words o) = some o := by
  have hk : isKind o.k = true := by simp only [right, Bool.and_eq_true] at h; exact h.1
  have hx := F.x
  have hs := F.s
  have h' := h
  simp only [right, Bool.and_eq_true, Bool.or_eq_true, beq_iff_eq, decide_eq_true_eq] at h'
  obtain ⟨-, hrt, hxx, hss⟩ := h'
  have hT := rd_tick F h
  unfold words readL
  simp only
  rw [find_name hk]
  simp only
  have h9 : 1 ≤ o.k ∧ o.k ≤ 9 := by simpa [isKind] using hk
  have hX : rdN 64 (dec o.x) = some o.x.toNat := rd_dec (by decide) (by omega)
  have hS : 0 ≤ o.s → rdN 63 (dec o.s) = some o.s.toNat := fun h0 => rd_dec (by decide) (by omega)
  obtain ⟨k, t, x, s, u, b, n⟩ := o
  simp only at h9 hX hS hx hs hxx hss hT hrt ⊢
  unfold rightTk at hrt
  simp only at hrt
  have : k = 1 ∨ k = 2 ∨ k = 3 ∨ k = 4 ∨ k = 5 ∨ k = 6 ∨ k = 7 ∨ k = 8 ∨ k = 9 := by omega
  rcases this with rfl | rfl | rfl | rfl | rfl | rfl | rfl | rfl | rfl
  all_goals simp (config := { decide := true }) only [askB, numB, slabB, if_true, if_false, Bool.and_eq_true, beq_iff_eq, Bool.not_eq_true', false_or, or_false, true_or, false_and, or_true, true_and, decide_eq_true_eq, Bool.false_eq_true] at hrt hxx hss hT
  · obtain ⟨⟨⟨rfl, rfl⟩, rfl⟩, rfl⟩ := hrt; subst hxx; subst hss; rfl
  · obtain ⟨⟨⟨rfl, rfl⟩, rfl⟩, rfl⟩ := hrt; subst hxx; subst hss; rfl
  · obtain ⟨⟨⟨rfl, rfl⟩, rfl⟩, rfl⟩ := hrt; subst hss
    have e : parts ⟨3, 0, x, 0, false, 0, 0⟩ = [dec x] := rfl
    have e2 : pts 3 = [1] := rfl
    rw [e, e2]
    simp only [List.length_singleton, if_true, runP, stepP, stepX, hX, Option.bind_some, OpD.zero]
    simp only [Option.some.injEq, OpD.mk.injEq, true_and, and_true]
    omega
  · subst hxx; subst hss
    have e : parts ⟨4, t, 0, 0, u, b, n⟩ = [tick ⟨4, t, 0, 0, u, b, n⟩] := rfl
    have e2 : pts 4 = [0] := rfl
    rw [e, e2]
    simp only [List.length_singleton, if_true, runP, stepP, stepT, (hT trivial).1, Option.bind_some, OpD.zero]
  · subst hss
    have e : parts ⟨5, t, x, 0, u, b, n⟩ = [tick ⟨5, t, x, 0, u, b, n⟩, dec x] := rfl
    have e2 : pts 5 = [0, 1] := rfl
    rw [e, e2]
    simp only [List.length_cons, List.length_nil, if_true, runP, stepP, stepT, stepX, (hT trivial).1, hX, Option.bind_some, OpD.zero]
    simp only [Option.some.injEq, OpD.mk.injEq, true_and, and_true]
    omega
  · subst hxx; subst hss
    have e : parts ⟨6, t, 0, 0, u, b, n⟩ = [tick ⟨6, t, 0, 0, u, b, n⟩] := rfl
    have e2 : pts 6 = [0] := rfl
    rw [e, e2]
    simp only [List.length_singleton, if_true, runP, stepP, stepT, (hT trivial).1, Option.bind_some, OpD.zero]
  · obtain ⟨⟨⟨rfl, rfl⟩, rfl⟩, rfl⟩ := hrt; subst hxx; subst hss; rfl
  · obtain ⟨⟨⟨rfl, rfl⟩, rfl⟩, rfl⟩ := hrt; subst hxx; subst hss; rfl
  · obtain ⟨⟨⟨rfl, rfl⟩, rfl⟩, rfl⟩ := hrt; subst hxx
    have e : parts ⟨9, 0, 0, s, false, 0, 0⟩ = [dec s] := rfl
    have e2 : pts 9 = [2] := rfl
    have h0 : 0 ≤ s := by omega
    rw [e, e2]
    simp only [List.length_singleton, if_true, runP, stepP, stepS, hS h0, Option.bind_some, OpD.zero]
    simp only [Option.some.injEq, OpD.mk.injEq, true_and, and_true]
    omega
theorem parts_len (o : OpD) : (parts o).length ≤ 3 := by
  unfold parts
  split <;> split <;> split <;> simp
/-- What is written is read back. -/
theorem parse_text {o : OpD} (F : o.Fits) (h : right o = true) : parseL (text o) = some o := by
  unfold parseL text words
  have hs := split_join 3 (name o.k) (parts o) (fun x hx => by
    rcases List.mem_cons.mp hx with h1 | h1
    · rw [h1]; exact name_no _
    · exact parts_no F h x h1) (parts_len o)
  rw [hs]
  have hr := read_words F h
  unfold words at hr
  rw [hr]
  simp only
  rw [if_pos]
  rw [h]
  simp [text, words]
theorem parse_some {s : List UInt8} {o : OpD} (h : parseL s = some o) : right o = true ∧ text o = s := by
  unfold parseL at h
  split at h
  · cases h
  · split at h
    · injection h with h
      subst h
      simp_all
    · cases h
theorem text_inj {a b : OpD} (Fa : a.Fits) (Fb : b.Fits) (ha : right a = true) (hb : right b = true) (h : text a = text b) : a = b := by
  have h1 := parse_text Fa ha
  rw [h, parse_text Fb hb] at h1
  injection h1 with h1
  exact h1.symm
theorem text_ne {o : OpD} (h : right o = true) : text o ≠ [] := by
  have hk : isKind o.k = true := by simp only [right, Bool.and_eq_true] at h; exact h.1
  have h9 : 1 ≤ o.k ∧ o.k ≤ 9 := by simpa [isKind] using hk
  unfold text words
  rw [join_cons]
  have : name o.k ≠ [] := by
    generalize o.k = k at h9
    have : k = 1 ∨ k = 2 ∨ k = 3 ∨ k = 4 ∨ k = 5 ∨ k = 6 ∨ k = 7 ∨ k = 8 ∨ k = 9 := by omega
    rcases this with rfl | rfl | rfl | rfl | rfl | rfl | rfl | rfl | rfl <;> decide
  simp [this]
end Go.Proofs.YtpmcedfeiconfaaGreatDoor.Opn
