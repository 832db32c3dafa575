/- The contracts of the law's own helpers great and awake. -/
import Derived.Test.YtgpdkagmacpghaaIdealStep
namespace Go.Proofs.Ytgpdkagmacpghaa.Idl
open Go Go.RowKit Go.Proofs.Ytgpdkagmacpghaa.Mr Go.ChangeMaps
set_option linter.unusedVariables false
set_option linter.unusedSimpArgs false

/-- The ten cells of an answer in memory, and the words that its Read holds. -/
structure AnsAt (w : World) (b o : Nat) (a : Ans) (xs : List Int) : Prop where
  c0 : w.cell? ⟨b, o, none⟩ = some (.int .i64 a.kind)
  c1 : w.cell? ⟨b, o + 1, none⟩ = some (.int .u64 a.ot)
  c2 : w.cell? ⟨b, o + 2, none⟩ = some (.int .u64 a.x)
  c3 : w.cell? ⟨b, o + 3, none⟩ = some (.int .i64 a.slab)
  c4 : w.cell? ⟨b, o + 4, none⟩ = some (.bool a.use)
  c5 : w.cell? ⟨b, o + 5, none⟩ = some (.int .i64 a.by_)
  c6 : w.cell? ⟨b, o + 6, none⟩ = some (.int .i64 a.nth)
  c7 : w.cell? ⟨b, o + 7, none⟩ = some (.int .u64 a.t)
  c8 : w.cell? ⟨b, o + 8, none⟩ = some (.int .i64 a.ret)
  c9 : w.cell? ⟨b, o + 9, none⟩ = some a.read
  read : SlI w a.read xs
theorem AnsAt.below {w w' : World} {b o : Nat} {a : Ans} {xs : List Int} (h : AnsAt w b o a xs) (hb : Below w.heap.size w w') : AnsAt w' b o a xs := by
  have hl := cell_lt h.c0
  have e : ∀ i, w'.cell? ⟨b, i, none⟩ = w.cell? ⟨b, i, none⟩ := fun i => hb.cell (p := ⟨b, i, none⟩) hl
  exact ⟨(e _).trans h.c0, (e _).trans h.c1, (e _).trans h.c2, (e _).trans h.c3, (e _).trans h.c4, (e _).trans h.c5, (e _).trans h.c6, (e _).trans h.c7, (e _).trans h.c8, (e _).trans h.c9, h.read.below hb⟩

def gr (n : Nat) (A : Nat → Ans × List Int) : Bool := decide (60 < n) || (List.range n).any fun i => decide (10 < (A i).2.length)
theorem gr_big {n : Nat} {A : Nat → Ans × List Int} (h : 60 < n) : gr n A = true := by simp [gr, h]
theorem gr_long {n : Nat} {A : Nat → Ans × List Int} {i : Nat} (hi : i < n) (h : 10 < (A i).2.length) : gr n A = true := by
  have : ((List.range n).any fun i => decide (10 < (A i).2.length)) = true := List.any_eq_true.2 ⟨i, List.mem_range.2 hi, by simpa using h⟩
  simp [gr, this]
theorem gr_no {n : Nat} {A : Nat → Ans × List Int} (h : ¬ 60 < n) (h' : ∀ i, i < n → (A i).2.length ≤ 10) : gr n A = false := by
  have : ((List.range n).any fun i => decide (10 < (A i).2.length)) = false := by
    rw [List.any_eq_false]
    intro i hi
    have := h' i (List.mem_range.1 hi)
    simp; omega
  simp [gr, this]; omega
theorem gr_false {n : Nat} {A : Nat → Ans × List Int} (h : gr n A = false) : n ≤ 60 ∧ ∀ i, i < n → (A i).2.length ≤ 10 := by
  simp only [gr, Bool.or_eq_false_iff, decide_eq_false_iff_not] at h
  refine ⟨by omega, fun i hi => ?_⟩
  have := List.any_eq_false.1 h.2 i (List.mem_range.2 hi)
  simpa using this
def AllShort (A : Nat → Ans × List Int) (k : Nat) : Prop := ∀ i, i < k → (A i).2.length ≤ 10
theorem allShort_succ {A : Nat → Ans × List Int} {k : Nat} (h : AllShort A k) (he : (A k).2.length ≤ 10) : AllShort A (k + 1) := fun i hi => by
  rcases Nat.lt_succ_iff_lt_or_eq.1 hi with h' | rfl
  · exact h i h'
  · exact he
/-- The header of a slice of words has the list's length. -/
theorem SlI.len {w : World} {v : Value} {xs : List Int} (h : SlI w v xs) : ∃ ad cap, v = .slice ad xs.length cap := by
  rcases h with ⟨⟨ad, cap, rfl⟩, rfl⟩ | ⟨b, off, cap, rfl, _⟩
  · exact ⟨ad, cap, rfl⟩
  · exact ⟨_, cap, rfl⟩

theorem ex_ok1 : stepOk 2 [] [] 3 0 65537 [] = true := by decide
theorem ex_L1 : stL 2 [] [] 3 0 65537 7 [] = [(65537, 7)] := by decide
theorem ex_D1 : stD 2 [] [] 3 0 65537 [] = [] := by decide
theorem ex_ok2 : stepOk 2 [(65537, 7)] [] 6 0 65537 [7, 8] = true := by decide
theorem ex_L2 : stL 2 [(65537, 7)] [] 6 0 65537 0 [7, 8] = [(65537, 7)] := by decide
theorem ex_D2 : stD 2 [(65537, 7)] [] 6 0 65537 [7, 8] = [] := by decide
theorem ex_ok3 : stepOk 2 [(65537, 7)] [] 6 0 65537 [7, 7] = false := by decide
theorem ex_L3 : stL 2 [(65537, 7)] [] 6 0 65537 0 [7, 7] = [(65537, 7)] := by decide
theorem ex_D3 : stD 2 [(65537, 7)] [] 6 0 65537 [7, 7] = [] := by decide
theorem ex_cl : cl 2 = 2 := by decide
theorem slI_two (w : World) (a b : Int) (t : TypeId) : SlI (w.alloc (.cells #[.int .u64 a, .int .u64 b] t)) (.slice (some ⟨w.heap.size, 0, none⟩) 2 2) [a, b] := by
  refine .inr ⟨w.heap.size, 0, 2, rfl, fun i hi => ?_⟩
  match i, hi with
  | 0, _ => simp
  | 1, _ => simp
/-- A pool whose blocks are all from p on, after a change. -/
def PoolFrom (B p : Nat) (ws : Int) (L : List (Int × Int)) (D : List Int) (w : World) : Prop := ∃ ml md, PoolAt w p ws ml md L D ∧ B ≤ p ∧ (∀ b, ml = some b → B ≤ b) ∧ (∀ b, md = some b → B ≤ b)
theorem PoolFrom.below {B p : Nat} {ws : Int} {L : List (Int × Int)} {D : List Int} {w w' : World} (h : PoolFrom B p ws L D w) (hb : Below w.heap.size w w') : PoolFrom B p ws L D w' := by
  obtain ⟨ml, md, h1, h2, h3, h4⟩ := h
  exact ⟨ml, md, h1.below hb, h2, h3, h4⟩
/-- Step over a pool that lies from block B on. -/
theorem step_from {B p : Nat} {ws : Int} {L : List (Int × Int)} {D : List Int} {w : World} (h : PoolFrom B p ws L D w) (hB : B ≤ w.heap.size) (k ot x sl by_ nth t r : Int) (use : Bool) (rd0 : Value) (xs : List Int) (hr : SlI w rd0 xs) (hx : xs.length ≤ 1000000) :
    Calls Try.prog 85 #[.pointer (some ⟨p, 0, none⟩), (Value.agg #[.int .i64 k, .int .u64 ot, .int .u64 x, .int .i64 sl, .bool use, .int .i64 by_, .int .i64 nth, .int .u64 t, .int .i64 r, rd0])] w fun e w' => e = .returned (.bool (stepOk ws L D k r t xs)) ∧ PoolFrom B p ws (stL ws L D k r t x xs) (stD ws L D k r t xs) w' ∧ Below B w w' := by
  obtain ⟨ml, md, h1, h2, h3, h4⟩ := h
  refine (step h1 k ot x sl by_ nth t r use rd0 xs hr hx).mono fun e w' ⟨he, ml', md', hP, hK, e1, e2⟩ => ⟨he, ⟨ml', md', hP, h2, fun b hb => ?_, fun b hb => ?_⟩, hK.toBelow hB ?_⟩
  · rcases e1 b hb with h | h
    · exact h3 b h
    · omega
  · rcases e2 b hb with h | h
    · exact h4 b h
    · omega
  · intro j hj hs
    rcases hs with rfl | hs | hs
    · omega
    · have := h3 j hs; omega
    · have := h4 j hs; omega
theorem new_from (n : Int) (w : World) : Calls Try.prog 84 #[.int .i64 n] w fun e w' => e = .returned (.pointer (some ⟨w.heap.size, 0, none⟩)) ∧ PoolFrom w.heap.size w.heap.size (cl n) [] [] w' ∧ Below w.heap.size w w' :=
  (newPool n w).mono fun e w' ⟨he, hP, hb⟩ => ⟨he, ⟨none, none, hP, Nat.le_refl _, fun _ h => (by cases h), fun _ h => (by cases h)⟩, hb⟩

theorem awake_one {B : Nat} {w : World} (h : PoolFrom B B 2 [] [] w) (hB : B ≤ w.heap.size) : Calls Try.prog 85 #[.pointer (some ⟨B, 0, none⟩), (Value.agg #[.int .i64 3, .int .u64 0, .int .u64 7, .int .i64 0, .bool false, .int .i64 0, .int .i64 0, .int .u64 65537, .int .i64 0, .slice none 0 0])] w fun e w' => e = .returned (.bool true) ∧ PoolFrom B B 2 [(65537, 7)] [] w' ∧ Below B w w' := by
  have := step_from h hB 3 0 7 0 0 0 65537 0 false (.slice none 0 0) [] (.inl ⟨⟨none, 0, rfl⟩, rfl⟩) (by decide)
  rw [ex_ok1, ex_L1, ex_D1] at this
  exact this
theorem awake_two {B : Nat} {w : World} (h : PoolFrom B B 2 [(65537, 7)] [] w) (hB : B ≤ w.heap.size) (v : Value) (hv : SlI w v [7, 8]) : Calls Try.prog 85 #[.pointer (some ⟨B, 0, none⟩), (Value.agg #[.int .i64 6, .int .u64 0, .int .u64 0, .int .i64 0, .bool false, .int .i64 0, .int .i64 0, .int .u64 65537, .int .i64 0, v])] w fun e w' => e = .returned (.bool true) ∧ PoolFrom B B 2 [(65537, 7)] [] w' ∧ Below B w w' := by
  have := step_from h hB 6 0 0 0 0 0 65537 0 false v [7, 8] hv (by decide)
  rw [ex_ok2, ex_L2, ex_D2] at this
  exact this
theorem awake_three {B : Nat} {w : World} (h : PoolFrom B B 2 [(65537, 7)] [] w) (hB : B ≤ w.heap.size) (v : Value) (hv : SlI w v [7, 7]) : Calls Try.prog 85 #[.pointer (some ⟨B, 0, none⟩), (Value.agg #[.int .i64 6, .int .u64 0, .int .u64 0, .int .i64 0, .bool false, .int .i64 0, .int .i64 0, .int .u64 65537, .int .i64 0, v])] w fun e w' => e = .returned (.bool false) ∧ PoolFrom B B 2 [(65537, 7)] [] w' ∧ Below B w w' := by
  have := step_from h hB 6 0 0 0 0 0 65537 0 false v [7, 7] hv (by decide)
  rw [ex_ok3, ex_L3, ex_D3] at this
  exact this

end Go.Proofs.Ytgpdkagmacpghaa.Idl
