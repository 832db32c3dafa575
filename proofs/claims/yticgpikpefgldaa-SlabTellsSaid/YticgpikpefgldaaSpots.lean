/- The list of all words of a configuration, as the reference lists it. -/
import Derived.Test.YticgpikpefgldaaPlanAddr
import Derived.Test.YticgpikpefgldaaRefPlan
import Derived.Test.YticgpikpefgldaaOwn
namespace Go.Proofs.Yticgpikpefgldaa.Pl
open Go Go.RowKit Go.Proofs.Yticgpikpefgldaa.Gro Go.Proofs.Yticgpikpefgldaa.Own
set_option linter.unusedVariables false
set_option linter.unusedSimpArgs false

abbrev Spot := Int × Int × Int
def sc (l : List Spot) : List Value := l.flatMap fun s => [.int .i64 s.1, .int .i64 s.2.1, .int .i64 s.2.2]
theorem sc_append (a b : List Spot) : sc (a ++ b) = sc a ++ sc b := by simp [sc]
theorem sc_length (l : List Spot) : (sc l).length = l.length * 3 := by
  induction l with
  | nil => rfl
  | cons s r ih => simp only [sc, List.flatMap_cons, List.length_append, List.length_cons] at *; simp only [List.length_nil]; omega
def S0 : List Spot := [(0, 0, 0), (0, 1, 0), (0, 2, 0)]
def S1 (k : Nat) : List Spot := S0 ++ (List.range k).map fun (a : Nat) => ((1 : Int), (a : Int), (0 : Int))
def S2 (W k : Nat) : List Spot := S1 W ++ (List.range k).map fun (a : Nat) => ((2 : Int), (a : Int), (0 : Int))
def S3 (W S k : Nat) : List Spot := S2 W S ++ (List.range k).flatMap fun (a : Nat) => [((3 : Int), (a : Int), (0 : Int)), (4, (a : Int), 0)]
def wrd (a k : Nat) : List Spot := (List.range k).map fun (b : Nat) => ((6 : Int), (a : Int), (b : Int))
def S4 (W S N D k : Nat) : List Spot := S3 W S N ++ (List.range k).flatMap fun (a : Nat) => (5, (a : Int), 0) :: wrd a D
def S5 (W S N D i k : Nat) : List Spot := S4 W S N D i ++ ((5, (i : Int), 0) :: wrd i k)
theorem S1_succ (k : Nat) : S1 (k + 1) = S1 k ++ [(1, (k : Int), 0)] := by simp [S1, List.range_succ]
theorem S2_succ (W k : Nat) : S2 W (k + 1) = S2 W k ++ [(2, (k : Int), 0)] := by simp [S2, List.range_succ]
theorem S3_succ (W S k : Nat) : S3 W S (k + 1) = S3 W S k ++ [(3, (k : Int), 0), (4, (k : Int), 0)] := by simp [S3, List.range_succ]
theorem S4_succ (W S N D k : Nat) : S4 W S N D (k + 1) = S5 W S N D k D := by simp [S4, S5, List.range_succ]
theorem S5_zero (W S N D i : Nat) : S5 W S N D i 0 = S4 W S N D i ++ [(5, (i : Int), 0)] := by simp [S5, wrd]
theorem S5_succ (W S N D i k : Nat) : S5 W S N D i (k + 1) = S5 W S N D i k ++ [(6, (i : Int), (k : Int))] := by simp [S5, wrd, List.range_succ]
theorem S1_len (k : Nat) : (S1 k).length = 3 + k := by simp [S1, S0]; omega
theorem S2_len (W k : Nat) : (S2 W k).length = 3 + W + k := by simp [S2, S1_len]
theorem sum_two (k : Nat) : (List.map (fun _ : Nat => 2) (List.range k)).sum = 2 * k := by
  induction k with
  | zero => rfl
  | succ n ih => rw [List.range_succ, List.map_append, List.sum_append, ih]; simp; omega
theorem sum_const (c k : Nat) : (List.map (fun _ : Nat => c) (List.range k)).sum = c * k := by
  induction k with
  | zero => simp
  | succ n ih => rw [List.range_succ, List.map_append, List.sum_append, ih, Nat.mul_succ]; simp
theorem S3_len (W S k : Nat) : (S3 W S k).length = 3 + W + S + 2 * k := by
  simp only [S3, List.length_append, S2_len, List.length_flatMap, List.length_cons, List.length_nil]
  rw [sum_const]
theorem wrd_len (a k : Nat) : (wrd a k).length = k := by simp [wrd]
theorem S4_len (W S N D k : Nat) : (S4 W S N D k).length = 3 + W + S + 2 * N + (D + 1) * k := by
  simp only [S4, List.length_append, S3_len, List.length_flatMap, List.length_cons, wrd_len]
  rw [sum_const]
theorem S5_len (W S N D i k : Nat) : (S5 W S N D i k).length = 3 + W + S + 2 * N + (D + 1) * i + 1 + k := by
  simp only [S5, List.length_append, S4_len, List.length_cons, wrd_len]; omega
def spots (c : Cfg) : List Spot := S4 c.ww.toNat c.sl.toNat c.en.toNat c.wd.toNat (c.sl * c.bl).toNat

theorem elem33 : Elem Try.prog 79 102 3 24 := ⟨Try.underlying79, by
  have h : (Try.prog.info? 102).map (fun i => (i.zero, i.size, i.bytes)) = some (some (.agg #[.int .i64 0, .int .i64 0, .int .i64 0]), 3, 24) := by kernel_rfl
  obtain ⟨i0, hi, hz0, hz1, hz2⟩ := info_parts h
  exact ⟨i0, _, hi, hz0, hz1, hz2, rfl⟩, by decide, by decide⟩
theorem one3 {a b d : Int} : ∀ u ∈ [Value.int .i64 a, Value.int .i64 b, Value.int .i64 d], u.oneCell' = true := by simp [Value.oneCell']
theorem one6 {a b d e f g : Int} : ∀ u ∈ [Value.int .i64 a, Value.int .i64 b, Value.int .i64 d, Value.int .i64 e, Value.int .i64 f, Value.int .i64 g], u.oneCell' = true := by simp [Value.oneCell']
end Go.Proofs.Yticgpikpefgldaa.Pl
