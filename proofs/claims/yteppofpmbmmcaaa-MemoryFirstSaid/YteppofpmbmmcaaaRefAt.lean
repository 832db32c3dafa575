/- The reference's address of a word: its place in the list. -/
import Derived.Test.YteppofpmbmmcaaaRefAll
import Derived.Laws.StructEq
namespace Go.Proofs.Yteppofpmbmmcaaa.Pl
open Go Go.RowKit Go.Proofs.Yteppofpmbmmcaaa.Gro Go.Proofs.Yteppofpmbmmcaaa.Own
set_option linter.unusedVariables false
set_option linter.unusedSimpArgs false

def idx (s : Spot) : List Spot → Nat → Int
  | [], _ => -1
  | x :: r, k => if x = s then (k : Int) else idx s r (k + 1)
def refAt (c : Cfg) (s : Spot) : Int := if chk c = 0 then idx s (spots c) 0 else -1
theorem sc_get (L : List Spot) (k : Nat) (h : k < L.length) : (sc L)[k * 3]? = some (.int .i64 L[k].1) ∧ (sc L)[k * 3 + 1]? = some (.int .i64 L[k].2.1) ∧ (sc L)[k * 3 + 2]? = some (.int .i64 L[k].2.2) := by
  induction L generalizing k with
  | nil => simp at h
  | cons s r ih =>
    cases k with
    | zero => simp [sc]
    | succ n =>
      have := ih n (by simpa using h)
      have e : sc (s :: r) = [.int .i64 s.1, .int .i64 s.2.1, .int .i64 s.2.2] ++ sc r := by simp [sc]
      rw [e]
      have e1 : (n + 1) * 3 = n * 3 + 3 := by omega
      rw [e1]
      simpa [List.getElem?_append] using this
theorem idx_drop (s : Spot) (L : List Spot) (k : Nat) (h : k < L.length) : idx s (L.drop k) k = if L[k] = s then (k : Int) else idx s (L.drop (k + 1)) (k + 1) := by
  rw [List.drop_eq_getElem_cons h, idx]
theorem stood41 : Try.prog.stoodInHeld 96 = false := by kernel_rfl
theorem guard41 : Try.prog.eqGuardType Try.prog.depth 96 = false := by kernel_rfl
theorem eql3 (a b d a' b' d' : Int) (w : World) : (binOp .eql 96 (.agg #[.int .i64 a, .int .i64 b, .int .i64 d]) (.agg #[.int .i64 a', .int .i64 b', .int .i64 d'])).run Try.prog w = .ok (.bool (decide ((a, b, d) = (a', b', d')))) w := by
  have hs := stood41
  have hu := Try.underlying96
  have h3 := Try.underlying3
  simp [go_sem, hs, hu, h3]
  by_cases h1 : a = a' <;> by_cases h2 : b = b' <;> simp [h1, h2, go_sem]
  by_cases h4 : d = d' <;> simp [h4]
end Go.Proofs.Yteppofpmbmmcaaa.Pl
