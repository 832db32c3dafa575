/- The keys of order's maps, and what they say after an update (made by genord3.py). -/
import Derived.Test.YtgpdkagmacpghaaRows
import Derived.Test.YtgpdkagmacpghaaMapRaw
import Derived.Test.YtgpdkagmacpghaaBk
import Derived.Test.YtgpdkagmacpghaaOrdNum
import Derived.WalkKit
import Derived.ProofKit
import Derived.OpenShut
import Derived.Outline
import Derived.Maps.OwnSet
import Derived.Lib.Hide
namespace Go.Proofs.Ytgpdkagmacpghaa.Od
open Go Go.RowKit Go.Proofs.Ytgpdkagmacpghaa.Mr
set_option linter.unusedVariables false
set_option linter.unusedSimpArgs false
theorem look_upd {κ : Type} [DecidableEq κ] (k x : κ) (v : Value) : ∀ L : List (κ × Value), Mr.look x (Mr.upd k v L) = if x = k then some v else Mr.look x L
  | [] => by
    by_cases h : x = k
    · simp [Mr.upd, Mr.look, h]
    · simp [Mr.upd, Mr.look, h]
  | p :: r => by
    have ih := look_upd k x v r
    unfold Mr.upd
    by_cases hk : k = p.1
    · rw [if_pos hk]
      unfold Mr.look
      by_cases h : x = k
      · simp [h]
      · have : ¬ x = p.1 := fun q => h (q.trans hk.symm)
        simp [h, this]
    · rw [if_neg hk]
      unfold Mr.look
      by_cases h : x = p.1
      · have : ¬ x = k := fun q => hk (q.symm.trans h)
        simp [h, this]
        intro q
        exact absurd (h.symm.trans (h.trans q)) (by intro _; exact this (h.trans q))
      · rw [if_neg h, if_neg h]
        exact ih
theorem op_eq (a b c d : Int) (w : World) : (Op.equal 104 (pairV (a, b)) (pairV (c, d))).run Try.prog w = .ok (a == c && b == d) w := by
  have h1 : Try.prog.underlying 104 = some (.struct (Try.prog.fieldsOf 104)) := by kernel_rfl
  have h2 : Try.prog.stoodInHeld 104 = false := by kernel_rfl
  unfold Op.equal Op.maxDepth pairV
  rw [run_equalIn_struct w 9999 104 _ _ h1 h2]
  clear h1 h2
  go_simp
  by_cases h : a = c
  · by_cases h' : b = d
    · simp [h, h']
    · have : (b == d) = false := by simpa using h'
      simp [h, h', this]
  · have : (a == c) = false := by simpa using h
    simp [h, this]
theorem op_ck (b : Bool) (n : Nat) (x y : Int) (w : World) : (Instr.checkKey b (n + 2) 104 (.agg #[.int .i64 x, .int .i64 y])).run Try.prog w = .ok () w := by
  have hk3 := fun w : World => MapKept.run_checkKey (P := Try.prog) (w := w) (k := .int .i64 x) Try.underlying3 (by simp [MapKept.IsKey]) b n
  have hk4 := fun w : World => MapKept.run_checkKey (P := Try.prog) (w := w) (k := .int .i64 y) Try.underlying3 (by simp [MapKept.IsKey]) b n
  unfold Instr.checkKey
  simp only [Sem.run_bind, run_underlying Try.underlying104, Result.andThen_ok]
  rw [← Array.forIn_toList]
  simp only [List.forIn_cons, List.forIn_nil]
  go_simp
theorem op_check (w : World) (b : Bool) (k : Int × Int) : (Instr.checkKey b 10000 104 (pairV k)).run Try.prog w = .ok () w := op_ck b 9998 k.1 k.2 w
theorem opKeys : Keys Try.prog 104 pairV := pair_keys Try.underlying104 op_eq op_check
/-- The map says the function f, 0 where it has nothing. -/
def Says (L : List ((Int × Int) × Value)) (f : Int × Int → Int) : Prop := ∀ o, (Mr.look o L).getD (.int .i64 0) = .int .i64 (f o)
theorem Says.nil : Says [] (fun _ => 0) := fun _ => rfl
theorem Says.upd {L : List ((Int × Int) × Value)} {f : Int × Int → Int} (h : Says L f) (o : Int × Int) (v : Int) : Says (Mr.upd o (.int .i64 v) L) (put f o v) := fun x => by
  rw [look_upd]
  unfold put
  by_cases q : x = o
  · rw [if_pos q, if_pos q]
    rfl
  · rw [if_neg q, if_neg q]
    exact h x
end Go.Proofs.Ytgpdkagmacpghaa.Od
