/- The reference's Great, and Same on equal states (made by gensame.py). -/
import Derived.Test.YtgpdkagmacpghaaWorks
import Derived.Laws.StructEq
namespace Go.Proofs.Ytgpdkagmacpghaa.Wo
open Go Go.RowKit Go.Proofs.Ytgpdkagmacpghaa.Gro Go.Proofs.Ytgpdkagmacpghaa.Own Go.Proofs.Ytgpdkagmacpghaa.Wd Go.Proofs.Ytgpdkagmacpghaa.Ap Go.Proofs.Ytgpdkagmacpghaa.Pl
set_option linter.unusedVariables false
set_option linter.unusedSimpArgs false

theorem ints_true {w : World} {v1 v2 : Value} {l : List Int} (h1 : Reads w .i64 v1 l) (h2 : Reads w .i64 v2 l) : Calls Try.prog 14 #[v1, v2] w fun e w' => e = .returned (.bool true) ∧ Below w.heap.size w w' := by
  have h := ints h1 h2
  rwa [decide_eq_true rfl] at h
theorem ints_grown {w : World} {v1 v2 : Value} {l : List Int} (h1 : Reads w .i64 v1 l) (h2 : Reads w .i64 v2 l) (n : Gr w) : Calls Try.prog 14 #[v1, v2] n.1 fun e w'' => e = .returned (.bool true) ∧ ∃ m : Gr w, w'' = m.1 :=
  grown_of (ints_true (h1.keep n.2) (h2.keep n.2))
theorem dec_self (l : List Int) : decide (l = l) = true := by simp
end Go.Proofs.Ytgpdkagmacpghaa.Wo
