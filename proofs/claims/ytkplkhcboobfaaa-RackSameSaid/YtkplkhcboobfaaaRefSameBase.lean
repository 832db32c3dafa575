/- The reference's Same, end by end (made by gensame4.py). -/
import Derived.Test.YtkplkhcboobfaaaGreat
namespace Go.Proofs.Ytkplkhcboobfaaa.Wo
open Go Go.RowKit Go.Proofs.Ytkplkhcboobfaaa.Gro Go.Proofs.Ytkplkhcboobfaaa.Own Go.Proofs.Ytkplkhcboobfaaa.Wd Go.Proofs.Ytkplkhcboobfaaa.Ap Go.Proofs.Ytkplkhcboobfaaa.Pl
set_option linter.unusedVariables false
set_option linter.unusedSimpArgs false
section
variable {w : World} {v1 v2 : Value} {l1 l2 : List Int}
theorem intsI (h1 : Reads w .i64 v1 l1) (h2 : Reads w .i64 v2 l2) {b : Bool} (hb : decide (l1 = l2) = b) : Calls Try.prog 51 #[v1, v2] w fun e w'' => e = .returned (.bool b) ∧ Below w.heap.size w w'' := by
  subst hb
  exact ints h1 h2
theorem wordsW (h1 : Reads w .u64 v1 l1) (h2 : Reads w .u64 v2 l2) {b : Bool} (hb : decide (l1 = l2) = b) : Calls Try.prog 27 #[v1, v2] w fun e w'' => e = .returned (.bool b) ∧ Below w.heap.size w w'' := by
  subst hb
  exact same h1 h2
theorem intsI_g (h1 : Reads w .i64 v1 l1) (h2 : Reads w .i64 v2 l2) {b : Bool} (hb : decide (l1 = l2) = b) (n : Gr w) : Calls Try.prog 51 #[v1, v2] n.1 fun e w'' => e = .returned (.bool b) ∧ ∃ m : Gr w, w'' = m.1 :=
  grown_of (intsI (h1.keep n.2) (h2.keep n.2) hb)
end
end Go.Proofs.Ytkplkhcboobfaaa.Wo
