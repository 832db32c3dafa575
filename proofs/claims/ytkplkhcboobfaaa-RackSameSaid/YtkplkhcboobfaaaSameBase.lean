/- rack.Same: what its ends share (made by gensame3.py). -/
import Derived.Test.YtkplkhcboobfaaaPlain
import Derived.Test.YtkplkhcboobfaaaEqual
import Derived.Test.YtkplkhcboobfaaaQuietRow
namespace Go.Proofs.Ytkplkhcboobfaaa.Wo
open Go Go.RowKit Go.Proofs.Ytkplkhcboobfaaa.Gro Go.Proofs.Ytkplkhcboobfaaa.Own Go.Proofs.Ytkplkhcboobfaaa.Wd Go.Proofs.Ytkplkhcboobfaaa.Ap Go.Proofs.Ytkplkhcboobfaaa.Pl
set_option linter.unusedVariables false
set_option linter.unusedSimpArgs false
section
variable {w : World} {v1 v2 : Value} {l1 l2 : List Int}
theorem equI_g (h1 : Reads w .i64 v1 l1) (h2 : Reads w .i64 v2 l2) {b : Bool} (hb : decide (l1 = l2) = b) (n : Gr w) : Calls Try.prog 61 #[v1, v2] n.1 fun e w'' => e = .returned (.bool b) ∧ ∃ m : Gr w, w'' = m.1 := by
  subst hb
  exact grown_of (equI (h1.keep n.2) (h2.keep n.2))
theorem equW_g (h1 : Reads w .u64 v1 l1) (h2 : Reads w .u64 v2 l2) {b : Bool} (hb : decide (l1 = l2) = b) (n : Gr w) : Calls Try.prog 63 #[v1, v2] n.1 fun e w'' => e = .returned (.bool b) ∧ ∃ m : Gr w, w'' = m.1 := by
  subst hb
  exact grown_of (equW (h1.keep n.2) (h2.keep n.2))
end
theorem st_ext {x y : St} (h0 : x.p = y.p) (h1 : x.rk = y.rk) (h2 : x.l0 = y.l0) (h3 : x.l1 = y.l1) (h4 : x.l2 = y.l2) (h5 : x.hl = y.hl) (h6 : x.rd = y.rd) : x = y := by
  obtain ⟨_, _, _, _, _, _, _⟩ := x
  obtain ⟨_, _, _, _, _, _, _⟩ := y
  simp_all
end Go.Proofs.Ytkplkhcboobfaaa.Wo
