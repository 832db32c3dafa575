/- epoch.Least (made by genei.py). -/
import Derived.Test.YtblkfbbdeodpjaaInsideRef
import Derived.Test.YtblkfbbdeodpjaaEpochs
import Derived.Test.YtblkfbbdeodpjaaMemFirstWalk
import Derived.Test.YtblkfbbdeodpjaaOpens
namespace Go.Proofs.Ytblkfbbdeodpjaa.Me
open Go Go.RowKit Go.Proofs.Ytblkfbbdeodpjaa.Gro Go.Proofs.Ytblkfbbdeodpjaa.Own Go.Proofs.Ytblkfbbdeodpjaa.Wd Go.Proofs.Ytblkfbbdeodpjaa.Ap Go.Proofs.Ytblkfbbdeodpjaa.Pl Go.Proofs.Ytblkfbbdeodpjaa.Wo
set_option linter.unusedVariables false
set_option linter.unusedSimpArgs false
/-- The smallest epoch that one of the first k workers announces as active. -/
def leastL (c : Cfg) (L : List Int) : Nat → Int × Bool
  | 0 => (0, false)
  | k + 1 => if insB c L k = true ∧ ((leastL c L k).2 = false ∨ insE c L k < (leastL c L k).1) then (insE c L k, true) else leastL c L k
theorem least_yes {c : Cfg} {L : List Int} {k : Nat} (h1 : insB c L k = true) (h2 : (leastL c L k).2 = false ∨ insE c L k < (leastL c L k).1) : leastL c L (k + 1) = (insE c L k, true) := if_pos ⟨h1, h2⟩
theorem least_no {c : Cfg} {L : List Int} {k : Nat} (h : ¬ (insB c L k = true ∧ ((leastL c L k).2 = false ∨ insE c L k < (leastL c L k).1))) : leastL c L (k + 1) = leastL c L k := if_neg h
theorem least_stay {c : Cfg} {L : List Int} {n : Nat} (h : ∀ k : Nat, n ≤ k → insB c L k = false) : ∀ m, leastL c L (n + m) = leastL c L n
  | 0 => rfl
  | m + 1 => by
    rw [← Nat.add_assoc, least_no (fun q => by rw [h (n + m) (by omega)] at q; cases q.1)]
    exact least_stay h m
end Go.Proofs.Ytblkfbbdeodpjaa.Me
