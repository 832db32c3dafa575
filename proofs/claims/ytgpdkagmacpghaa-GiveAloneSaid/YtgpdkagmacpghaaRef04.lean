/- The reference of layer 4: Copy, Put, Take, Hold, Next (made by genref04.py). -/
import Derived.Test.YtgpdkagmacpghaaWorks
namespace Go.Proofs.Ytgpdkagmacpghaa.Wo
open Go Go.RowKit Go.Proofs.Ytgpdkagmacpghaa.Gro Go.Proofs.Ytgpdkagmacpghaa.Own Go.Proofs.Ytgpdkagmacpghaa.Wd Go.Proofs.Ytgpdkagmacpghaa.Ap Go.Proofs.Ytgpdkagmacpghaa.Pl
set_option linter.unusedVariables false
set_option linter.unusedSimpArgs false

theorem empty_row {w : World} {k : IntKind} {t : TypeId} {g : Nat} (hg : g = w.heap.size) : (w.alloc (.cells #[] t)).ownsRow g t 1 (.slice (some ⟨g, 0, none⟩) 0 0) 0 (([] : List Int).map (Value.int k)) := by
  subst hg
  exact World.ownsRow_lit w #[] 0 (Nat.le_refl _) (by unfold maxLen; omega) rfl
theorem owned_of {w : World} {g : Nat} {k : IntKind} {t : TypeId} {y : Sl} {n : Nat} {l l' : List Int} (h : w.ownsRow g t 1 y.v n (l'.map (Value.int k))) (e : l' = l) (hn : n = l.length) : Owned g w k t y l := by
  subst e; subst hn; exact h
/-- What an append onto an empty literal leaves. -/
theorem below_lit {w w' : World} {t : TypeId} {g : Nat} (hg : g = w.heap.size) (hb : Below g (w.alloc (.cells #[] t)) w') : Below w.heap.size w w' := by
  subst hg; exact ((Below.refl w.heap.size w).alloc (Nat.le_refl _) _).trans hb
end Go.Proofs.Ytgpdkagmacpghaa.Wo
