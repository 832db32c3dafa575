/- entry.pop and entry.push, for every state (made by genpop.py). -/
import Derived.Test.YtgpdkagmacpghaaStepEntry
import Derived.Test.YtgpdkagmacpghaaStacks
import Derived.Test.YtgpdkagmacpghaaEntryFn
namespace Go.Proofs.Ytgpdkagmacpghaa.Me
open Go Go.RowKit Go.Proofs.Ytgpdkagmacpghaa.Gro Go.Proofs.Ytgpdkagmacpghaa.Own Go.Proofs.Ytgpdkagmacpghaa.Wd Go.Proofs.Ytgpdkagmacpghaa.Ap Go.Proofs.Ytgpdkagmacpghaa.Pl Go.Proofs.Ytgpdkagmacpghaa.Wo
set_option linter.unusedVariables false
set_option linter.unusedSimpArgs false
theorem Tri.of_row {g gl gx : Nat} {w : World} (cs : Array Value) : Tri g gl gx w (w.setRow gx cs) := by
  have t := (Touch.refl gx gx w).setRow cs
  exact ⟨t.os, t.tape, t.output, t.size, fun b hb _ _ h3 => t.block b hb h3 h3⟩
theorem MX.row {B : Nat} {w0 w : World} {g gl cap gx : Nat} {c : Cfg} {a : Acc} {L : List Int} {s : Wk} (h : MX B w0 g gl cap gx c a L s w) (s' : Wk) : MX B w0 g gl cap gx c a L s' (w.setRow gx (wc s')) :=
  ⟨h.M.apart (g' := gx) (gl' := gx) ((Touch.refl gx gx w).setRow _) h.n1.symm h.n1.symm h.n2.symm h.n2.symm, h.X.setRow _, h.T.trans (Tri.of_row _), h.n1, h.n2⟩
end Go.Proofs.Ytgpdkagmacpghaa.Me
