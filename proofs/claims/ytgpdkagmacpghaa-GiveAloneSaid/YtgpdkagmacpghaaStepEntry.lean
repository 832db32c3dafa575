/- entry.Step out of its line, for every result (made by genstepq.py). -/
import Derived.Test.YtgpdkagmacpghaaStepFn
namespace Go.Proofs.Ytgpdkagmacpghaa.Me
open Go Go.RowKit Go.Proofs.Ytgpdkagmacpghaa.Gro Go.Proofs.Ytgpdkagmacpghaa.Own Go.Proofs.Ytgpdkagmacpghaa.Wd Go.Proofs.Ytgpdkagmacpghaa.Ap Go.Proofs.Ytgpdkagmacpghaa.Pl Go.Proofs.Ytgpdkagmacpghaa.Wo
set_option linter.unusedVariables false
set_option linter.unusedSimpArgs false
/-- What a line leaves that may hand the state new lists. -/
def LQ (B : Nat) (w0 : World) (g gl cap gx : Nat) (c : Cfg) (n : Nat) (r : Res) (x : St) (e : Ending) (w' : World) : Prop := ∃ s3 : Wk, e = .returned (.tuple #[.int .i64 r.way, .bool r.ok]) ∧ MX B w0 g gl cap gx c r.a r.L { s3 with p := r.p } w' ∧ Anew n w' { s3 with p := x.p } x
theorem LQ.of {B : Nat} {w0 : World} {g gl cap gx : Nat} {c : Cfg} {n : Nat} {r : Res} {s1 : Wk} {x : St} {e : Ending} {w' : World} (h : LP B w0 g gl cap gx c r s1 e w') (A : Anew n w0 s1 x) (h1 : g < n) (h2 : gl < n) (h3 : gx < n) : LQ B w0 g gl cap gx c n r x e w' := by
  have A3 := anew_tri A h.2.T h1 h2 h3
  exact ⟨s1, h.1, h.2, ⟨rfl, A3.rk, A3.l0, A3.l1, A3.l2, A3.hl, A3.rd⟩⟩
end Go.Proofs.Ytgpdkagmacpghaa.Me
