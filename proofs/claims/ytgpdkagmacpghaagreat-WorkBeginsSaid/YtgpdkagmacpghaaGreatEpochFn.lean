/- The lines of layer 7 as functions. -/
import Derived.Test.YtgpdkagmacpghaaGreatStepFn
import Derived.Test.YtgpdkagmacpghaaGreatStacks
namespace Go.Proofs.YtgpdkagmacpghaaGreat.Me
open Go Go.RowKit Go.Proofs.YtgpdkagmacpghaaGreat.Gro Go.Proofs.YtgpdkagmacpghaaGreat.Own Go.Proofs.YtgpdkagmacpghaaGreat.Wd Go.Proofs.YtgpdkagmacpghaaGreat.Ap Go.Proofs.YtgpdkagmacpghaaGreat.Pl Go.Proofs.YtgpdkagmacpghaaGreat.Wo
set_option linter.unusedVariables false
set_option linter.unusedSimpArgs false
/-- Does the announcement speak of another epoch? -/
def epOther (x v : Int) : Bool := decide (x % 2 = 1) && decide (x / 2 ≠ v)
def ep1 (L : List Int) (p : Pl) : Res := ⟨acc L 1 0 0 0, L, { p with ep := ldV L 0, ln := 2 }, 0, true⟩
def ep2 (c : Cfg) (L : List Int) (p : Pl) (k : Int) : Res := ⟨acc L 2 (aAnn c k) (Pk.an p.ep true) 0, stL L (aAnn c k) (Pk.an p.ep true), { p with ln := 3 }, 0, true⟩
def ep3 (L : List Int) (p : Pl) : Res := if ldV L 0 = p.ep then ⟨acc L 1 0 0 0, L, p, 1, true⟩ else ⟨acc L 1 0 0 0, L, { p with ep := ldV L 0, ln := 2 }, 0, true⟩
def ep90 (c : Cfg) (L : List Int) (p : Pl) (k : Int) : Res := ⟨acc L 2 (aAnn c k) (Pk.an p.ep false) 0, stL L (aAnn c k) (Pk.an p.ep false), p, 1, true⟩
def ep70 (L : List Int) (p : Pl) : Res := ⟨acc L 1 0 0 0, L, { p with v := ldV L 0, j := 0, ln := 71 }, 0, true⟩
def ep71 (c : Cfg) (L : List Int) (p : Pl) : Res :=
  if epOther (ldV L (aAnn c p.j)) p.v = true then ⟨acc L 1 (aAnn c p.j) 0 0, L, p, 2, true⟩
  else ⟨acc L 1 (aAnn c p.j) 0 0, L, { p with j := wrap64 (p.j + 1), ln := if wrap64 (c.ww - 1) ≤ p.j then 72 else 71 }, 0, true⟩
def ep72 (L : List Int) (p : Pl) : Res := ⟨acc L 3 0 p.v (IntKind.u64.wrap (p.v + 1)), csL L 0 p.v (IntKind.u64.wrap (p.v + 1)), p, if csB L 0 p.v = true then 1 else 2, true⟩
def epochLn (c : Cfg) (a : Acc) (L : List Int) (p : Pl) (k : Int) : Res :=
  if p.ln = 1 then ep1 L p else if p.ln = 2 then ep2 c L p k else if p.ln = 3 then ep3 L p else if p.ln = 90 then ep90 c L p k
  else if p.ln = 70 then ep70 L p else if p.ln = 71 then ep71 c L p else if p.ln = 72 then ep72 L p else ⟨a, L, p, 0, false⟩
theorem epochLn_keeps {c : Cfg} {a : Acc} {wk : Int} {L : List Int} {p : Pl} (hL : WR L) (hp : PR p) : Keeps L (epochLn c a L p wk) := by
  unfold epochLn
  split
  · exact ⟨rfl, hL, ⟨ldV_wr hL _, hp.h, hp.n, hp.v, hp.u, hp.g, hp.t⟩⟩
  split
  · exact ⟨stL_len _ _, stL_wr hL _ (Pk.an_rng _ _).1 (Pk.an_rng _ _).2, ⟨hp.ep, hp.h, hp.n, hp.v, hp.u, hp.g, hp.t⟩⟩
  split
  · unfold ep3
    split
    · exact ⟨rfl, hL, hp⟩
    · exact ⟨rfl, hL, ⟨ldV_wr hL _, hp.h, hp.n, hp.v, hp.u, hp.g, hp.t⟩⟩
  split
  · exact ⟨stL_len _ _, stL_wr hL _ (Pk.an_rng _ _).1 (Pk.an_rng _ _).2, hp⟩
  split
  · exact ⟨rfl, hL, ⟨hp.ep, hp.h, hp.n, ldV_wr hL _, hp.u, hp.g, hp.t⟩⟩
  split
  · unfold ep71
    split
    · exact ⟨rfl, hL, hp⟩
    · exact ⟨rfl, hL, ⟨hp.ep, hp.h, hp.n, hp.v, hp.u, hp.g, hp.t⟩⟩
  split
  · exact ⟨csL_len _ _ _, csL_wr hL _ _ (wrap_rng _).1 (wrap_rng _).2, hp⟩
  · exact ⟨rfl, hL, hp⟩
end Go.Proofs.YtgpdkagmacpghaaGreat.Me
