/- Part EntryFn. -/
import Derived.Test.YtaiodbcnbcdokaaGreatKStacks
set_option linter.unusedVariables false
set_option linter.unusedSimpArgs false
set_option linter.unusedSectionVars false
set_option maxRecDepth 100000
set_option maxHeartbeats 16000000
namespace Go.Proofs.YtaiodbcnbcdokaaGreat.Me
open Go Go.RowKit Gro Own Wd Ap Go.Proofs.YtaiodbcnbcdokaaGreat.Pl Wo
def enB (v q : Int) : Bool := decide (v % 16 = 1) && (v / 1048576 == q)
def enT (c : Cfg) (p : Pl) : Int := bf c (p.t % 65536 - 1)
def enI (c : Cfg) (p : Pl) : Int := bf c (wrap64 (p.i - 1))
def en40 (c : Cfg) (L : List Int) (p : Pl) : Res := ⟨acc L 1 (enI c p) 0 0, L, { p with g := ldV L (enI c p) / 1048576, ln := 41 }, 0, true⟩
def en41 (c : Cfg) (L : List Int) (p : Pl) : Res :=
 ⟨acc L 2 (enI c p) (Pk.en p.g (wrap64 (p.b - 1)) 1) 0, stL L (enI c p) (Pk.en p.g (wrap64 (p.b - 1)) 1), { p with t := Pk.tk (wrap64 (p.i - 1)) p.g, i := 0, b := 0 }, 1, true⟩
def enFind (c : Cfg) (L : List Int) (p : Pl) : Res :=
 if enB (ldV L (enT c p)) (p.t / 65536) = true then ⟨acc L 1 (enT c p) 0 0, L, { p with v := ldV L (enT c p), c := ldV L (enT c p) / 16 % 65536 }, 1, true⟩
 else ⟨acc L 1 (enT c p) 0 0, L, p, 2, true⟩
def enNext (c : Cfg) (p : Pl) : Int := if c.la ≤ p.t / 65536 then Pk.en (p.t / 65536) (-1) 2 else Pk.en (p.t / 65536 + 1) (-1) 0
def enHand (c : Cfg) (p : Pl) : Int := if c.la ≤ p.t / 65536 then 0 else p.t % 65536
def en43 (c : Cfg) (L : List Int) (p : Pl) : Res :=
 if csB L (enT c p) p.v = true then ⟨acc L 3 (enT c p) p.v (enNext c p), csL L (enT c p) p.v (enNext c p), { p with i := enHand c p }, 1, true⟩
 else ⟨acc L 3 (enT c p) p.v (enNext c p), csL L (enT c p) p.v (enNext c p), { p with ln := 42 }, 0, true⟩
def enRe (p : Pl) : Int := Pk.en (p.t / 65536) (wrap64 (p.b - 1)) 1
def en45 (c : Cfg) (L : List Int) (p : Pl) : Res :=
 if csB L (enT c p) p.v = true then ⟨acc L 3 (enT c p) p.v (enRe p), csL L (enT c p) p.v (enRe p), { p with b := 0 }, 1, true⟩
 else ⟨acc L 3 (enT c p) p.v (enRe p), csL L (enT c p) p.v (enRe p), { p with ln := 44 }, 0, true⟩
end Go.Proofs.YtaiodbcnbcdokaaGreat.Me
