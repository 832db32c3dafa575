/- The lines of layer 6 as functions. -/
import Derived.Test.YtblkfbbdeodpjaaStepFn
namespace Go.Proofs.Ytblkfbbdeodpjaa.Me
open Go Go.RowKit Go.Proofs.Ytblkfbbdeodpjaa.Gro Go.Proofs.Ytblkfbbdeodpjaa.Own Go.Proofs.Ytblkfbbdeodpjaa.Wd Go.Proofs.Ytblkfbbdeodpjaa.Ap Go.Proofs.Ytblkfbbdeodpjaa.Pl Go.Proofs.Ytblkfbbdeodpjaa.Wo
set_option linter.unusedVariables false
set_option linter.unusedSimpArgs false
/-- The two lists: false, of blocks; true, of entries. -/
def skH (e : Bool) : Int := if e then 2 else 1
def skLk (c : Cfg) (e : Bool) (i : Int) : Int := if e then aEnl c i else aBlk c i
def skPut (e : Bool) (p : Pl) : Int := wrap64 ((if e then p.i else p.k) - 1)
def skLn (e : Bool) (k : Int) : Int := if e then k + 10 else k
def low32 (v : Int) : Int := v % 4294967296
/-- The word that is swapped in. -/
def skNew (top v : Int) : Int := Pk.hd top (v / 4294967296 + 1)
def sk10 (c : Cfg) (L : List Int) (p : Pl) (e : Bool) : Res :=
  ⟨acc L 1 (skH e) 0 0, L, { p with v := ldV L (skH e), h := low32 (ldV L (skH e)), ln := if low32 (ldV L (skH e)) = 0 then p.ln else skLn e 11 }, if low32 (ldV L (skH e)) = 0 then 2 else 0, true⟩
def sk11 (c : Cfg) (L : List Int) (p : Pl) (e : Bool) : Res :=
  ⟨acc L 1 (skLk c e (wrap64 (p.h - 1))) 0 0, L, { p with n := ldV L (skLk c e (wrap64 (p.h - 1))), ln := skLn e 12 }, 0, true⟩
def skSwap (L : List Int) (p : Pl) (e : Bool) (top back : Int) : Res :=
  ⟨acc L 3 (skH e) p.v (skNew top p.v), csL L (skH e) p.v (skNew top p.v), { p with ln := if csB L (skH e) p.v = true then p.ln else skLn e back }, if csB L (skH e) p.v = true then 1 else 0, true⟩
def sk12 (c : Cfg) (L : List Int) (p : Pl) (e : Bool) : Res := skSwap L p e (low32 p.n - 1) 10
def sk13 (c : Cfg) (L : List Int) (p : Pl) (e : Bool) : Res :=
  ⟨acc L 1 (skH e) 0 0, L, { p with v := ldV L (skH e), ln := skLn e 14 }, 0, true⟩
def sk14 (c : Cfg) (L : List Int) (p : Pl) (e : Bool) : Res :=
  ⟨acc L 2 (skLk c e (skPut e p)) (low32 p.v) 0, stL L (skLk c e (skPut e p)) (low32 p.v), { p with ln := skLn e 15 }, 0, true⟩
def sk15 (c : Cfg) (L : List Int) (p : Pl) (e : Bool) : Res := skSwap L p e (skPut e p) 13
def skGo (c : Cfg) (a : Acc) (L : List Int) (p : Pl) (e : Bool) : Res :=
  if p.ln = skLn e 10 then sk10 c L p e else if p.ln = skLn e 11 then sk11 c L p e else if p.ln = skLn e 12 then sk12 c L p e
  else if p.ln = skLn e 13 then sk13 c L p e else if p.ln = skLn e 14 then sk14 c L p e else if p.ln = skLn e 15 then sk15 c L p e else ⟨a, L, p, 0, false⟩
def stackLn (c : Cfg) (a : Acc) (L : List Int) (p : Pl) : Res := skGo c a L p (decide (20 ≤ p.ln))
end Go.Proofs.Ytblkfbbdeodpjaa.Me
