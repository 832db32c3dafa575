/- Steps as functions of the state and the memory's words: what a line leaves, what a step leaves. -/
import Derived.Test.YtgpdkagmacpghaaGreatRefs
import Derived.Test.YtgpdkagmacpghaaGreatEpochs
namespace Go.Proofs.YtgpdkagmacpghaaGreat.Me
open Go Go.RowKit Go.Proofs.YtgpdkagmacpghaaGreat.Gro Go.Proofs.YtgpdkagmacpghaaGreat.Own Go.Proofs.YtgpdkagmacpghaaGreat.Wd Go.Proofs.YtgpdkagmacpghaaGreat.Ap Go.Proofs.YtgpdkagmacpghaaGreat.Pl Go.Proofs.YtgpdkagmacpghaaGreat.Wo
set_option linter.unusedVariables false
set_option linter.unusedSimpArgs false
structure Res where
  (a : Acc) (L : List Int) (p : Pl) (way : Int) (ok : Bool)
def Res.fin (r : Res) : Res := if r.way = 0 then r else ⟨r.a, r.L, { r.p with ln := 0 }, r.way, r.ok⟩
theorem Res.fin0 {r : Res} (h : r.way = 0) : r.fin = r := if_pos h
theorem Res.fin1 {r : Res} (h : r.way ≠ 0) : r.fin = ⟨r.a, r.L, { r.p with ln := 0 }, r.way, r.ok⟩ := if_neg h
/-- What a line leaves. -/
def LP (B : Nat) (w0 : World) (g gl cap gx : Nat) (c : Cfg) (r : Res) (s : Wk) (e : Ending) (w' : World) : Prop := e = .returned (.tuple #[.int .i64 r.way, .bool r.ok]) ∧ MX B w0 g gl cap gx c r.a r.L { s with p := r.p } w'
/-- What a step leaves. -/
def GPost (B g gl cap : Nat) (c : Cfg) (r : Res) (x : St) (w : World) (e : Ending) (w' : World) : Prop :=
  ∃ s2, e = .returned (.tuple #[wv s2, .int .i64 r.way, .bool r.ok]) ∧ Anew w.heap.size w' s2 { x with p := r.p } ∧ MemAt B w' g c r.a gl cap r.L ∧ Touch g gl w w'
/-- The words of a state are words. -/
structure PR (p : Pl) : Prop where
  ep : 0 ≤ p.ep ∧ p.ep < 18446744073709551616
  h : 0 ≤ p.h ∧ p.h < 18446744073709551616
  n : 0 ≤ p.n ∧ p.n < 18446744073709551616
  v : 0 ≤ p.v ∧ p.v < 18446744073709551616
  u : 0 ≤ p.u ∧ p.u < 18446744073709551616
  g : 0 ≤ p.g ∧ p.g < 18446744073709551616
  t : 0 ≤ p.t ∧ p.t < 18446744073709551616
theorem wk_self (s : Wk) : ({ s with p := s.p } : Wk) = s := rfl
end Go.Proofs.YtgpdkagmacpghaaGreat.Me
