/- Part StepFn. -/
import Derived.Test.YtaiodbcnbcdokaaGreatKWorks
import Derived.Test.YtaiodbcnbcdokaaGreatKRefs
set_option linter.unusedVariables false
set_option linter.unusedSimpArgs false
set_option linter.unusedSectionVars false
set_option maxRecDepth 100000
set_option maxHeartbeats 16000000
section
namespace Go.Proofs.YtaiodbcnbcdokaaGreat.Me
open Go Go.RowKit Gro Own Wd Ap Go.Proofs.YtaiodbcnbcdokaaGreat.Pl Wo
structure Tri (g gl gx : Nat) (w w' : World) : Prop where
 os : w'.os = w.os
 tape : w'.tape = w.tape
 output : w'.output = w.output
 size : w.heap.size ≤ w'.heap.size
 block : ∀ k, k < w.heap.size → k ≠ g → k ≠ gl → k ≠ gx → w'.heap[k]? = w.heap[k]?
section
variable {g gl gx base : Nat} {w w1 w2 : World}
theorem Tri.refl (g gl gx : Nat) (w : World) : Tri g gl gx w w := ⟨rfl, rfl, rfl, Nat.le_refl _, fun _ _ _ _ _ => rfl⟩
theorem Tri.trans (h : Tri g gl gx w w1) (k : Tri g gl gx w1 w2) : Tri g gl gx w w2 := ⟨k.os.trans h.os, k.tape.trans h.tape, k.output.trans h.output, Nat.le_trans h.size k.size, fun b hb h1 h2 h3 => (k.block b (Nat.lt_of_lt_of_le hb h.size) h1 h2 h3).trans (h.block b hb h1 h2 h3)⟩
theorem Tri.of_touch (h : Touch g gl w w1) : Tri g gl gx w w1 := ⟨h.os, h.tape, h.output, h.size, fun b hb h1 h2 _ => h.block b hb h1 h2⟩
theorem Tri.of_below (h : Below w.heap.size w w1) : Tri g gl gx w w1 := Tri.of_touch (Touch.of_below h)
theorem Tri.of_set (j : Nat) (v : Value) : Tri g gl gx w (w.setCell ⟨gx, j, none⟩ v) := by
 have t := (Touch.refl gx gx w).setCell (p := ⟨gx, j, none⟩) (.inl rfl) v
 exact ⟨t.os, t.tape, t.output, t.size, fun b hb _ _ h3 => t.block b hb h3 h3⟩
theorem Tri.bk (h : Tri g gl gx w w1) {b : Nat} {cs : Array Value} {t : TypeId} (hb : Bk w b cs t) (h1 : b ≠ g) (h2 : b ≠ gl) (h3 : b ≠ gx) : Bk w1 b cs t := (h.block b hb.lt h1 h2 h3).trans hb
theorem ownsRow_tri {B n size : Nat} {e : TypeId} {v : Value} {xs : List Value} (h : w.ownsRow B e size v n xs) (t : Tri g gl gx w w1) (h1 : g < B) (h2 : gl < B) (h3 : gx < B) : w1.ownsRow B e size v n xs := by
 refine ⟨h.1, ?_⟩
 rcases h.2 with h0 | ⟨b, cap, cur, rfl, hge, hh, rest⟩
 ·exact .inl h0
 ·exact .inr ⟨b, cap, cur, rfl, hge, (t.block b (Array.getElem?_eq_some_iff.1 hh).1 aj aj aj).trans hh, rest⟩
theorem iW {B : Nat} {k : IntKind} {t : TypeId} {y : Sl} {l : List Int} (h : bK B w k t y l) (tr : Tri g gl gx w w1) (h1 : g < B) (h2 : gl < B) (h3 : gx < B) : bK B w1 k t y l := ⟨h.1, ownsRow_tri h.2 tr h1 h2 h3⟩
theorem jh {B : Nat} {s : Wk} {x : St} (h : dI B w s x) (tr : Tri g gl gx w w1) (h1 : g < B) (h2 : gl < B) (h3 : gx < B) : dI B w1 s x := ⟨h.p, iW h.rk tr h1 h2 h3, iW h.l0 tr h1 h2 h3, iW h.l1 tr h1 h2 h3, iW h.l2 tr h1 h2 h3, iW h.hl tr h1 h2 h3, iW h.rd tr h1 h2 h3⟩
end
structure MX (B : Nat) (w0 : World) (g gl cap gx : Nat) (c : Cfg) (a : Acc) (L : List Int) (s : Wk) (w : World) : Prop where
 M : aC B w g c a gl cap L
 X : Bk w gx (wc s) 46
 T : Tri g gl gx w0 w
 n1 : gx ≠ g
 n2 : gx ≠ gl
section
variable {B : Nat} {w0 w w' : World} {g gl cap gx : Nat} {c : Cfg} {a a' : Acc} {L L' : List Int} {s s' : Wk}
theorem MX.mem (h : MX B w0 g gl cap gx c a L s w) (M : aC B w' g c a' gl cap L') (t : Touch g gl w w') : MX B w0 g gl cap gx c a' L' s w' := ⟨M, t.bk h.X h.n1 h.n2, h.T.trans (Tri.of_touch t), h.n1, h.n2⟩
theorem MX.keep (h : MX B w0 g gl cap gx c a L s w) (hb : Below w.heap.size w w') : MX B w0 g gl cap gx c a L s w' := ⟨h.M.keep hb, h.X.keep hb, h.T.trans (Tri.of_below hb), h.n1, h.n2⟩
theorem MX.set (h : MX B w0 g gl cap gx c a L s w) (j : Nat) (v : Value) (e : (wc s).setIfInBounds j v = wc s') : MX B w0 g gl cap gx c a L s' (w.setCell ⟨gx, j, none⟩ v) :=
 ⟨h.M.apart (g' := gx) (gl' := gx) ((Touch.refl gx gx w).setCell (.inl rfl) v) h.n1.symm h.n1.symm h.n2.symm h.n2.symm, e ▸ h.X.setCell j v, h.T.trans (Tri.of_set j v), h.n1, h.n2⟩
theorem MX.lt (h : MX B w0 g gl cap gx c a L s w) : gx < w.heap.size := h.X.lt
end
end Go.Proofs.YtaiodbcnbcdokaaGreat.Me
namespace Go.Proofs.YtaiodbcnbcdokaaGreat.Me
open Go Go.RowKit Gro Own Wd Ap Go.Proofs.YtaiodbcnbcdokaaGreat.Pl Wo
theorem dQ {g gl gz : Nat} {w w2 w3 : World} (hb : Below w.heap.size w w2) (t : Tri g gl w.heap.size w2 w3) (hz : w.heap.size ≤ gz) (cs : Array Value) : Touch g gl w (w3.setRow gz cs) := by
 have t1 := (Touch.refl gz gz w3).setRow cs
 exact ⟨t1.os.trans (t.os.trans hb.os), t1.tape.trans (t.tape.trans hb.tape), t1.output.trans (t.output.trans hb.output), Nat.le_trans hb.size (Nat.le_trans t.size t1.size), fun k hk h1 h2 => (t1.block k (by have := hb.size; have := t.size; omega) aj aj).trans ((t.block k (by have := hb.size; omega) h1 h2 aj).trans (hb.block k hk))⟩
theorem iH {B B' gz : Nat} {w : World} {s1 : Wk} {x : St} {p : Pl} (h : dI B w s1 x) (hz : gz < B) (hb : B' ≤ B) (cs : Array Value) : dI B' (w.setRow gz cs) { s1 with p := p } { x with p := p } :=
 have h2 := (h.setRow hz cs).base hb
 ⟨rfl, h2.rk, h2.l0, h2.l1, h2.l2, h2.hl, h2.rd⟩
end Go.Proofs.YtaiodbcnbcdokaaGreat.Me
end
section
namespace Go.Proofs.YtaiodbcnbcdokaaGreat.Me
open Go Go.RowKit Gro Own Wd Ap Go.Proofs.YtaiodbcnbcdokaaGreat.Pl Wo
structure Res where
 (a : Acc) (L : List Int) (p : Pl) (way : Int) (ok : Bool)
def Res.fin (r : Res) : Res := if r.way = 0 then r else ⟨r.a, r.L, { r.p with ln := 0 }, r.way, r.ok⟩
theorem Res.fin0 {r : Res} (h : r.way = 0) : r.fin = r := if_pos h
theorem Res.fin1 {r : Res} (h : r.way ≠ 0) : r.fin = ⟨r.a, r.L, { r.p with ln := 0 }, r.way, r.ok⟩ := if_neg h
def LP (B : Nat) (w0 : World) (g gl cap gx : Nat) (c : Cfg) (r : Res) (s : Wk) (e : Ending) (w' : World) : Prop := e = .returned (.tuple #[.int .i64 r.way, .bool r.ok]) ∧ MX B w0 g gl cap gx c r.a r.L { s with p := r.p } w'
def iI (B g gl cap : Nat) (c : Cfg) (r : Res) (x : St) (w : World) (e : Ending) (w' : World) : Prop :=
 ∃ s2, e = .returned (.tuple #[wv s2, .int .i64 r.way, .bool r.ok]) ∧ dI w.heap.size w' s2 { x with p := r.p } ∧ aC B w' g c r.a gl cap r.L ∧ Touch g gl w w'
structure PR (p : Pl) : Prop where
 ep : 0 ≤ p.ep ∧ p.ep < 18446744073709551616
 h : 0 ≤ p.h ∧ p.h < 18446744073709551616
 n : 0 ≤ p.n ∧ p.n < 18446744073709551616
 v : 0 ≤ p.v ∧ p.v < 18446744073709551616
 u : 0 ≤ p.u ∧ p.u < 18446744073709551616
 g : 0 ≤ p.g ∧ p.g < 18446744073709551616
 t : 0 ≤ p.t ∧ p.t < 18446744073709551616
end Go.Proofs.YtaiodbcnbcdokaaGreat.Me
end
