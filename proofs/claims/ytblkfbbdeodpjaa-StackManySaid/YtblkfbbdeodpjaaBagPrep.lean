/- bag.prepare (made by genbag.py). -/
import Derived.Test.YtblkfbbdeodpjaaWorks
namespace Go.Proofs.Ytblkfbbdeodpjaa.Wo
open Go Go.RowKit Go.Proofs.Ytblkfbbdeodpjaa.Gro Go.Proofs.Ytblkfbbdeodpjaa.Own Go.Proofs.Ytblkfbbdeodpjaa.Wd Go.Proofs.Ytblkfbbdeodpjaa.Ap Go.Proofs.Ytblkfbbdeodpjaa.Pl
set_option linter.unusedVariables false
set_option linter.unusedSimpArgs false
/-- A state whose lists lie in memory of their own, from block B on; the hold list may have room to spare. -/
structure Part (B : Nat) (w : World) (s : Wk) (x : St) : Prop where
  p : s.p = x.p
  rk : Fresh B w .i64 3 s.rk x.rk
  l0 : Fresh B w .i64 3 s.l0 x.l0
  l1 : Fresh B w .i64 3 s.l1 x.l1
  l2 : Fresh B w .i64 3 s.l2 x.l2
  hl : Owned B w .i64 3 s.hl x.hl
  rd : Fresh B w .u64 22 s.rd x.rd
section
variable {B : Nat} {w w' : World} {s : Wk} {x : St}
theorem Part.lies (h : Part B w s x) : Lies w s x := ⟨h.p, h.rk.reads, h.l0.reads, h.l1.reads, h.l2.reads, h.hl.reads, h.rd.reads⟩
theorem Part.liesF (h : Part B w s x) : LiesF B w s x := ⟨h.p, h.rk.rdF, h.l0.rdF, h.l1.rdF, h.l2.rdF, h.hl.rdF, h.rd.rdF⟩
theorem Part.keep (h : Part B w s x) (hb : Below w.heap.size w w') : Part B w' s x := ⟨h.p, h.rk.keep hb, h.l0.keep hb, h.l1.keep hb, h.l2.keep hb, h.hl.keep hb, h.rd.keep hb⟩
theorem Part.base {B' : Nat} (h : Part B w s x) (hb : B' ≤ B) : Part B' w s x := ⟨h.p, h.rk.base hb, h.l0.base hb, h.l1.base hb, h.l2.base hb, h.hl.base hb, h.rd.base hb⟩
theorem Part.setCell (h : Part B w s x) {g : Nat} (hg : g < B) (j : Nat) (v : Value) : Part B (w.setCell ⟨g, j, none⟩ v) s x := ⟨h.p, h.rk.setCell hg j v, h.l0.setCell hg j v, h.l1.setCell hg j v, h.l2.setCell hg j v, h.hl.setCell hg j v, h.rd.setCell hg j v⟩
theorem Part.setRow (h : Part B w s x) {g : Nat} (hg : g < B) (cs : Array Value) : Part B (w.setRow g cs) s x := ⟨h.p, h.rk.setRow hg cs, h.l0.setRow hg cs, h.l1.setRow hg cs, h.l2.setRow hg cs, h.hl.setRow hg cs, h.rd.setRow hg cs⟩
theorem Anew.part (h : Anew B w s x) : Part B w s x := ⟨h.p, h.rk, h.l0, h.l1, h.l2, h.hl.2, h.rd⟩
end
/-- The current tag, and the state with its bucket prepared. -/
def tagOf (x : St) : Int := IntKind.u64.wrap (x.p.ep + 1)
def prep0 (x : St) : St := if x.p.t0 = tagOf x then x else { x with p := { x.p with t0 := tagOf x }, l0 := [], hl := x.hl ++ x.l0 }
def prep1 (x : St) : St := if x.p.t1 = tagOf x then x else { x with p := { x.p with t1 := tagOf x }, l1 := [], hl := x.hl ++ x.l1 }
def prep2 (x : St) : St := if x.p.t2 = tagOf x then x else { x with p := { x.p with t2 := tagOf x }, l2 := [], hl := x.hl ++ x.l2 }
theorem tag_range (x : St) : 0 ≤ tagOf x ∧ tagOf x < 18446744073709551616 := by
  unfold tagOf IntKind.wrap
  rw [show IntKind.u64.bits = 64 from rfl]
  simp [IntKind.signed]
  omega
end Go.Proofs.Ytblkfbbdeodpjaa.Wo
