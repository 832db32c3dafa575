/- bag.isRipe, bag.Ripe (made by genbag3.py). -/
import Derived.Test.YtblkfbbdeodpjaaBagCount
import Derived.Test.YtblkfbbdeodpjaaRefs
import Derived.IntWalk
namespace Go.Proofs.Ytblkfbbdeodpjaa.Wo
open Go Go.RowKit Go.Proofs.Ytblkfbbdeodpjaa.Gro Go.Proofs.Ytblkfbbdeodpjaa.Own Go.Proofs.Ytblkfbbdeodpjaa.Wd Go.Proofs.Ytblkfbbdeodpjaa.Ap Go.Proofs.Ytblkfbbdeodpjaa.Pl
set_option linter.unusedVariables false
set_option linter.unusedSimpArgs false
def ripeB (t e : Int) : Bool := decide (2 ≤ e) && decide (t ≤ e - 2)
theorem u64_in {n : Int} (h0 : 0 ≤ n) (h1 : n < 18446744073709551616) : IntKind.u64.wrap n = n := by
  unfold IntKind.wrap
  rw [show IntKind.u64.bits = 64 from rfl]
  simp [IntKind.signed]
  omega
section
variable {B : Nat} {w : World} {k : IntKind} {t t' : TypeId} {y : Sl} {l : List Int} {g : Nat} {cs : Array Value}
theorem Owned.setCell_ty (h : Owned B w k t y l) (hg : Bk w g cs t') (ht : t' ≠ t) (j : Nat) (v : Value) : Owned B (w.setCell ⟨g, j, none⟩ v) k t y l := by
  refine ⟨h.1, ?_⟩
  rcases h.2 with h0 | ⟨g', cap, cur, he, hge, hh, rest⟩
  · exact .inl h0
  · refine .inr ⟨g', cap, cur, he, hge, (heap_setCell_other w ⟨g, j, none⟩ g' v (fun e => ?_)).trans hh, rest⟩
    subst e
    have := hg.symm.trans hh
    simp only [Option.some.injEq, Obj.cells.injEq] at this
    exact ht this.2.1
theorem Owned.setRow_ty (h : Owned B w k t y l) (hg : Bk w g cs t') (ht : t' ≠ t) (cs' : Array Value) : Owned B (w.setRow g cs') k t y l := by
  refine ⟨h.1, ?_⟩
  rcases h.2 with h0 | ⟨g', cap, cur, he, hge, hh, rest⟩
  · exact .inl h0
  · refine .inr ⟨g', cap, cur, he, hge, (setRow_other w g g' cs' (fun e => ?_)).trans hh, rest⟩
    subst e
    have := hg.symm.trans hh
    simp only [Option.some.injEq, Obj.cells.injEq] at this
    exact ht this.2.1
theorem Fresh.setCell_ty (h : Fresh B w k t y l) (hg : Bk w g cs t') (ht : t' ≠ t) (j : Nat) (v : Value) : Fresh B (w.setCell ⟨g, j, none⟩ v) k t y l := ⟨h.1, h.2.setCell_ty hg ht j v⟩
theorem Fresh.setRow_ty (h : Fresh B w k t y l) (hg : Bk w g cs t') (ht : t' ≠ t) (cs' : Array Value) : Fresh B (w.setRow g cs') k t y l := ⟨h.1, h.2.setRow_ty hg ht cs'⟩
variable {s : Wk} {x : St}
theorem Part.setCell_ty (h : Part B w s x) (hg : Bk w g cs t') (h1 : t' ≠ 3) (h2 : t' ≠ 22) (j : Nat) (v : Value) : Part B (w.setCell ⟨g, j, none⟩ v) s x := ⟨h.p, h.rk.setCell_ty hg h1 j v, h.l0.setCell_ty hg h1 j v, h.l1.setCell_ty hg h1 j v, h.l2.setCell_ty hg h1 j v, h.hl.setCell_ty hg h1 j v, h.rd.setCell_ty hg h2 j v⟩
theorem Part.setRow_ty (h : Part B w s x) (hg : Bk w g cs t') (h1 : t' ≠ 3) (h2 : t' ≠ 22) (cs' : Array Value) : Part B (w.setRow g cs') s x := ⟨h.p, h.rk.setRow_ty hg h1 cs', h.l0.setRow_ty hg h1 cs', h.l1.setRow_ty hg h1 cs', h.l2.setRow_ty hg h1 cs', h.hl.setRow_ty hg h1 cs', h.rd.setRow_ty hg h2 cs'⟩
end
/-- Inside bag.Ripe: the parameter's and the result's boxes, the buckets kept, the state at hand and the copy. -/
structure Rp (w0 : World) (gx gz gk : Nat) (s : Wk) (x : St) (s1 : Wk) (x1 : St) (kc : Array Value) (w : World) : Prop where
  T : Two w0 gx gz s wz w
  K : Bk w gk kc 43
  k0 : w0.heap.size ≤ gk
  P : Part w0.heap.size w s x
  A : Part w0.heap.size w s1 x1
section
variable {w0 w w' : World} {gx gz gk : Nat} {s s' s1 : Wk} {x x' x1 : St} {kc : Array Value}
theorem Rp.keep (h : Rp w0 gx gz gk s x s1 x1 kc w) (hb : Below w.heap.size w w') : Rp w0 gx gz gk s x s1 x1 kc w' := ⟨h.T.keep hb, h.K.keep hb, h.k0, h.P.keep hb, h.A.keep hb⟩
theorem Rp.kx (h : Rp w0 gx gz gk s x s1 x1 kc w) : gk ≠ gx := by
  rintro rfl
  have := h.K.symm.trans h.T.X
  simp at this
theorem Rp.kz (h : Rp w0 gx gz gk s x s1 x1 kc w) : gk ≠ gz := by
  rintro rfl
  have := h.K.symm.trans h.T.Z
  simp at this
theorem Rp.setK (h : Rp w0 gx gz gk s x s1 x1 kc w) (j : Nat) (v : Value) : Rp w0 gx gz gk s x s1 x1 (kc.setIfInBounds j v) (w.setCell ⟨gk, j, none⟩ v) :=
  ⟨⟨h.T.X.setCell_far (a := ⟨gk, j, none⟩) h.kx.symm v, h.T.Z.setCell_far (a := ⟨gk, j, none⟩) h.kz.symm v, h.T.below.setCell (p := ⟨gk, j, none⟩) h.k0 v, h.T.gx0, h.T.gz0, h.T.ne⟩, h.K.setCell j v, h.k0, h.P.setCell_ty h.K (by decide) (by decide) j v, h.A.setCell_ty h.K (by decide) (by decide) j v⟩
theorem Rp.rowX (h : Rp w0 gx gz gk s x s1 x1 kc w) (hp : Part w0.heap.size w s' x') : Rp w0 gx gz gk s' x' s1 x1 kc (w.setRow gx (wc s')) :=
  ⟨h.T.rowX s', h.K.setRow_far h.kx _, h.k0, hp.setRow_ty h.T.X (by decide) (by decide) _, h.A.setRow_ty h.T.X (by decide) (by decide) _⟩
end
/-- bag.Ripe as a function of data. -/
def ripeS (x : St) (e : Int) : St :=
  { x with p := { x.p with t0 := if ripeB x.p.t0 e then 0 else x.p.t0, t1 := if ripeB x.p.t1 e then 0 else x.p.t1, t2 := if ripeB x.p.t2 e then 0 else x.p.t2 }, l0 := if ripeB x.p.t0 e then [] else x.l0, l1 := if ripeB x.p.t1 e then [] else x.l1, l2 := if ripeB x.p.t2 e then [] else x.l2, hl := x.hl ++ (if ripeB x.p.t0 e then x.l0 else []) ++ (if ripeB x.p.t1 e then x.l1 else []) ++ (if ripeB x.p.t2 e then x.l2 else []) }
end Go.Proofs.Ytblkfbbdeodpjaa.Wo
