/- bag.prepare (made by genbag.py). -/
import Derived.Test.YtgpdkagmacpghaaWorks
import Derived.BigQuiet
import Derived.Deep.QuietTactic
import Derived.WalkLawsBesides
import Derived.Test.YtgpdkagmacpghaaRefs
import Derived.IntWalk
namespace Go.Proofs.Ytgpdkagmacpghaa.Wo
open Go Go.RowKit Go.Proofs.Ytgpdkagmacpghaa.Gro Go.Proofs.Ytgpdkagmacpghaa.Own Go.Proofs.Ytgpdkagmacpghaa.Wd Go.Proofs.Ytgpdkagmacpghaa.Ap Go.Proofs.Ytgpdkagmacpghaa.Pl
set_option linter.unusedVariables false
set_option linter.unusedSimpArgs false
/-- A state whose lists lie in memory of their own, from block B on; the hold list may have room to spare. -/
structure Part (B : Nat) (w : World) (s : Wk) (x : St) : Prop where
  p : s.p = x.p
  rk : Fresh B w .i64 3 s.rk x.rk
  l0 : Fresh B w .i64 3 s.l0 x.l0
  l1 : Fresh B w .i64 3 s.l1 x.l1
  l2 : Fresh B w .i64 3 s.l2 x.l2
  hl : Owned B w .i64 3 s.hl x.hl
  rd : Fresh B w .u64 22 s.rd x.rd
section
variable {B : Nat} {w w' : World} {s : Wk} {x : St}
theorem Part.lies (h : Part B w s x) : Lies w s x := ⟨h.p, h.rk.reads, h.l0.reads, h.l1.reads, h.l2.reads, h.hl.reads, h.rd.reads⟩
theorem Part.liesF (h : Part B w s x) : LiesF B w s x := ⟨h.p, h.rk.rdF, h.l0.rdF, h.l1.rdF, h.l2.rdF, h.hl.rdF, h.rd.rdF⟩
theorem Part.keep (h : Part B w s x) (hb : Below w.heap.size w w') : Part B w' s x := ⟨h.p, h.rk.keep hb, h.l0.keep hb, h.l1.keep hb, h.l2.keep hb, h.hl.keep hb, h.rd.keep hb⟩
theorem Part.base {B' : Nat} (h : Part B w s x) (hb : B' ≤ B) : Part B' w s x := ⟨h.p, h.rk.base hb, h.l0.base hb, h.l1.base hb, h.l2.base hb, h.hl.base hb, h.rd.base hb⟩
theorem Part.setCell (h : Part B w s x) {g : Nat} (hg : g < B) (j : Nat) (v : Value) : Part B (w.setCell ⟨g, j, none⟩ v) s x := ⟨h.p, h.rk.setCell hg j v, h.l0.setCell hg j v, h.l1.setCell hg j v, h.l2.setCell hg j v, h.hl.setCell hg j v, h.rd.setCell hg j v⟩
theorem Part.setRow (h : Part B w s x) {g : Nat} (hg : g < B) (cs : Array Value) : Part B (w.setRow g cs) s x := ⟨h.p, h.rk.setRow hg cs, h.l0.setRow hg cs, h.l1.setRow hg cs, h.l2.setRow hg cs, h.hl.setRow hg cs, h.rd.setRow hg cs⟩
theorem Anew.part (h : Anew B w s x) : Part B w s x := ⟨h.p, h.rk, h.l0, h.l1, h.l2, h.hl.2, h.rd⟩
end
/-- The current tag, and the state with its bucket prepared. -/
def tagOf (x : St) : Int := IntKind.u64.wrap (x.p.ep + 1)
def prep0 (x : St) : St := if x.p.t0 = tagOf x then x else { x with p := { x.p with t0 := tagOf x }, l0 := [], hl := x.hl ++ x.l0 }
def prep1 (x : St) : St := if x.p.t1 = tagOf x then x else { x with p := { x.p with t1 := tagOf x }, l1 := [], hl := x.hl ++ x.l1 }
def prep2 (x : St) : St := if x.p.t2 = tagOf x then x else { x with p := { x.p with t2 := tagOf x }, l2 := [], hl := x.hl ++ x.l2 }
theorem tag_range (x : St) : 0 ≤ tagOf x ∧ tagOf x < 18446744073709551616 := by
  unfold tagOf IntKind.wrap
  rw [show IntKind.u64.bits = 64 from rfl]
  simp [IntKind.signed]
  omega
end Go.Proofs.Ytgpdkagmacpghaa.Wo

/- bag.Put, bag.Count (made by genbag2.py). -/
namespace Go.Proofs.Ytgpdkagmacpghaa.Wo
open Go Go.RowKit Go.Proofs.Ytgpdkagmacpghaa.Gro Go.Proofs.Ytgpdkagmacpghaa.Own Go.Proofs.Ytgpdkagmacpghaa.Wd Go.Proofs.Ytgpdkagmacpghaa.Ap Go.Proofs.Ytgpdkagmacpghaa.Pl
set_option linter.unusedVariables false
set_option linter.unusedSimpArgs false
/-- bag.Put as a function of data. -/
def putB (m : Int) (x : St) (b : Int) : St × Bool :=
  if tagOf x % 3 = 0 then (if ((prep0 x).l0.length : Int) < m then ({ prep0 x with l0 := (prep0 x).l0 ++ [b] }, true) else (prep0 x, false))
  else if tagOf x % 3 = 1 then (if ((prep1 x).l1.length : Int) < m then ({ prep1 x with l1 := (prep1 x).l1 ++ [b] }, true) else (prep1 x, false))
  else (if ((prep2 x).l2.length : Int) < m then ({ prep2 x with l2 := (prep2 x).l2 ++ [b] }, true) else (prep2 x, false))
theorem few_prep0 {x : St} {n m : Nat} (h : Few n x) (hm : n + n ≤ m) : Few m (prep0 x) := by
  have := h.rk; have := h.l0; have := h.l1; have := h.l2; have := h.hl; have := h.rd
  unfold prep0
  split
  · exact ⟨by omega, by omega, by omega, by omega, by omega, by omega⟩
  · exact ⟨by simp; omega, by simp <;> omega, by simp <;> omega, by simp <;> omega, by simp; omega, by simp; omega⟩
theorem few_prep1 {x : St} {n m : Nat} (h : Few n x) (hm : n + n ≤ m) : Few m (prep1 x) := by
  have := h.rk; have := h.l0; have := h.l1; have := h.l2; have := h.hl; have := h.rd
  unfold prep1
  split
  · exact ⟨by omega, by omega, by omega, by omega, by omega, by omega⟩
  · exact ⟨by simp; omega, by simp <;> omega, by simp <;> omega, by simp <;> omega, by simp; omega, by simp; omega⟩
theorem few_prep2 {x : St} {n m : Nat} (h : Few n x) (hm : n + n ≤ m) : Few m (prep2 x) := by
  have := h.rk; have := h.l0; have := h.l1; have := h.l2; have := h.hl; have := h.rd
  unfold prep2
  split
  · exact ⟨by omega, by omega, by omega, by omega, by omega, by omega⟩
  · exact ⟨by simp; omega, by simp <;> omega, by simp <;> omega, by simp <;> omega, by simp; omega, by simp; omega⟩
end Go.Proofs.Ytgpdkagmacpghaa.Wo

/- bag.Count (made by genbag2.py). -/
namespace Go.Proofs.Ytgpdkagmacpghaa.Wo
open Go Go.RowKit Go.Proofs.Ytgpdkagmacpghaa.Gro Go.Proofs.Ytgpdkagmacpghaa.Own Go.Proofs.Ytgpdkagmacpghaa.Wd Go.Proofs.Ytgpdkagmacpghaa.Ap Go.Proofs.Ytgpdkagmacpghaa.Pl
set_option linter.unusedVariables false
set_option linter.unusedSimpArgs false
theorem bag_index0 (s : Wk) (w : World) : (Instr.index 40 (.agg #[.int .u64 s.p.t0, .slice s.l0.ad s.l0.len s.l0.cap, .int .u64 s.p.t1, .slice s.l1.ad s.l1.len s.l1.cap, .int .u64 s.p.t2, .slice s.l2.ad s.l2.len s.l2.cap]) (.int .i64 0)).run Try.prog w = .ok (.agg #[.int .u64 s.p.t0, .slice s.l0.ad s.l0.len s.l0.cap]) w := by kernel_rfl
theorem bag_index1 (s : Wk) (w : World) : (Instr.index 40 (.agg #[.int .u64 s.p.t0, .slice s.l0.ad s.l0.len s.l0.cap, .int .u64 s.p.t1, .slice s.l1.ad s.l1.len s.l1.cap, .int .u64 s.p.t2, .slice s.l2.ad s.l2.len s.l2.cap]) (.int .i64 1)).run Try.prog w = .ok (.agg #[.int .u64 s.p.t1, .slice s.l1.ad s.l1.len s.l1.cap]) w := by kernel_rfl
theorem bag_index2 (s : Wk) (w : World) : (Instr.index 40 (.agg #[.int .u64 s.p.t0, .slice s.l0.ad s.l0.len s.l0.cap, .int .u64 s.p.t1, .slice s.l1.ad s.l1.len s.l1.cap, .int .u64 s.p.t2, .slice s.l2.ad s.l2.len s.l2.cap]) (.int .i64 2)).run Try.prog w = .ok (.agg #[.int .u64 s.p.t2, .slice s.l2.ad s.l2.len s.l2.cap]) w := by kernel_rfl
end Go.Proofs.Ytgpdkagmacpghaa.Wo

/- bag.isRipe, bag.Ripe (made by genbag3.py). -/
namespace Go.Proofs.Ytgpdkagmacpghaa.Wo
open Go Go.RowKit Go.Proofs.Ytgpdkagmacpghaa.Gro Go.Proofs.Ytgpdkagmacpghaa.Own Go.Proofs.Ytgpdkagmacpghaa.Wd Go.Proofs.Ytgpdkagmacpghaa.Ap Go.Proofs.Ytgpdkagmacpghaa.Pl
set_option linter.unusedVariables false
set_option linter.unusedSimpArgs false
def ripeB (t e : Int) : Bool := decide (2 ≤ e) && decide (t ≤ e - 2)
theorem u64_in {n : Int} (h0 : 0 ≤ n) (h1 : n < 18446744073709551616) : IntKind.u64.wrap n = n := by
  unfold IntKind.wrap
  rw [show IntKind.u64.bits = 64 from rfl]
  simp [IntKind.signed]
  omega
section
variable {B : Nat} {w : World} {k : IntKind} {t t' : TypeId} {y : Sl} {l : List Int} {g : Nat} {cs : Array Value}
theorem Owned.setCell_ty (h : Owned B w k t y l) (hg : Bk w g cs t') (ht : t' ≠ t) (j : Nat) (v : Value) : Owned B (w.setCell ⟨g, j, none⟩ v) k t y l := by
  refine ⟨h.1, ?_⟩
  rcases h.2 with h0 | ⟨g', cap, cur, he, hge, hh, rest⟩
  · exact .inl h0
  · refine .inr ⟨g', cap, cur, he, hge, (heap_setCell_other w ⟨g, j, none⟩ g' v (fun e => ?_)).trans hh, rest⟩
    subst e
    have := hg.symm.trans hh
    simp only [Option.some.injEq, Obj.cells.injEq] at this
    exact ht this.2.1
theorem Owned.setRow_ty (h : Owned B w k t y l) (hg : Bk w g cs t') (ht : t' ≠ t) (cs' : Array Value) : Owned B (w.setRow g cs') k t y l := by
  refine ⟨h.1, ?_⟩
  rcases h.2 with h0 | ⟨g', cap, cur, he, hge, hh, rest⟩
  · exact .inl h0
  · refine .inr ⟨g', cap, cur, he, hge, (setRow_other w g g' cs' (fun e => ?_)).trans hh, rest⟩
    subst e
    have := hg.symm.trans hh
    simp only [Option.some.injEq, Obj.cells.injEq] at this
    exact ht this.2.1
theorem Fresh.setCell_ty (h : Fresh B w k t y l) (hg : Bk w g cs t') (ht : t' ≠ t) (j : Nat) (v : Value) : Fresh B (w.setCell ⟨g, j, none⟩ v) k t y l := ⟨h.1, h.2.setCell_ty hg ht j v⟩
theorem Fresh.setRow_ty (h : Fresh B w k t y l) (hg : Bk w g cs t') (ht : t' ≠ t) (cs' : Array Value) : Fresh B (w.setRow g cs') k t y l := ⟨h.1, h.2.setRow_ty hg ht cs'⟩
variable {s : Wk} {x : St}
theorem Part.setCell_ty (h : Part B w s x) (hg : Bk w g cs t') (h1 : t' ≠ 3) (h2 : t' ≠ 22) (j : Nat) (v : Value) : Part B (w.setCell ⟨g, j, none⟩ v) s x := ⟨h.p, h.rk.setCell_ty hg h1 j v, h.l0.setCell_ty hg h1 j v, h.l1.setCell_ty hg h1 j v, h.l2.setCell_ty hg h1 j v, h.hl.setCell_ty hg h1 j v, h.rd.setCell_ty hg h2 j v⟩
theorem Part.setRow_ty (h : Part B w s x) (hg : Bk w g cs t') (h1 : t' ≠ 3) (h2 : t' ≠ 22) (cs' : Array Value) : Part B (w.setRow g cs') s x := ⟨h.p, h.rk.setRow_ty hg h1 cs', h.l0.setRow_ty hg h1 cs', h.l1.setRow_ty hg h1 cs', h.l2.setRow_ty hg h1 cs', h.hl.setRow_ty hg h1 cs', h.rd.setRow_ty hg h2 cs'⟩
end
/-- Inside bag.Ripe: the parameter's and the result's boxes, the buckets kept, the state at hand and the copy. -/
structure Rp (w0 : World) (gx gz gk : Nat) (s : Wk) (x : St) (s1 : Wk) (x1 : St) (kc : Array Value) (w : World) : Prop where
  T : Two w0 gx gz s wz w
  K : Bk w gk kc 40
  k0 : w0.heap.size ≤ gk
  P : Part w0.heap.size w s x
  A : Part w0.heap.size w s1 x1
section
variable {w0 w w' : World} {gx gz gk : Nat} {s s' s1 : Wk} {x x' x1 : St} {kc : Array Value}
theorem Rp.keep (h : Rp w0 gx gz gk s x s1 x1 kc w) (hb : Below w.heap.size w w') : Rp w0 gx gz gk s x s1 x1 kc w' := ⟨h.T.keep hb, h.K.keep hb, h.k0, h.P.keep hb, h.A.keep hb⟩
theorem Rp.kx (h : Rp w0 gx gz gk s x s1 x1 kc w) : gk ≠ gx := by
  rintro rfl
  have := h.K.symm.trans h.T.X
  simp at this
theorem Rp.kz (h : Rp w0 gx gz gk s x s1 x1 kc w) : gk ≠ gz := by
  rintro rfl
  have := h.K.symm.trans h.T.Z
  simp at this
theorem Rp.setK (h : Rp w0 gx gz gk s x s1 x1 kc w) (j : Nat) (v : Value) : Rp w0 gx gz gk s x s1 x1 (kc.setIfInBounds j v) (w.setCell ⟨gk, j, none⟩ v) :=
  ⟨⟨h.T.X.setCell_far (a := ⟨gk, j, none⟩) h.kx.symm v, h.T.Z.setCell_far (a := ⟨gk, j, none⟩) h.kz.symm v, h.T.below.setCell (p := ⟨gk, j, none⟩) h.k0 v, h.T.gx0, h.T.gz0, h.T.ne⟩, h.K.setCell j v, h.k0, h.P.setCell_ty h.K (by decide) (by decide) j v, h.A.setCell_ty h.K (by decide) (by decide) j v⟩
theorem Rp.rowX (h : Rp w0 gx gz gk s x s1 x1 kc w) (hp : Part w0.heap.size w s' x') : Rp w0 gx gz gk s' x' s1 x1 kc (w.setRow gx (wc s')) :=
  ⟨h.T.rowX s', h.K.setRow_far h.kx _, h.k0, hp.setRow_ty h.T.X (by decide) (by decide) _, h.A.setRow_ty h.T.X (by decide) (by decide) _⟩
end
/-- bag.Ripe as a function of data. -/
def ripeS (x : St) (e : Int) : St :=
  { x with p := { x.p with t0 := if ripeB x.p.t0 e then 0 else x.p.t0, t1 := if ripeB x.p.t1 e then 0 else x.p.t1, t2 := if ripeB x.p.t2 e then 0 else x.p.t2 }, l0 := if ripeB x.p.t0 e then [] else x.l0, l1 := if ripeB x.p.t1 e then [] else x.l1, l2 := if ripeB x.p.t2 e then [] else x.l2, hl := x.hl ++ (if ripeB x.p.t0 e then x.l0 else []) ++ (if ripeB x.p.t1 e then x.l1 else []) ++ (if ripeB x.p.t2 e then x.l2 else []) }
end Go.Proofs.Ytgpdkagmacpghaa.Wo

/- What the law BagWaits says of the data: each block put is in one place, under its tag. -/
namespace Go.Proofs.Ytgpdkagmacpghaa.Wo
open Go Go.RowKit Go.Proofs.Ytgpdkagmacpghaa.Gro Go.Proofs.Ytgpdkagmacpghaa.Own Go.Proofs.Ytgpdkagmacpghaa.Wd Go.Proofs.Ytgpdkagmacpghaa.Ap Go.Proofs.Ytgpdkagmacpghaa.Pl
set_option linter.unusedVariables false
set_option linter.unusedSimpArgs false

/-- How often a block occurs. -/
def cnt (x : St) (v : Int) : Nat := x.hl.count v + x.l0.count v + x.l1.count v + x.l2.count v
structure Bkt (j : Int) (t ep : Int) (l T : List Int) : Prop where
  t0 : 0 ≤ t
  t1 : t ≤ ep + 1
  of : ∀ v ∈ l, T.getD v.toNat 0 = t ∧ t % 3 = j
/-- After i puts. -/
structure WInv (n i : Nat) (x : St) (T : List Int) : Prop where
  ep0 : 2 ≤ x.p.ep
  ep1 : x.p.ep ≤ 2 + 5 * (i : Int)
  len : T.length = n
  rk : x.rk = []
  rd : x.rd = []
  all : x.hl.length + x.l0.length + x.l1.length + x.l2.length ≤ i
  b0 : Bkt 0 x.p.t0 x.p.ep x.l0 T
  b1 : Bkt 1 x.p.t1 x.p.ep x.l1 T
  b2 : Bkt 2 x.p.t2 x.p.ep x.l2 T
  one : ∀ v : Int, cnt x v = if 0 ≤ v ∧ v < (i : Int) ∧ T.getD v.toNat 0 ≠ 0 then 1 else 0
  pos : ∀ k, 0 ≤ T.getD k 0
  top : ∀ k, T.getD k 0 ≤ x.p.ep + 1
/-- The state with its epoch raised. -/
def withE (x : St) (e : Int) : St := { x with p := { x.p with ep := e } }
theorem Bkt.up {j t ep ep' : Int} {l T : List Int} (h : Bkt j t ep l T) (he : ep ≤ ep') : Bkt j t ep' l T := ⟨h.t0, by have := h.t1; omega, h.of⟩
theorem Bkt.nil {j t ep : Int} {T : List Int} (h0 : 0 ≤ t) (h1 : t ≤ ep + 1) : Bkt j t ep [] T := ⟨h0, h1, fun v hv => by cases hv⟩
theorem getD_set {T : List Int} {i k : Nat} {a : Int} (hi : i < T.length) : (T.set i a).getD k 0 = if k = i then a else T.getD k 0 := by
  rw [List.getD_eq_getElem?_getD, List.getD_eq_getElem?_getD, List.getElem?_set]
  by_cases h : i = k
  · subst h; simp [hi]
  · simp [h, Ne.symm h]
theorem count_pos_of_mem {l : List Int} {v : Int} (h : v ∈ l) : 0 < l.count v := List.count_pos_iff.2 h
theorem mem_of_cnt {n i : Nat} {x : St} {T : List Int} (h : WInv n i x T) {v : Int} (hv : 0 < cnt x v) : 0 ≤ v ∧ v < (i : Int) ∧ T.getD v.toNat 0 ≠ 0 := by
  have := h.one v
  split at this
  · assumption
  · omega
/-- Elements of the state's lists keep their tags when a new one is written. -/
theorem Bkt.set {n i : Nat} {x : St} {T : List Int} (h : WInv n i x T) (hi : i < n) {j t ep : Int} {l : List Int} (b : Bkt j t ep l T) (hl : ∀ v ∈ l, 0 < cnt x v) (a : Int) : Bkt j t ep l (T.set i a) :=
  ⟨b.t0, b.t1, fun v hv => by
    obtain ⟨h1, h2, _⟩ := mem_of_cnt h (hl v hv)
    rw [getD_set (by rw [h.len]; exact hi), if_neg (by omega)]
    exact b.of v hv⟩
theorem tag_withE {x : St} {e : Int} (h0 : 0 ≤ e) (h1 : e < 1000) : tagOf (withE x e) = e + 1 := by
  unfold tagOf withE
  exact u64_in (by simp; omega) (by simp; omega)
def xE0 : St := ⟨{ pz with ep := 2 }, [], [], [], [], [], []⟩
/-- What one round does to the data. -/
structure Rnd (n i : Nat) (x y : St) (T T' : List Int) (e : Int) : Prop where
  inv : WInv n (i + 1) y T'
  ep : y.p.ep = e
  hl : ∃ M, y.hl = x.hl ++ M ∧ ∀ b ∈ M, 0 ≤ b ∧ b < (i : Int) ∧ T'.getD b.toNat 0 ≠ 0 ∧ T'.getD b.toNat 0 + 2 ≤ e
  few : y.hl.length ≤ n
/-- The bucket of the tag, prepared, and perhaps with a new block. -/
theorem rnd_mk {n i : Nat} {x y : St} {T : List Int} {e a : Int} (h : WInv n i x T) (hi : i < n) (he : x.p.ep ≤ e) (he1 : e ≤ x.p.ep + 5)
    (hep : y.p.ep = e) (hrk : y.rk = []) (hrd : y.rd = [])
    (M L : List Int) (hy : y.hl = x.hl ++ M) (hM : ∀ v ∈ M, 0 < cnt x v ∧ T.getD v.toNat 0 + 2 ≤ e)
    (hc : ∀ v, cnt y v = cnt x v + L.count v) (hlen : y.hl.length + y.l0.length + y.l1.length + y.l2.length ≤ x.hl.length + x.l0.length + x.l1.length + x.l2.length + 1)
    (hL : (L = [] ∧ a = 0) ∨ (L = [(i : Int)] ∧ a = e + 1))
    (B0 : Bkt 0 y.p.t0 e y.l0 (T.set i a)) (B1 : Bkt 1 y.p.t1 e y.l1 (T.set i a)) (B2 : Bkt 2 y.p.t2 e y.l2 (T.set i a)) : Rnd n i x y T (T.set i a) e := by
  have hil : i < T.length := by rw [h.len]; exact hi
  have h0 := h.ep0
  refine ⟨⟨by omega, by have := h.ep1; rw [hep]; omega, by simp [h.len], hrk, hrd, by have := h.all; omega, by rw [hep]; exact B0, by rw [hep]; exact B1, by rw [hep]; exact B2, fun v => ?_, fun k => ?_, fun k => ?_⟩, hep, ⟨M, hy, fun b hb => ?_⟩, by have := h.all; omega⟩
  · rw [hc, h.one]
    have ho : ∀ k : Nat, (T.set i a).getD k 0 = if k = i then a else T.getD k 0 := fun k => getD_set hil
    rw [ho]
    by_cases hv : v = (i : Int)
    · subst hv
      rcases hL with ⟨rfl, rfl⟩ | ⟨rfl, rfl⟩
      · simp
      · have : e + 1 ≠ 0 := by omega
        simp [this]; omega
    · have hLc : L.count v = 0 := by
        rcases hL with ⟨rfl, _⟩ | ⟨rfl, _⟩
        · rfl
        · rw [List.count_singleton]; simp; omega
      rw [hLc, Nat.add_zero]
      by_cases h0v : 0 ≤ v
      · have hne : v.toNat ≠ i := by omega
        rw [if_neg hne]
        by_cases hlt : v < (i : Int)
        · have : v < (i : Int) + 1 := by omega
          simp [h0v, hlt, this]
        · have : ¬ v < (i : Int) + 1 := by omega
          simp [hlt, this]
      · simp [h0v]
  · rw [getD_set hil]
    split
    · rcases hL with ⟨_, rfl⟩ | ⟨_, rfl⟩ <;> omega
    · exact h.pos k
  · rw [getD_set hil, hep]
    have := h.top k
    split
    · rcases hL with ⟨_, rfl⟩ | ⟨_, rfl⟩ <;> omega
    · omega
  · obtain ⟨h1, h2⟩ := hM b hb
    obtain ⟨h3, h4, h5⟩ := mem_of_cnt h h1
    rw [getD_set hil, if_neg (by omega)]
    exact ⟨h3, h4, h5, h2⟩
/-- The round (made by genbw.py). -/
theorem mem0 {x : St} {v : Int} (h : v ∈ x.l0) : 0 < cnt x v := by have := count_pos_of_mem h; unfold cnt; omega
theorem mem1 {x : St} {v : Int} (h : v ∈ x.l1) : 0 < cnt x v := by have := count_pos_of_mem h; unfold cnt; omega
theorem mem2 {x : St} {v : Int} (h : v ∈ x.l2) : 0 < cnt x v := by have := count_pos_of_mem h; unfold cnt; omega
theorem rnd0_same_room {n i : Nat} {x : St} {T : List Int} (h : WInv n i x T) (hi : i < n) (e : Int) (he : x.p.ep ≤ e) (he1 : e ≤ x.p.ep + 5) (hm : (e + 1) % 3 = 0) (ht : x.p.t0 = e + 1) : Rnd n i x { withE x e with l0 := x.l0 ++ [(i : Int)] } T (T.set i (e + 1)) e := by
  have hil : i < T.length := by rw [h.len]; exact hi
  have hep0 := h.ep0
  have hb := h.b0
  refine rnd_mk h hi he he1 rfl h.rk h.rd [] [(i : Int)] (by simp [withE]) (fun v hv => by cases hv) (fun v => ?_) ?_ (.inr ⟨rfl, rfl⟩) ?_ ((h.b1.up he).set h hi (fun v hv => mem1 hv) (e + 1)) ((h.b2.up he).set h hi (fun v hv => mem2 hv) (e + 1))
  · simp [cnt, withE, List.count_append] <;> omega
  · simp [withE] <;> omega
  · refine ⟨by simp [withE] <;> omega, by simp [withE] <;> omega, fun v hv => ?_⟩
    rcases List.mem_append.1 hv with hv | hv
    · obtain ⟨q1, q2⟩ := (((h.b0.up he).set h hi (fun v hv => mem0 hv) (e + 1))).of v hv
      exact ⟨q1, q2⟩
    · obtain rfl := List.mem_singleton.1 hv
      rw [getD_set hil, if_pos (by omega)]
      exact ⟨ht.symm, by rw [show (withE x e).p.t0 = e + 1 from ht]; exact hm⟩
theorem rnd0_same_full {n i : Nat} {x : St} {T : List Int} (h : WInv n i x T) (hi : i < n) (e : Int) (he : x.p.ep ≤ e) (he1 : e ≤ x.p.ep + 5) (hm : (e + 1) % 3 = 0) (ht : x.p.t0 = e + 1) : Rnd n i x (withE x e) T (T.set i 0) e := by
  have hil : i < T.length := by rw [h.len]; exact hi
  have hep0 := h.ep0
  have hb := h.b0
  refine rnd_mk h hi he he1 rfl h.rk h.rd [] [] (by simp [withE]) (fun v hv => by cases hv) (fun v => ?_) ?_ (.inl ⟨rfl, rfl⟩) ?_ ((h.b1.up he).set h hi (fun v hv => mem1 hv) 0) ((h.b2.up he).set h hi (fun v hv => mem2 hv) 0)
  · simp [cnt, withE]
  · simp [withE] <;> omega
  · exact ((h.b0.up he).set h hi (fun v hv => mem0 hv) 0)
theorem rnd0_other_room {n i : Nat} {x : St} {T : List Int} (h : WInv n i x T) (hi : i < n) (e : Int) (he : x.p.ep ≤ e) (he1 : e ≤ x.p.ep + 5) (hm : (e + 1) % 3 = 0) (ht : ¬ x.p.t0 = e + 1) : Rnd n i x { withE x e with p := { (withE x e).p with t0 := e + 1 }, l0 := [] ++ [(i : Int)], hl := x.hl ++ x.l0 } T (T.set i (e + 1)) e := by
  have hil : i < T.length := by rw [h.len]; exact hi
  have hep0 := h.ep0
  have hb := h.b0
  refine rnd_mk h hi he he1 rfl h.rk h.rd x.l0 [(i : Int)] rfl (fun v hv => ⟨mem0 hv, by obtain ⟨q1, q2⟩ := hb.of v hv; have := hb.t1; rw [q1]; omega⟩) (fun v => ?_) ?_ (.inr ⟨rfl, rfl⟩) ?_ ((h.b1.up he).set h hi (fun v hv => mem1 hv) (e + 1)) ((h.b2.up he).set h hi (fun v hv => mem2 hv) (e + 1))
  · simp [cnt, withE, List.count_append] <;> omega
  · simp [withE] <;> omega
  · refine ⟨by simp [withE] <;> omega, by simp [withE] <;> omega, fun v hv => ?_⟩
    obtain rfl := List.mem_singleton.1 hv
    rw [getD_set hil, if_pos (by omega)]
    exact ⟨rfl, hm⟩
theorem rnd0_other_full {n i : Nat} {x : St} {T : List Int} (h : WInv n i x T) (hi : i < n) (e : Int) (he : x.p.ep ≤ e) (he1 : e ≤ x.p.ep + 5) (hm : (e + 1) % 3 = 0) (ht : ¬ x.p.t0 = e + 1) : Rnd n i x { withE x e with p := { (withE x e).p with t0 := e + 1 }, l0 := [], hl := x.hl ++ x.l0 } T (T.set i 0) e := by
  have hil : i < T.length := by rw [h.len]; exact hi
  have hep0 := h.ep0
  have hb := h.b0
  refine rnd_mk h hi he he1 rfl h.rk h.rd x.l0 [] rfl (fun v hv => ⟨mem0 hv, by obtain ⟨q1, q2⟩ := hb.of v hv; have := hb.t1; rw [q1]; omega⟩) (fun v => ?_) ?_ (.inl ⟨rfl, rfl⟩) ?_ ((h.b1.up he).set h hi (fun v hv => mem1 hv) 0) ((h.b2.up he).set h hi (fun v hv => mem2 hv) 0)
  · simp [cnt, withE, List.count_append] <;> omega
  · simp [withE] <;> omega
  · exact Bkt.nil (by simp <;> omega) (by simp <;> omega)
theorem rnd1_same_room {n i : Nat} {x : St} {T : List Int} (h : WInv n i x T) (hi : i < n) (e : Int) (he : x.p.ep ≤ e) (he1 : e ≤ x.p.ep + 5) (hm : (e + 1) % 3 = 1) (ht : x.p.t1 = e + 1) : Rnd n i x { withE x e with l1 := x.l1 ++ [(i : Int)] } T (T.set i (e + 1)) e := by
  have hil : i < T.length := by rw [h.len]; exact hi
  have hep0 := h.ep0
  have hb := h.b1
  refine rnd_mk h hi he he1 rfl h.rk h.rd [] [(i : Int)] (by simp [withE]) (fun v hv => by cases hv) (fun v => ?_) ?_ (.inr ⟨rfl, rfl⟩) ((h.b0.up he).set h hi (fun v hv => mem0 hv) (e + 1)) ?_ ((h.b2.up he).set h hi (fun v hv => mem2 hv) (e + 1))
  · simp [cnt, withE, List.count_append] <;> omega
  · simp [withE] <;> omega
  · refine ⟨by simp [withE] <;> omega, by simp [withE] <;> omega, fun v hv => ?_⟩
    rcases List.mem_append.1 hv with hv | hv
    · obtain ⟨q1, q2⟩ := (((h.b1.up he).set h hi (fun v hv => mem1 hv) (e + 1))).of v hv
      exact ⟨q1, q2⟩
    · obtain rfl := List.mem_singleton.1 hv
      rw [getD_set hil, if_pos (by omega)]
      exact ⟨ht.symm, by rw [show (withE x e).p.t1 = e + 1 from ht]; exact hm⟩
theorem rnd1_same_full {n i : Nat} {x : St} {T : List Int} (h : WInv n i x T) (hi : i < n) (e : Int) (he : x.p.ep ≤ e) (he1 : e ≤ x.p.ep + 5) (hm : (e + 1) % 3 = 1) (ht : x.p.t1 = e + 1) : Rnd n i x (withE x e) T (T.set i 0) e := by
  have hil : i < T.length := by rw [h.len]; exact hi
  have hep0 := h.ep0
  have hb := h.b1
  refine rnd_mk h hi he he1 rfl h.rk h.rd [] [] (by simp [withE]) (fun v hv => by cases hv) (fun v => ?_) ?_ (.inl ⟨rfl, rfl⟩) ((h.b0.up he).set h hi (fun v hv => mem0 hv) 0) ?_ ((h.b2.up he).set h hi (fun v hv => mem2 hv) 0)
  · simp [cnt, withE]
  · simp [withE] <;> omega
  · exact ((h.b1.up he).set h hi (fun v hv => mem1 hv) 0)
theorem rnd1_other_room {n i : Nat} {x : St} {T : List Int} (h : WInv n i x T) (hi : i < n) (e : Int) (he : x.p.ep ≤ e) (he1 : e ≤ x.p.ep + 5) (hm : (e + 1) % 3 = 1) (ht : ¬ x.p.t1 = e + 1) : Rnd n i x { withE x e with p := { (withE x e).p with t1 := e + 1 }, l1 := [] ++ [(i : Int)], hl := x.hl ++ x.l1 } T (T.set i (e + 1)) e := by
  have hil : i < T.length := by rw [h.len]; exact hi
  have hep0 := h.ep0
  have hb := h.b1
  refine rnd_mk h hi he he1 rfl h.rk h.rd x.l1 [(i : Int)] rfl (fun v hv => ⟨mem1 hv, by obtain ⟨q1, q2⟩ := hb.of v hv; have := hb.t1; rw [q1]; omega⟩) (fun v => ?_) ?_ (.inr ⟨rfl, rfl⟩) ((h.b0.up he).set h hi (fun v hv => mem0 hv) (e + 1)) ?_ ((h.b2.up he).set h hi (fun v hv => mem2 hv) (e + 1))
  · simp [cnt, withE, List.count_append] <;> omega
  · simp [withE] <;> omega
  · refine ⟨by simp [withE] <;> omega, by simp [withE] <;> omega, fun v hv => ?_⟩
    obtain rfl := List.mem_singleton.1 hv
    rw [getD_set hil, if_pos (by omega)]
    exact ⟨rfl, hm⟩
theorem rnd1_other_full {n i : Nat} {x : St} {T : List Int} (h : WInv n i x T) (hi : i < n) (e : Int) (he : x.p.ep ≤ e) (he1 : e ≤ x.p.ep + 5) (hm : (e + 1) % 3 = 1) (ht : ¬ x.p.t1 = e + 1) : Rnd n i x { withE x e with p := { (withE x e).p with t1 := e + 1 }, l1 := [], hl := x.hl ++ x.l1 } T (T.set i 0) e := by
  have hil : i < T.length := by rw [h.len]; exact hi
  have hep0 := h.ep0
  have hb := h.b1
  refine rnd_mk h hi he he1 rfl h.rk h.rd x.l1 [] rfl (fun v hv => ⟨mem1 hv, by obtain ⟨q1, q2⟩ := hb.of v hv; have := hb.t1; rw [q1]; omega⟩) (fun v => ?_) ?_ (.inl ⟨rfl, rfl⟩) ((h.b0.up he).set h hi (fun v hv => mem0 hv) 0) ?_ ((h.b2.up he).set h hi (fun v hv => mem2 hv) 0)
  · simp [cnt, withE, List.count_append] <;> omega
  · simp [withE] <;> omega
  · exact Bkt.nil (by simp <;> omega) (by simp <;> omega)
theorem rnd2_same_room {n i : Nat} {x : St} {T : List Int} (h : WInv n i x T) (hi : i < n) (e : Int) (he : x.p.ep ≤ e) (he1 : e ≤ x.p.ep + 5) (hm : (e + 1) % 3 = 2) (ht : x.p.t2 = e + 1) : Rnd n i x { withE x e with l2 := x.l2 ++ [(i : Int)] } T (T.set i (e + 1)) e := by
  have hil : i < T.length := by rw [h.len]; exact hi
  have hep0 := h.ep0
  have hb := h.b2
  refine rnd_mk h hi he he1 rfl h.rk h.rd [] [(i : Int)] (by simp [withE]) (fun v hv => by cases hv) (fun v => ?_) ?_ (.inr ⟨rfl, rfl⟩) ((h.b0.up he).set h hi (fun v hv => mem0 hv) (e + 1)) ((h.b1.up he).set h hi (fun v hv => mem1 hv) (e + 1)) ?_
  · simp [cnt, withE, List.count_append] <;> omega
  · simp [withE] <;> omega
  · refine ⟨by simp [withE] <;> omega, by simp [withE] <;> omega, fun v hv => ?_⟩
    rcases List.mem_append.1 hv with hv | hv
    · obtain ⟨q1, q2⟩ := (((h.b2.up he).set h hi (fun v hv => mem2 hv) (e + 1))).of v hv
      exact ⟨q1, q2⟩
    · obtain rfl := List.mem_singleton.1 hv
      rw [getD_set hil, if_pos (by omega)]
      exact ⟨ht.symm, by rw [show (withE x e).p.t2 = e + 1 from ht]; exact hm⟩
theorem rnd2_same_full {n i : Nat} {x : St} {T : List Int} (h : WInv n i x T) (hi : i < n) (e : Int) (he : x.p.ep ≤ e) (he1 : e ≤ x.p.ep + 5) (hm : (e + 1) % 3 = 2) (ht : x.p.t2 = e + 1) : Rnd n i x (withE x e) T (T.set i 0) e := by
  have hil : i < T.length := by rw [h.len]; exact hi
  have hep0 := h.ep0
  have hb := h.b2
  refine rnd_mk h hi he he1 rfl h.rk h.rd [] [] (by simp [withE]) (fun v hv => by cases hv) (fun v => ?_) ?_ (.inl ⟨rfl, rfl⟩) ((h.b0.up he).set h hi (fun v hv => mem0 hv) 0) ((h.b1.up he).set h hi (fun v hv => mem1 hv) 0) ?_
  · simp [cnt, withE]
  · simp [withE] <;> omega
  · exact ((h.b2.up he).set h hi (fun v hv => mem2 hv) 0)
theorem rnd2_other_room {n i : Nat} {x : St} {T : List Int} (h : WInv n i x T) (hi : i < n) (e : Int) (he : x.p.ep ≤ e) (he1 : e ≤ x.p.ep + 5) (hm : (e + 1) % 3 = 2) (ht : ¬ x.p.t2 = e + 1) : Rnd n i x { withE x e with p := { (withE x e).p with t2 := e + 1 }, l2 := [] ++ [(i : Int)], hl := x.hl ++ x.l2 } T (T.set i (e + 1)) e := by
  have hil : i < T.length := by rw [h.len]; exact hi
  have hep0 := h.ep0
  have hb := h.b2
  refine rnd_mk h hi he he1 rfl h.rk h.rd x.l2 [(i : Int)] rfl (fun v hv => ⟨mem2 hv, by obtain ⟨q1, q2⟩ := hb.of v hv; have := hb.t1; rw [q1]; omega⟩) (fun v => ?_) ?_ (.inr ⟨rfl, rfl⟩) ((h.b0.up he).set h hi (fun v hv => mem0 hv) (e + 1)) ((h.b1.up he).set h hi (fun v hv => mem1 hv) (e + 1)) ?_
  · simp [cnt, withE, List.count_append] <;> omega
  · simp [withE] <;> omega
  · refine ⟨by simp [withE] <;> omega, by simp [withE] <;> omega, fun v hv => ?_⟩
    obtain rfl := List.mem_singleton.1 hv
    rw [getD_set hil, if_pos (by omega)]
    exact ⟨rfl, hm⟩
theorem rnd2_other_full {n i : Nat} {x : St} {T : List Int} (h : WInv n i x T) (hi : i < n) (e : Int) (he : x.p.ep ≤ e) (he1 : e ≤ x.p.ep + 5) (hm : (e + 1) % 3 = 2) (ht : ¬ x.p.t2 = e + 1) : Rnd n i x { withE x e with p := { (withE x e).p with t2 := e + 1 }, l2 := [], hl := x.hl ++ x.l2 } T (T.set i 0) e := by
  have hil : i < T.length := by rw [h.len]; exact hi
  have hep0 := h.ep0
  have hb := h.b2
  refine rnd_mk h hi he he1 rfl h.rk h.rd x.l2 [] rfl (fun v hv => ⟨mem2 hv, by obtain ⟨q1, q2⟩ := hb.of v hv; have := hb.t1; rw [q1]; omega⟩) (fun v => ?_) ?_ (.inl ⟨rfl, rfl⟩) ((h.b0.up he).set h hi (fun v hv => mem0 hv) 0) ((h.b1.up he).set h hi (fun v hv => mem1 hv) 0) ?_
  · simp [cnt, withE, List.count_append] <;> omega
  · simp [withE] <;> omega
  · exact Bkt.nil (by simp <;> omega) (by simp <;> omega)
/-- One round. -/
theorem round_of {n i : Nat} {x : St} {T : List Int} (h : WInv n i x T) (hi : i < n) (hn : n ≤ 40) (d m : Int) (hd0 : 0 ≤ d) (hd1 : d ≤ 5) :
    Rnd n i x (putB m (withE x (x.p.ep + d)) i).1 T (T.set i (if (putB m (withE x (x.p.ep + d)) i).2 = true then x.p.ep + d + 1 else 0)) (x.p.ep + d) := by
  have h1 := h.ep1
  have h0 := h.ep0
  obtain ⟨e, he⟩ : ∃ e, e = x.p.ep + d := ⟨_, rfl⟩
  rw [← he]
  have g1 : x.p.ep ≤ e := by omega
  have g2 : e ≤ x.p.ep + 5 := by omega
  have hT := tag_withE (x := x) (e := e) (by omega) (by omega)
  unfold putB
  rw [hT]
  by_cases c0 : (e + 1) % 3 = 0
  · rw [if_pos c0]
    unfold prep0
    rw [hT]
    by_cases ht : (withE x e).p.t0 = e + 1
    · rw [if_pos ht]
      split
      · exact rnd0_same_room h hi e g1 g2 c0 ht
      · exact rnd0_same_full h hi e g1 g2 c0 ht
    · rw [if_neg ht]
      split
      · exact rnd0_other_room h hi e g1 g2 c0 ht
      · exact rnd0_other_full h hi e g1 g2 c0 ht
  · rw [if_neg c0]
    by_cases c1 : (e + 1) % 3 = 1
    · rw [if_pos c1]
      unfold prep1
      rw [hT]
      by_cases ht : (withE x e).p.t1 = e + 1
      · rw [if_pos ht]
        split
        · exact rnd1_same_room h hi e g1 g2 c1 ht
        · exact rnd1_same_full h hi e g1 g2 c1 ht
      · rw [if_neg ht]
        split
        · exact rnd1_other_room h hi e g1 g2 c1 ht
        · exact rnd1_other_full h hi e g1 g2 c1 ht
    · rw [if_neg c1]
      have c2 : (e + 1) % 3 = 2 := by omega
      unfold prep2
      rw [hT]
      by_cases ht : (withE x e).p.t2 = e + 1
      · rw [if_pos ht]
        split
        · exact rnd2_same_room h hi e g1 g2 c2 ht
        · exact rnd2_same_full h hi e g1 g2 c2 ht
      · rw [if_neg ht]
        split
        · exact rnd2_other_room h hi e g1 g2 c2 ht
        · exact rnd2_other_full h hi e g1 g2 c2 ht
/-- Three epochs later everything is ripe. -/
theorem ripe_all {n i : Nat} {x : St} {T : List Int} (h : WInv n i x T) : (ripeS x (x.p.ep + 3)).l0 = [] ∧ (ripeS x (x.p.ep + 3)).l1 = [] ∧ (ripeS x (x.p.ep + 3)).l2 = [] ∧ (∀ v, (ripeS x (x.p.ep + 3)).hl.count v = cnt x v) ∧ (ripeS x (x.p.ep + 3)).hl.length ≤ i := by
  have e0 := h.ep0
  have r0 : ripeB x.p.t0 (x.p.ep + 3) = true := by have := h.b0.t1; simp [ripeB]; omega
  have r1 : ripeB x.p.t1 (x.p.ep + 3) = true := by have := h.b1.t1; simp [ripeB]; omega
  have r2 : ripeB x.p.t2 (x.p.ep + 3) = true := by have := h.b2.t1; simp [ripeB]; omega
  have ha := h.all
  unfold ripeS
  rw [r0, r1, r2]
  refine ⟨by simp, by simp, by simp, fun v => ?_, by simp; omega⟩
  simp [cnt, List.count_append]
  omega
/-- The start. -/
theorem winv_start (n : Nat) : WInv n 0 xE0 (List.replicate n 0) := by
  have hg : ∀ k, (List.replicate n (0 : Int)).getD k 0 = 0 := fun k => by
    rw [List.getD_eq_getElem?_getD, List.getElem?_replicate]
    split <;> rfl
  refine ⟨by decide, by decide, by simp, rfl, rfl, by decide, Bkt.nil (by decide) (by decide), Bkt.nil (by decide) (by decide), Bkt.nil (by decide) (by decide), fun v => ?_, fun k => by rw [hg]; decide, fun k => by rw [hg]; decide⟩
  rw [hg]
  simp [cnt, xE0]
/-- Element k of a list in which it occurs once does not stand ahead of it. -/
theorem not_ahead {l : List Int} {k : Nat} (hk : k < l.length) (h : l.count l[k] ≤ 1) : l[k] ∉ l.take k := by
  intro hm
  have h1 := count_pos_of_mem hm
  have h2 : ∀ v, l.count v = (l.take k).count v + (l.drop k).count v := fun v => by
    rw [← List.count_append, List.take_append_drop]
  have h2 := h2 l[k]
  have h3 : 0 < (l.drop k).count l[k] := count_pos_of_mem (by rw [List.drop_eq_getElem_cons hk]; exact List.mem_cons_self ..)
  omega
end Go.Proofs.Ytgpdkagmacpghaa.Wo

/- bag.Ripe, way by way (made by genbag3.py). -/
namespace Go.Proofs.Ytgpdkagmacpghaa.Wo
open Go Go.RowKit Go.Proofs.Ytgpdkagmacpghaa.Gro Go.Proofs.Ytgpdkagmacpghaa.Own Go.Proofs.Ytgpdkagmacpghaa.Wd Go.Proofs.Ytgpdkagmacpghaa.Ap Go.Proofs.Ytgpdkagmacpghaa.Pl
set_option linter.unusedVariables false
set_option linter.unusedSimpArgs false
end Go.Proofs.Ytgpdkagmacpghaa.Wo

/- The example of layer 5 (made by genbagaw.py). -/
namespace Go.Proofs.Ytgpdkagmacpghaa.Wo
open Go Go.RowKit Go.Proofs.Ytgpdkagmacpghaa.Gro Go.Proofs.Ytgpdkagmacpghaa.Own Go.Proofs.Ytgpdkagmacpghaa.Wd Go.Proofs.Ytgpdkagmacpghaa.Ap Go.Proofs.Ytgpdkagmacpghaa.Pl
set_option linter.unusedVariables false
set_option linter.unusedSimpArgs false

abbrev c5 : Cfg := ⟨0, 0, 0, 0, 0, 0, 1, 0⟩
def pE : Pl := { pz with ep := 2 }
def wE : Wk := { wz with p := pE }
def xE : St := { zS with p := pE }
def x5 : St := { zS with p := { pE with t0 := 3 }, l0 := [7] }
theorem lies_E (w : World) : Lies w wE xE := ⟨rfl, Reads.nil _ _, Reads.nil _ _, Reads.nil _ _, Reads.nil _ _, Reads.nil _ _, Reads.nil _ _⟩
theorem build_c5 (w : World) : (Instr.build 24 #[(6, .int .i64 1)]).run Try.prog w = .ok (cv c5) w := run_build w _ _ _ (by kernel_rfl)
theorem build_wE (w : World) : (Instr.build 43 #[(3, .int .u64 2)]).run Try.prog w = .ok (wv wE) w := run_build w _ _ _ (by kernel_rfl)
theorem put_5 : putB c5.bg xE 7 = (x5, true) := by decide
theorem ripe_54 : ripeS x5 4 = x5 := by decide
theorem ripe_55 : ripeS x5 5 = { x5 with p := { x5.p with t0 := 0 }, l0 := [], hl := [7] } := by decide
end Go.Proofs.Ytgpdkagmacpghaa.Wo
