/- Inside BagWaits: the state's box and the list of tags; a list of bools of the call's own. -/
import Derived.Test.YtgpdkagmacpghaaBags
import Derived.Test.YtgpdkagmacpghaaEnv
namespace Go.Proofs.Ytgpdkagmacpghaa.Wo
open Go Go.RowKit Go.Proofs.Ytgpdkagmacpghaa.Gro Go.Proofs.Ytgpdkagmacpghaa.Own Go.Proofs.Ytgpdkagmacpghaa.Wd Go.Proofs.Ytgpdkagmacpghaa.Ap Go.Proofs.Ytgpdkagmacpghaa.Pl
set_option linter.unusedVariables false
set_option linter.unusedSimpArgs false

theorem reads_cell {w : World} {k : IntKind} {y : Sl} {l : List Int} {g : Nat} (h : Reads w k y.v l) (hn : l = [] ∨ ∀ a, y.ad = some a → a.block ≠ g) (j : Nat) (v : Value) : Reads (w.setCell ⟨g, j, none⟩ v) k y.v l := by
  obtain ⟨ad, cap, he, h1, h2, h3⟩ := h
  refine ⟨ad, cap, he, h1, h2, ?_⟩
  rcases h3 with h3 | ⟨b, off, rfl, hlt, h3⟩
  · exact .inl h3
  · rcases hn with hn | hn
    · exact .inl hn
    · simp only [Sl.v, Value.slice.injEq] at he
      exact .inr ⟨b, off, rfl, by simpa using hlt, fun i hi => (World.cell?_of_block (heap_setCell_other w ⟨g, j, none⟩ b v (hn _ he.1))).trans (h3 i hi)⟩
theorem Lies.cellN {w : World} {s : Wk} {x : St} {g : Nat} (h : Lies w s x) (hn : NoB g s x) (j : Nat) (v : Value) : Lies (w.setCell ⟨g, j, none⟩ v) s x :=
  ⟨h.p, reads_cell h.rk hn.rk j v, reads_cell h.l0 hn.l0 j v, reads_cell h.l1 hn.l1 j v, reads_cell h.l2 hn.l2 j v, reads_cell h.hl hn.hl j v, reads_cell h.rd hn.rd j v⟩
structure Wt (w0 : World) (c : Cfg) (gx gt : Nat) (s : Wk) (x : St) (T : List Int) (w : World) : Prop where
  C : Bk w w0.heap.size (ccW c) 24
  X : Bk w gx (wc s) 43
  L : Lies w s x
  T : Bk w gt (iv .u64 T) 22
  gx0 : w0.heap.size ≤ gx
  gt0 : w0.heap.size ≤ gt
  nx : NoB gx s x
  nt : NoB gt s x
  below : Below w0.heap.size w0 w
section
variable {w0 w w' : World} {c : Cfg} {gx gt : Nat} {s s' : Wk} {x x' : St} {T : List Int}
theorem Wt.keep (h : Wt w0 c gx gt s x T w) (hb : Below w.heap.size w w') : Wt w0 c gx gt s x T w' :=
  ⟨h.C.keep hb, h.X.keep hb, h.L.keep hb, h.T.keep hb, h.gx0, h.gt0, h.nx, h.nt, h.below.trans (hb.mono h.below.size)⟩
theorem bk_ne {g g' : Nat} {cs cs' : Array Value} {t t' : TypeId} (h : Bk w g cs t) (h' : Bk w g' cs' t') (ht : t ≠ t') : g ≠ g' := by
  rintro rfl
  have := h.symm.trans h'
  simp only [Option.some.injEq, Obj.cells.injEq] at this
  exact ht this.2.1
theorem Wt.cellE (h : Wt w0 c gx gt s x T w) (e : Int) : Wt w0 c gx gt { s with p := { s.p with ep := e } } (withE x e) T (w.setCell ⟨gx, 9, none⟩ (.int .u64 e)) := by
  have l := h.L.cellN h.nx 9 (.int .u64 e)
  exact ⟨h.C.setCell_far (a := ⟨gx, 9, none⟩) (bk_ne h.C h.X (by decide)) _, h.X.setCell 9 _, ⟨by simp [withE, h.L.p], l.rk, l.l0, l.l1, l.l2, l.hl, l.rd⟩, h.T.setCell_far (a := ⟨gx, 9, none⟩) (bk_ne h.T h.X (by decide)) _, h.gx0, h.gt0, ⟨h.nx.rk, h.nx.l0, h.nx.l1, h.nx.l2, h.nx.hl, h.nx.rd⟩, ⟨h.nt.rk, h.nt.l0, h.nt.l1, h.nt.l2, h.nt.hl, h.nt.rd⟩, h.below.setCell (p := ⟨gx, 9, none⟩) h.gx0 _⟩
theorem Wt.tag (h : Wt w0 c gx gt s x T w) (i : Nat) (a : Int) : Wt w0 c gx gt s x (T.set i a) (w.setCell ⟨gt, i, none⟩ (.int .u64 a)) :=
  ⟨h.C.setCell_far (a := ⟨gt, i, none⟩) (bk_ne h.C h.T (by decide)) _, h.X.setCell_far (a := ⟨gt, i, none⟩) (bk_ne h.X h.T (by decide)) _, h.L.cellN h.nt i _, by have := h.T.setCell i (.int .u64 a); rwa [iv_set] at this, h.gx0, h.gt0, h.nx, h.nt, h.below.setCell (p := ⟨gt, i, none⟩) h.gt0 _⟩
theorem Wt.row (h : Wt w0 c gx gt s x T w) {B : Nat} (hl : LiesF B w s' x') (hx : gx < B) (ht : gt < B) : Wt w0 c gx gt s' x' T (w.setRow gx (wc s')) :=
  ⟨h.C.setRow_far (bk_ne h.C h.X (by decide)) _, h.X.setRow _, hl.lies.row (noB_far hl hx) _, h.T.setRow_far (bk_ne h.T h.X (by decide)) _, h.gx0, h.gt0, noB_far hl hx, noB_far hl ht, below_setRow h.below h.gx0 _⟩
end
def bv (l : List Bool) : Array Value := (l.map Value.bool).toArray
theorem bv_get {l : List Bool} {i : Nat} (h : i < l.length) : (bv l)[i]? = some (.bool l[i]) := by simp [bv, h]
theorem bv_set (l : List Bool) (i : Nat) (b : Bool) : (bv l).setIfInBounds i (.bool b) = bv (l.set i b) := by simp [bv]
theorem infoB : ∃ i, Try.prog.info? 4 = some i ∧ i.zero = some (.bool false) ∧ i.size = 1 ∧ i.bytes = 1 := by
  have h : (Try.prog.info? 4).map (fun i => (i.zero, i.size, i.bytes)) = some (some (.bool false), 1, 1) := by kernel_rfl
  exact info_parts h
theorem make_bools {P : Program} {ops : Array Oper} {rest : List Oper} {o : Oper} {a : Act} {w : World} {Q : Exit → Act → World → Prop} {t e : TypeId} {bytes : Nat}
    (E : P.underlying t = some (.slice e)) (hE : ∃ i, P.info? e = some i ∧ i.zero = some (.bool false) ∧ i.size = 1 ∧ i.bytes = bytes) (hby : bytes ≤ 1024) (hg : o.guard = none) (l c : Operand) (ho : o.op = .makeSlice t l c)
    (n : Nat) (hl : a.eval l = .int .i64 (n : Int)) (hc : a.eval c = .int .i64 (n : Int)) (hn : n ≤ 1000000)
    (h : wpList P ops Q rest (a.put o.dst (.slice (some ⟨w.heap.size, 0, none⟩) n n)) (w.alloc (.cells (bv (List.replicate n false)) e))) : wpList P ops Q (o :: rest) a w := by
  obtain ⟨i, hi, hz, hs, hb⟩ := hE
  have hr := run_make (P := P) w t e i (.bool false) E hi hz .i64 .i64 (n : Int) (n : Int) (by omega) (Int.le_refl _) (by
    rw [hb]
    have : bytes * n ≤ 1024 * 1000000 := Nat.mul_le_mul hby hn
    have h2 : ((bytes * n : Nat) : Int) ≤ 1024000000 := by omega
    rw [Int.natCast_mul] at h2; omega) (by omega)
  simp only [Int.toNat_natCast, hs, Nat.mul_one] at hr
  have hm : madeCells (Value.cells (.bool false)) n = bv (List.replicate n false) := by
    apply Array.ext
    · simp [madeCells, bv]
    · intro j h1 h2
      simp [madeCells, Value.cells, Nat.mod_one, bv]
  rw [hm] at hr
  refine wpList_plain hg fun K hK' => ?_
  unfold Oper.wp
  simp [execOp, ho, hl, hc, hr, Result.andThen]
  exact hK' _ _ h
end Go.Proofs.Ytgpdkagmacpghaa.Wo
