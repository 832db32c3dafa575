/- Several variables that hold states; two of them made and set in one statement. -/
import Derived.Test.YtgpdkagmacpghaaGreatWorks
import Derived.Test.YtgpdkagmacpghaaGreatSameTrue
import Derived.Test.YtgpdkagmacpghaaGreatRef04b
namespace Go.Proofs.YtgpdkagmacpghaaGreat.Wo
open Go Go.RowKit Go.Proofs.YtgpdkagmacpghaaGreat.Gro Go.Proofs.YtgpdkagmacpghaaGreat.Own Go.Proofs.YtgpdkagmacpghaaGreat.Wd Go.Proofs.YtgpdkagmacpghaaGreat.Ap Go.Proofs.YtgpdkagmacpghaaGreat.Pl
set_option linter.unusedVariables false
set_option linter.unusedSimpArgs false

/-- The configuration's box, and boxes of states. -/
structure Env (w0 : World) (c : Cfg) (l : List (Nat × Wk × St)) (w : World) : Prop where
  C : Bk w w0.heap.size (ccW c) 24
  E : ∀ e ∈ l, Bk w e.1 (wc e.2.1) 34 ∧ Lies w e.2.1 e.2.2
  below : Below w0.heap.size w0 w
section
variable {w0 w w' : World} {c : Cfg} {l : List (Nat × Wk × St)} {g : Nat} {s : Wk} {x : St}
theorem Env.bk (h : Env w0 c l w) (hm : (g, s, x) ∈ l) : Bk w g (wc s) 34 := (h.E _ hm).1
theorem Env.lies (h : Env w0 c l w) (hm : (g, s, x) ∈ l) : Lies w s x := (h.E _ hm).2
theorem Env.keep (h : Env w0 c l w) (hb : Below w.heap.size w w') : Env w0 c l w' := ⟨h.C.keep hb, fun e he => ⟨(h.E e he).1.keep hb, (h.E e he).2.keep hb⟩, h.below.trans (hb.mono h.below.size)⟩
theorem Env.box (h : Env w0 c l w) (hb : Below w.heap.size w w') (hl : Lies w' s x) : Env w0 c ((w'.heap.size, s, x) :: l) ((w'.alloc (.cells (wc wz) 34)).setRow w'.heap.size (wc s)) := by
  have b := boxed_below w' s
  have h2 := (h.keep hb).keep b
  refine ⟨h2.C, fun e he => ?_, h2.below⟩
  rcases List.mem_cons.1 he with rfl | he
  · exact ⟨boxed_bk w' s, hl.keep b⟩
  · exact h2.E e he
end
/-- No list of the state lies in block g. -/
structure NoB (g : Nat) (s : Wk) (x : St) : Prop where
  rk : x.rk = [] ∨ ∀ a, s.rk.ad = some a → a.block ≠ g
  l0 : x.l0 = [] ∨ ∀ a, s.l0.ad = some a → a.block ≠ g
  l1 : x.l1 = [] ∨ ∀ a, s.l1.ad = some a → a.block ≠ g
  l2 : x.l2 = [] ∨ ∀ a, s.l2.ad = some a → a.block ≠ g
  hl : x.hl = [] ∨ ∀ a, s.hl.ad = some a → a.block ≠ g
  rd : x.rd = [] ∨ ∀ a, s.rd.ad = some a → a.block ≠ g
theorem reads_row {w : World} {k : IntKind} {y : Sl} {l : List Int} {g : Nat} (h : Reads w k y.v l) (hn : l = [] ∨ ∀ a, y.ad = some a → a.block ≠ g) (cs : Array Value) : Reads (w.setRow g cs) k y.v l := by
  obtain ⟨ad, cap, he, h1, h2, h3⟩ := h
  refine ⟨ad, cap, he, h1, h2, ?_⟩
  rcases h3 with h3 | ⟨b, off, rfl, hlt, h3⟩
  · exact .inl h3
  · rcases hn with hn | hn
    · exact .inl hn
    · simp only [Sl.v, Value.slice.injEq] at he
      exact .inr ⟨b, off, rfl, by simpa using hlt, fun i hi => (World.cell?_of_block (setRow_other w g b cs (hn _ he.1))).trans (h3 i hi)⟩
theorem Lies.row {w : World} {s : Wk} {x : St} {g : Nat} (h : Lies w s x) (hn : NoB g s x) (cs : Array Value) : Lies (w.setRow g cs) s x :=
  ⟨h.p, reads_row h.rk hn.rk cs, reads_row h.l0 hn.l0 cs, reads_row h.l1 hn.l1 cs, reads_row h.l2 hn.l2 cs, reads_row h.hl hn.hl cs, reads_row h.rd hn.rd cs⟩
theorem reads_old {w : World} {k : IntKind} {y : Sl} {l : List Int} (h : Reads w k y.v l) : l = [] ∨ ∀ a, y.ad = some a → a.block < w.heap.size := by
  obtain ⟨ad, cap, he, h1, h2, h3⟩ := h
  rcases h3 with h3 | ⟨b, off, rfl, hlt, h3⟩
  · exact .inl h3
  · simp only [Sl.v, Value.slice.injEq] at he
    exact .inr fun a ha => by rw [he.1] at ha; cases ha; exact hlt
theorem noB_new {w : World} {s : Wk} {x : St} {g : Nat} (h : Lies w s x) (hg : w.heap.size ≤ g) : NoB g s x :=
  have f := fun {k : IntKind} {y : Sl} {l : List Int} (hr : Reads w k y.v l) => (reads_old hr).imp id (fun q a ha => by have := q a ha; omega : (∀ a, y.ad = some a → a.block < w.heap.size) → ∀ a, y.ad = some a → a.block ≠ g)
  ⟨f h.rk, f h.l0, f h.l1, f h.l2, f h.hl, f h.rd⟩
theorem noB_far {B : Nat} {w : World} {s : Wk} {x : St} {g : Nat} (h : LiesF B w s x) (hg : g < B) : NoB g s x :=
  have f := fun {k : IntKind} {y : Sl} {l : List Int} (hr : RdF B w k y l) => hr.2.imp id (fun q a ha => by have := q a ha; omega : (∀ a, y.ad = some a → B ≤ a.block) → ∀ a, y.ad = some a → a.block ≠ g)
  ⟨f h.rk, f h.l0, f h.l1, f h.l2, f h.hl, f h.rd⟩
/-- The reference's Hold: its other lists are those of its argument. -/
theorem noB_hold {B : Nat} {w w' : World} {s s' : Wk} {x : St} {M : List Int} {g : Nat} (h : Lies w s x) (hw : w.heap.size ≤ g) (e : s' = { s with hl := s'.hl }) (hr : RdF B w' .i64 s'.hl (x.hl ++ M)) (hg : g < B) : NoB g s' (holdS x M) := by
  have n := noB_new h hw
  rw [e]
  exact ⟨n.rk, n.l0, n.l1, n.l2, hr.2.imp id (fun q a ha => by have := q a ha; omega), n.rd⟩
/-- Two variables, made in one statement, are set. -/
theorem Env.two {w0 w u : World} {c : Cfg} {l : List (Nat × Wk × St)} {gf gg : Nat} {sf sg : Wk} {xf xg : St} (h : Env w0 c l w) (hb : Below w.heap.size w u) (Zf : Bk u gf (wc wz) 34) (Zg : Bk u gg (wc wz) 34) (hne : gf ≠ gg) (hf : w.heap.size ≤ gf) (hg : w.heap.size ≤ gg)
    (L1 : Lies u sf xf) (L2 : Lies u sg xg) (n11 : NoB gf sf xf) (n12 : NoB gg sf xf) (n21 : NoB gf sg xg) (n22 : NoB gg sg xg) :
    Env w0 c ((gf, sf, xf) :: (gg, sg, xg) :: l) ((u.setRow gf (wc sf)).setRow gg (wc sg)) := by
  have b : Below w.heap.size w ((u.setRow gf (wc sf)).setRow gg (wc sg)) := below_setRow (below_setRow hb hf _) hg _
  have h2 := h.keep b
  refine ⟨h2.C, fun e he => ?_, h2.below⟩
  rcases List.mem_cons.1 he with rfl | he
  · exact ⟨(Zf.setRow _).setRow_far hne _, (L1.row n11 _).row n12 _⟩
  · rcases List.mem_cons.1 he with rfl | he
    · exact ⟨(Zg.setRow_far (Ne.symm hne) _).setRow _, (L2.row n21 _).row n22 _⟩
    · exact h2.E e he
end Go.Proofs.YtgpdkagmacpghaaGreat.Wo
