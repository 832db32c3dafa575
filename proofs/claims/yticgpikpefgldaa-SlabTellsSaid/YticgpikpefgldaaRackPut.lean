/- rack.Put, Take, Hold, Next (made by genrack.py). -/
import Derived.Test.YticgpikpefgldaaWorkCopy
import Derived.Test.YticgpikpefgldaaPlanNum
namespace Go.Proofs.Yticgpikpefgldaa.Wo
open Go Go.RowKit Go.Proofs.Yticgpikpefgldaa.Gro Go.Proofs.Yticgpikpefgldaa.Own Go.Proofs.Yticgpikpefgldaa.Wd Go.Proofs.Yticgpikpefgldaa.Ap Go.Proofs.Yticgpikpefgldaa.Pl
set_option linter.unusedVariables false
set_option linter.unusedSimpArgs false

abbrev ccW (c : Cfg) : Array Value := #[.int .i64 c.ww, .int .i64 c.sl, .int .i64 c.bl, .int .i64 c.wd, .int .i64 c.en, .int .i64 c.rk, .int .i64 c.bg, .int .u64 c.la]
theorem Few.mono {m m' : Nat} {x : St} (h : Few m x) (hm : m ≤ m') : Few m' x := ⟨Nat.le_trans h.rk hm, Nat.le_trans h.l0 hm, Nat.le_trans h.l1 hm, Nat.le_trans h.l2 hm, Nat.le_trans h.hl hm, Nat.le_trans h.rd hm⟩
def putS (m : Int) (x : St) (b : Int) : St := if (x.rk.length : Int) < m then { x with rk := x.rk ++ [b] } else x
def takeS (x : St) : St := { x with rk := x.rk.dropLast }
def takeB (x : St) : Int := x.rk.getLastD (-1)
def holdS (x : St) (M : List Int) : St := { x with hl := x.hl ++ M }
def nextS (x : St) : St := { x with hl := x.hl.tail }
def nextB (x : St) : Int := x.hl.headD (-1)
theorem reads_one {w : World} {k : IntKind} {t : TypeId} {v : Int} {g : Nat} (hg : g = w.heap.size) : Reads (w.alloc (.cells #[.int k v] t)) k (.slice (some ⟨g, 0, none⟩) 1 1) [v] := by
  subst hg
  exact Reads.of_bk (l := [v]) (Bk.new w #[.int k v] t) (by unfold maxLen; simp)
theorem Fresh.cells {B : Nat} {w : World} {k : IntKind} {t : TypeId} {y : Sl} {l : List Int} (h : Fresh B w k t y l) (h0 : 0 < l.length) : ∃ g, y = ⟨some ⟨g, 0, none⟩, l.length, l.length⟩ ∧ B ≤ g ∧ g < w.heap.size ∧ ∀ i (hi : i < l.length), w.cell? ⟨g, i, none⟩ = some (.int k l[i]) := by
  obtain ⟨ht, ho⟩ := h
  obtain ⟨g, cap, he, hB, hg, _, _, hc⟩ := owns_cells ho h0
  obtain ⟨ad, ln, cp⟩ := y
  simp only [Sl.v, Value.slice.injEq] at he
  obtain ⟨rfl, rfl, rfl⟩ := he
  simp only at ht
  subst ht
  exact ⟨g, rfl, hB, hg, fun i hi => by rw [hc i (by simpa using hi)]; simp [hi]⟩
theorem reads_cut {w : World} {k : IntKind} {g n cap : Nat} {off : Nat} {l : List Int} (hg : g < w.heap.size) (hl : l.length = n) (h1 : n ≤ cap) (h2 : cap ≤ maxLen) (h : ∀ i (hi : i < l.length), w.cell? ⟨g, off + i, none⟩ = some (.int k l[i])) : Reads w k (.slice (some ⟨g, off, none⟩) n cap) l :=
  ⟨_, cap, by rw [hl], by omega, h2, .inr ⟨g, off, rfl, hg, h⟩⟩
set_option maxHeartbeats 1000000 in
theorem rackTake_no (s : Wk) (x : St) (hx : Few 900 x) (w : World) (h : Lies w s x) (hm : x.rk = []) :
    Calls Try.prog 129 #[wv s] w fun e w' => ∃ s', e = .returned (.tuple #[wv s', .int .i64 (-1)]) ∧ LiesF w.heap.size w' s' x ∧ Below w.heap.size w w' := by
  have e10 : ∀ s : Wk, (wc s)[10]? = some s.rk.v := fun _ => rfl
  have T0 := Two.start w s
  go_enter Try.func129, Try.ntmps129
  go_wp2_with (refine wpList_load_row rfl 34 _ rfl (w.heap.size) rfl _ (wc s) (0, 0) _ (by exact T0.X) Try.underlying34 rfl (by kernel_rfl) ?_)
  refine (copyWork s x (hx.mono (by omega)) _ (h.keep T0.below)).mono ?_
  rintro e w1 ⟨s', rfl, A1, hb1⟩
  have T1 := T0.keep hb1
  have b0 := T0.lt
  have b1 := T1.lt
  have T2 := T1.rowX s'
  have A2 := A1.setRow (g := w.heap.size) (by omega) (wc s')
  have hlen := reads_len A1.rk.reads
  have x2 := T2.X.cells
  rw [hm] at hlen
  obtain ⟨p', rk', l0', l1', l2', hl', rd'⟩ := s'
  obtain ⟨ad, ln, cp⟩ := rk'
  simp only [List.length_nil] at hlen
  subst hlen
  have SH : RowKit.Hid (∃ q : Wk, q = (⟨p', ⟨ad, 0, cp⟩, l0', l1', l2', hl', rd'⟩ : Wk)) := Lib.hid ⟨_, rfl⟩
  clear T0 hb1
  go_wp2_with (first | (refine wpList_store_row rfl 34 _ _ rfl (w.heap.size) (wc ⟨p', ⟨ad, 0, cp⟩, l0', l1', l2', hl', rd'⟩) rfl rfl _ _ (by exact T1.X) (by kernel_rfl) (by kernel_rfl) (by kernel_rfl) ?_) | (refine wpList_load_row rfl 34 _ rfl (w.heap.size) rfl _ (wc ⟨p', ⟨ad, 0, cp⟩, l0', l1', l2', hl', rd'⟩) (0, 0) _ (by exact T2.X) Try.underlying34 rfl (by kernel_rfl) ?_) | (refine wpList_store_row rfl 34 _ _ rfl (w.heap.size + 1) (wc ⟨p', ⟨ad, 0, cp⟩, l0', l1', l2', hl', rd'⟩) rfl rfl _ _ (by exact T2.Z) (by kernel_rfl) (by kernel_rfl) (by kernel_rfl) ?_))
  have T5 := T2.rowZ ⟨p', ⟨ad, 0, cp⟩, l0', l1', l2', hl', rd'⟩
  refine bodyPost_ret (v := .tuple #[wv ⟨p', ⟨ad, 0, cp⟩, l0', l1', l2', hl', rd'⟩, .int .i64 (-1)]) ?_ rfl ⟨_, rfl, ?_, T5.below⟩
  · exact Rw.results_cell_slot (p := 2) (q := 3) (ty := 34) Try.results129 _ _ (w.heap.size + 1) 34 _ (0, 0) _ rfl T5.Z Try.underlying34 rfl (by kernel_rfl)
  · exact (A2.setRow (g := w.heap.size + 1) (by omega) _).liesF.base (by omega)
set_option maxRecDepth 100000 in
set_option maxHeartbeats 1000000 in
theorem rackTake_yes (s : Wk) (x : St) (hx : Few 900 x) (w : World) (h : Lies w s x) (n : Nat) (hn : x.rk.length = n + 1) :
    Calls Try.prog 129 #[wv s] w fun e w' => ∃ s', e = .returned (.tuple #[wv s', .int .i64 (takeB x)]) ∧ LiesF w.heap.size w' s' (takeS x) ∧ Below w.heap.size w w' := by
  have e10 : ∀ s : Wk, (wc s)[10]? = some (.slice s.rk.ad s.rk.len s.rk.cap) := fun _ => rfl
  have T0 := Two.start w s
  go_enter Try.func129, Try.ntmps129
  go_wp2_with (refine wpList_load_row rfl 34 _ rfl (w.heap.size) rfl _ (wc s) (0, 0) _ (by exact T0.X) Try.underlying34 rfl (by kernel_rfl) ?_)
  refine (copyWork s x (hx.mono (by omega)) _ (h.keep T0.below)).mono ?_
  rintro e w1 ⟨s', rfl, A1, hb1⟩
  have T1 := T0.keep hb1
  have b0 := T0.lt
  have b1 := T1.lt
  have T2 := T1.rowX s'
  have A2 := A1.setRow (g := w.heap.size) (by omega) (wc s')
  obtain ⟨p', rk', l0', l1', l2', hl', rd'⟩ := s'
  obtain ⟨g, hy, hBg, hg1, hcs⟩ := A1.rk.cells (by omega)
  simp only at hy
  subst hy
  have hlast := hcs n (by omega)
  have hxr := hx.rk
  have hTB : takeB x = x.rk[n] := by
    have hb : n < x.rk.length := by omega
    unfold takeB
    rw [List.getLastD_eq_getLast?, List.getLast?_eq_getElem?]
    simp [hn, hb]
  have HTB := Lib.hid hTB
  have HCS := Lib.hid hcs
  have hgx : g ≠ w.heap.size := by omega
  rw [hn] at T2 A2
  have x2 := T2.X.cells
  have z2 := T2.X.frozen
  have hl2 : (w1.setRow (w.heap.size) (wc ⟨p', ⟨some ⟨g, 0, none⟩, n + 1, n + 1⟩, l0', l1', l2', hl', rd'⟩)).cell? ⟨g, n, none⟩ = some (.int .i64 x.rk[n]) := by
    rw [← hlast]; exact World.cell?_of_block (setRow_other w1 (w.heap.size) g _ hgx)
  rw [hn]
  have HN := Lib.hid hn
  have hn900 : n < 900 := by omega
  clear T0 hb1 hTB hcs hlast
  have T3 := T2.setX 10 (Sl.v ⟨some ⟨g, 0, none⟩, n, n + 1⟩) ⟨p', ⟨some ⟨g, 0, none⟩, n, n + 1⟩, l0', l1', l2', hl', rd'⟩ (set_rk _ _)
  go_wp2_with (first | (refine wpList_store_row rfl 34 _ _ rfl (w.heap.size) (wc ⟨p', ⟨some ⟨g, 0, none⟩, n + 1, n + 1⟩, l0', l1', l2', hl', rd'⟩) rfl rfl _ _ (by exact T1.X) (by kernel_rfl) (by kernel_rfl) (by kernel_rfl) ?_) | (refine wpList_load_row rfl 34 _ rfl (w.heap.size) rfl _ (wc ⟨p', ⟨some ⟨g, 0, none⟩, n, n + 1⟩, l0', l1', l2', hl', rd'⟩) (0, 0) _ (by exact T3.X) Try.underlying34 rfl (by kernel_rfl) ?_) | (refine wpList_store_row rfl 34 _ _ rfl (w.heap.size + 1) (wc ⟨p', ⟨some ⟨g, 0, none⟩, n, n + 1⟩, l0', l1', l2', hl', rd'⟩) rfl rfl _ _ (by exact T3.Z) (by kernel_rfl) (by kernel_rfl) (by kernel_rfl) ?_))
  have T5 := T3.rowZ ⟨p', ⟨some ⟨g, 0, none⟩, n, n + 1⟩, l0', l1', l2', hl', rd'⟩
  refine bodyPost_ret (v := .tuple #[wv ⟨p', ⟨some ⟨g, 0, none⟩, n, n + 1⟩, l0', l1', l2', hl', rd'⟩, .int .i64 x.rk[n]]) ?_ rfl ⟨_, by rw [HTB.out], ?_, T5.below⟩
  · exact Rw.results_cell_slot (p := 2) (q := 3) (ty := 34) Try.results129 _ _ (w.heap.size + 1) 34 _ (0, 0) _ rfl T5.Z Try.underlying34 rfl (by kernel_rfl)
  · have A4 := (A2.setCell (g := w.heap.size) (by omega) 10 (Sl.v ⟨some ⟨g, 0, none⟩, n, n + 1⟩)).setRow (g := w.heap.size + 1) (by omega) (wc ⟨p', ⟨some ⟨g, 0, none⟩, n, n + 1⟩, l0', l1', l2', hl', rd'⟩)
    refine LiesF.base ⟨A1.p, ⟨reads_cut (g := g) (n := n) (cap := n + 1) (off := 0) (by simpa using hg1) (by simp [takeS, HN.out]) (by omega) (by unfold maxLen; omega) (fun i hi => ?_), .inr fun a ha => by cases ha; exact hBg⟩, A4.l0.rdF, A4.l1.rdF, A4.l2.rdF, A4.hl.rdF, A4.rd.rdF⟩ (by omega)
    have hi' : i < n := by simpa [takeS, HN.out] using hi
    have e1 : (takeS x).rk[i] = x.rk[i]'(by have := HN.out; omega) := by simp [takeS]
    rw [Nat.zero_add, e1, ← HCS.out i (by have := HN.out; omega)]
    refine (World.cell?_of_block (setRow_other _ (w.heap.size + 1) g _ (by omega))).trans ((World.cell?_of_block (heap_setCell_other _ _ g _ (by simpa using hgx))).trans (World.cell?_of_block (setRow_other w1 (w.heap.size) g _ hgx)))
theorem rackTake (s : Wk) (x : St) (hx : Few 900 x) (w : World) (h : Lies w s x) :
    Calls Try.prog 129 #[wv s] w fun e w' => ∃ s', e = .returned (.tuple #[wv s', .int .i64 (takeB x)]) ∧ LiesF w.heap.size w' s' (takeS x) ∧ Below w.heap.size w w' := by
  by_cases hm : x.rk = []
  · have e1 : takeB x = -1 := by simp [takeB, hm]
    have e2 : takeS x = x := by obtain ⟨p, rk, l0, l1, l2, hl, rd⟩ := x; simp only at hm; subst hm; rfl
    rw [e1, e2]; exact rackTake_no s x hx w h hm
  · obtain ⟨n, hn⟩ : ∃ n, x.rk.length = n + 1 := ⟨x.rk.length - 1, by have := List.length_pos_iff.2 hm; omega⟩
    exact rackTake_yes s x hx w h n hn
set_option maxHeartbeats 1000000 in
theorem rackHold (s : Wk) (x : St) (hx : Few 900 x) (v : Sl) (M : List Int) (hM : M.length ≤ 900) (w : World) (h : Lies w s x) (hv : Reads w .i64 v.v M) :
    Calls Try.prog 155 #[wv s, v.v] w fun e w' => ∃ s', e = .returned (wv s') ∧ (LiesF w.heap.size w' s' (holdS x M) ∧ s'.rk.cap = s'.rk.len ∧ s'.l0.cap = s'.l0.len ∧ s'.l1.cap = s'.l1.len ∧ s'.l2.cap = s'.l2.len ∧ Owned w.heap.size w' .i64 3 s'.hl (x.hl ++ M) ∧ Anew w.heap.size w' { s' with hl := nilS } { x with hl := [] }) ∧ Below w.heap.size w w' := by
  have e17 : ∀ s : Wk, (wc s)[17]? = some (.slice s.hl.ad s.hl.len s.hl.cap) := fun _ => rfl
  have T0 := Two.start w s
  go_enter Try.func155, Try.ntmps155
  go_wp2_with (refine wpList_load_row rfl 34 _ rfl (w.heap.size) rfl _ (wc s) (0, 0) _ (by exact T0.X) Try.underlying34 rfl (by kernel_rfl) ?_)
  refine (copyWork s x (hx.mono (by omega)) _ (h.keep T0.below)).mono ?_
  rintro e w1 ⟨s', rfl, A1, hb1⟩
  have T1 := T0.keep hb1
  have b0 := T0.lt
  have b1 := T1.lt
  have T2 := T1.rowX s'
  have A2 := A1.setRow (g := w.heap.size) (by omega) (wc s')
  have hs1 : ((w.alloc (Obj.cells (wc s) 34)).alloc (Obj.cells (wc wz) 34)).heap.size ≤ w1.heap.size := hb1.size
  have HTG := Lib.hid A1.hl.1
  have x2 := T2.X.cells
  have hxr := hx.hl
  have hv2 := hv.keep T2.below
  clear T0 hb1
  go_wp2_with (first | (refine wpList_store_row rfl 34 _ _ rfl (w.heap.size) (wc s') rfl rfl _ _ (by exact T1.X) (by kernel_rfl) (by kernel_rfl) (by kernel_rfl) ?_) | (at_builtin; refine append_tight elemI rfl _ _ rfl _ s'.hl x.hl rfl A2.hl.2 HTG.out _ M rfl hv2 (by omega) (by simp at hs1 ⊢; omega) ?_; intro y w3 r3 hb3; have T3 := T2.keep hb3; have x3 := T3.X.cells; have z3 := T3.X.frozen; have T4 := T3.setX 17 y.v { s' with hl := y } (set_hl _ _)) | (refine wpList_load_row rfl 34 _ rfl (w.heap.size) rfl _ (wc { s' with hl := y }) (0, 0) _ (by exact T4.X) Try.underlying34 rfl (by kernel_rfl) ?_) | (refine wpList_store_row rfl 34 _ _ rfl (w.heap.size + 1) (wc { s' with hl := y }) rfl rfl _ _ (by exact T4.Z) (by kernel_rfl) (by kernel_rfl) (by kernel_rfl) ?_))
  have T5 := T4.rowZ { s' with hl := y }
  refine bodyPost_ret (v := wv { s' with hl := y }) ?_ rfl ⟨_, rfl, ?_, T5.below⟩
  · exact results_cell_row (p := 4) (ty := 34) Try.results155 _ _ (w.heap.size + 1) 34 _ (0, 0) _ rfl T5.Z Try.underlying34 rfl (by kernel_rfl)
  · have A3 := (A2.keep hb3).setCell (g := w.heap.size) (by omega) 17 y.v
    have A4 := A3.setRow (g := w.heap.size + 1) (by omega) (wc { s' with hl := y })
    have Y4 : Owned _ _ _ _ y (x.hl ++ M) := Owned.setRow (g := w.heap.size + 1) (Owned.setCell (g := w.heap.size) r3 (by omega) 17 y.v) (by omega) (wc { s' with hl := y })
    refine ⟨LiesF.base ⟨A1.p, A4.rk.rdF, A4.l0.rdF, A4.l1.rdF, A4.l2.rdF, Owned.rdF Y4, A4.rd.rdF⟩ (by omega), A4.rk.1, A4.l0.1, A4.l1.1, A4.l2.1, Y4.base (by omega), Anew.base (B := ((w.alloc (Obj.cells (wc s) 34)).alloc (Obj.cells (wc wz) 34)).heap.size) ⟨A1.p, A4.rk, A4.l0, A4.l1, A4.l2, Fresh.nil, A4.rd⟩ (by omega)⟩
end Go.Proofs.Yticgpikpefgldaa.Wo
