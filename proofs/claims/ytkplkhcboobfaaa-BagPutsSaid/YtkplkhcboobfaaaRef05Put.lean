/- The reference of layer 5: Put (made by genref05p.py). -/
import Derived.Test.YtkplkhcboobfaaaRef05
namespace Go.Proofs.Ytkplkhcboobfaaa.Wo
open Go Go.RowKit Go.Proofs.Ytkplkhcboobfaaa.Gro Go.Proofs.Ytkplkhcboobfaaa.Own Go.Proofs.Ytkplkhcboobfaaa.Wd Go.Proofs.Ytkplkhcboobfaaa.Ap Go.Proofs.Ytkplkhcboobfaaa.Pl
set_option linter.unusedVariables false
set_option linter.unusedSimpArgs false
theorem reads_cellP {w : World} {k : IntKind} {y : Sl} {l : List Int} {g : Nat} (h : Reads w k y.v l) (hn : l = [] ∨ ∀ a, y.ad = some a → a.block ≠ g) (j : Nat) (v : Value) : Reads (w.setCell ⟨g, j, none⟩ v) k y.v l := by
  obtain ⟨ad, cap, he, h1, h2, h3⟩ := h
  refine ⟨ad, cap, he, h1, h2, ?_⟩
  rcases h3 with h3 | ⟨b, off, rfl, hlt, h3⟩
  · exact .inl h3
  · rcases hn with hn | hn
    · exact .inl hn
    · simp only [Sl.v, Value.slice.injEq] at he
      exact .inr ⟨b, off, rfl, by simpa using hlt, fun i hi => (World.cell?_of_block (heap_setCell_other w ⟨g, j, none⟩ b v (hn _ he.1))).trans (h3 i hi)⟩
theorem Lies.cellP {w : World} {s : Wk} {x : St} {g : Nat} (h : Lies w s x) (hn : NoB g s x) (j : Nat) (v : Value) : Lies (w.setCell ⟨g, j, none⟩ v) s x :=
  ⟨h.p, reads_cellP h.rk hn.rk j v, reads_cellP h.l0 hn.l0 j v, reads_cellP h.l1 hn.l1 j v, reads_cellP h.l2 hn.l2 j v, reads_cellP h.hl hn.hl j v, reads_cellP h.rd hn.rd j v⟩
set_option maxRecDepth 100000 in
set_option maxHeartbeats 4000000 in
theorem refPut5_0_room (c : Cfg) (s : Wk) (x : St) (hx : Few 400 x) (b : Int) (w : World) (h : Lies w s x) (hM : tagOf x % 3 = 0) (hm : ((prep0 x).l0.length : Int) < c.bg) :
    Calls Try.prog 39 #[cv c, wv s, .int .i64 b] w fun e w' => ∃ s', e = .returned (.tuple #[wv s', .bool true]) ∧ Lies w' s' { prep0 x with l0 := (prep0 x).l0 ++ [b] } ∧ Below w.heap.size w w' := by
  have e9 : ∀ s : Wk, (wc s)[9]? = some (.int .u64 s.p.ep) := fun _ => rfl
  have eL : ∀ s : Wk, (wc s)[12]? = some (.slice s.l0.ad s.l0.len s.l0.cap) := fun _ => rfl
  have hw0 : Below w.heap.size w (w.alloc (.cells (ccW c) 24)) := (Below.refl _ _).alloc (Nat.le_refl _) _
  have T0 := Two.startAt hw0 s
  have C0 := (((Bk.new w (ccW c) 24).alloc (.cells (wc s) 63)).alloc (.cells (wc wz) 63))
  rw [show (w.alloc (.cells (ccW c) 24)).heap.size = w.heap.size + 1 by simp] at T0
  have b0 := T0.lt
  have hR := refRoom0 c s x (hx.mono (by omega)) _ (h.keep T0.below) hM
  rw [decide_eq_true hm] at hR
  have HR := Lib.hid hR
  have hyf := (few_prep0 hx (m := 900) (by omega)).l0
  clear hR hm
  go_enter Try.func39, Try.ntmps39
  go_wp2_with (first | (refine wpList_load_row rfl 24 _ rfl w.heap.size rfl _ (ccW c) (0, 0) _ (by exact C0) Try.underlying24 rfl (by kernel_rfl) ?_) | (refine wpList_load_row rfl 63 _ rfl (w.heap.size + 1) rfl _ (wc s) (0, 0) _ (by exact T0.X) Try.underlying63 rfl (by kernel_rfl) ?_))
  refine HR.out.mono ?_
  rintro e w1 ⟨s', rfl, L1, K1, hb1⟩
  have T1 := T0.keep hb1
  have b1 := T1.lt
  have N1 : NoB (w.heap.size + 1) s' (prep0 x) := K1 _ (by simp) (noB_all h (by omega))
  have N2 : NoB (w.heap.size + 1 + 1) s' (prep0 x) := K1 _ (by simp) (noB_all h (by omega))
  have T2 := T1.rowX s'
  have L2 := L1.row N1 (wc s')
  have hep : s'.p.ep = x.p.ep := by rw [L1.p]; unfold prep0; split <;> rfl
  have hW : IntKind.u64.wrap (x.p.ep + 1) = tagOf x := rfl
  have hM2 : (tagOf x).tmod 3 = 0 := by rw [Int.tmod_eq_emod_of_nonneg (tag_range x).1]; exact hM
  have e9' := e9 s'
  rw [hep] at e9'
  have hlen := reads_len L1.l0
  have HLEN := Lib.hid hlen
  have eL' := eL s'
  have x2 := T2.X.cells
  have hs1 := hb1.size
  simp only [World.size_alloc] at hs1
  clear C0 T0 hb1 HR K1 hep e9 eL hlen
  obtain ⟨tag, htag⟩ : ∃ t, t = tagOf x := ⟨_, rfl⟩
  rw [← htag] at hW hM2
  clear htag
  go_wp2_with (first | (refine wpList_store_row rfl 63 _ _ rfl (w.heap.size + 1) (wc s') rfl rfl _ _ (by exact T1.X) (by kernel_rfl) (by kernel_rfl) (by kernel_rfl) ?_) | (at_builtin; (refine append_any (k := .i64) elemI rfl (.tmp 22) (.tmp 27) rfl (w1.heap.size) _ (0) ([]) rfl ?p1a _ ((prep0 x).l0) rfl ?p1b ?p1c ?p1d ?p1e; (case p1a => exact empty_row (by simp)); (case p1b => exact L2.l0.keep ((Below.refl _ _).alloc (Nat.le_refl _) _)); (case p1c => (first | omega | (simp; omega))); (case p1d => (first | (simp; done) | (simp; omega) | omega)); intro y1 v1 q1 hb1; have c1 := below_lit (by simp) hb1; have U1 := T2.keep c1; have l1 := U1.X.lt; have x1 := U1.X.cells; have z1 := U1.X.frozen; have s1 : w1.heap.size ≤ v1.heap.size := (by have h9 := c1.size; simp at h9; omega))) | (at_builtin; (refine append_any (k := .i64) elemI rfl (.tmp 28) (.tmp 30) rfl (w1.heap.size) _ (0 + (prep0 x).l0.length) ((prep0 x).l0) rfl ?p2a _ ([b]) rfl ?p2b ?p2c ?p2d ?p2e; (case p2a => (rw [List.nil_append] at q1; exact World.ownsRow.alloc q1 _)); (case p2b => exact reads_one (by simp)); (case p2c => (first | omega | (simp; omega))); (case p2d => (first | (simp; done) | (simp; omega) | omega)); intro y2 v2 q2 hb2; have T3 : Two w (w.heap.size + 1) (w.heap.size + 1 + 1) s' wz v2 := ⟨(U1.X.alloc _).keepB hb2 (by omega), (U1.Z.alloc _).keepB hb2 (by omega), ((U1.below.alloc U1.below.size _)).trans (hb2.mono (by omega)), U1.gx0, U1.gz0, U1.ne⟩; have l2 := T3.X.lt; have x3 := T3.X.cells; have z3 := T3.X.frozen; have T4 := T3.setX 12 y2.v { s' with l0 := y2 } rfl)) | (refine wpList_load_row rfl 63 _ rfl (w.heap.size + 1) rfl _ (wc { s' with l0 := y2 }) (0, 0) _ (by exact T4.X) Try.underlying63 rfl (by kernel_rfl) ?_) | (refine wpList_store_row rfl 63 _ _ rfl (w.heap.size + 1 + 1) (wc { s' with l0 := y2 }) rfl rfl _ _ (by exact T4.Z) (by kernel_rfl) (by kernel_rfl) (by kernel_rfl) ?_))
  have T5 := T4.rowZ { s' with l0 := y2 }
  refine bodyPost_ret (v := .tuple #[wv { s' with l0 := y2 }, .bool true]) ?_ rfl ⟨_, rfl, ?_, T5.below⟩
  · exact Rw.results_cell_slot (p := 6) (q := 7) (ty := 63) Try.results39 _ _ (w.heap.size + 1 + 1) 63 _ (0, 0) _ rfl T5.Z Try.underlying63 rfl (by kernel_rfl)
  · have Y0 : Owned w1.heap.size v2 .i64 3 y2 ((prep0 x).l0 ++ [b]) := owned_of (l := (prep0 x).l0 ++ [b]) q2 (by simp) (by simp)
    have Y := Owned.setRow (g := w.heap.size + 1 + 1) (Owned.setCell (g := w.heap.size + 1) Y0 (by omega) 12 y2.v) (by omega) (wc { s' with l0 := y2 })
    have bv2 : Below (w1.setRow (w.heap.size + 1) (wc s')).heap.size (w1.setRow (w.heap.size + 1) (wc s')) v2 := by
      rw [size_setRow] at c1 ⊢
      exact (c1.alloc s1 _).trans hb2
    have LZ : Lies v2 s' (prep0 x) := L2.keep bv2
    have L5 := (LZ.cellP N1 12 y2.v).row N2 (wc { s' with l0 := y2 })
    exact ⟨L5.p, L5.rk, Y.reads, L5.l1, L5.l2, L5.hl, L5.rd⟩
set_option maxRecDepth 100000 in
set_option maxHeartbeats 4000000 in
theorem refPut5_0_full (c : Cfg) (s : Wk) (x : St) (hx : Few 400 x) (b : Int) (w : World) (h : Lies w s x) (hM : tagOf x % 3 = 0) (hm : ¬ ((prep0 x).l0.length : Int) < c.bg) :
    Calls Try.prog 39 #[cv c, wv s, .int .i64 b] w fun e w' => ∃ s', e = .returned (.tuple #[wv s', .bool false]) ∧ Lies w' s' (prep0 x) ∧ Below w.heap.size w w' := by
  have e9 : ∀ s : Wk, (wc s)[9]? = some (.int .u64 s.p.ep) := fun _ => rfl
  have eL : ∀ s : Wk, (wc s)[12]? = some (.slice s.l0.ad s.l0.len s.l0.cap) := fun _ => rfl
  have hw0 : Below w.heap.size w (w.alloc (.cells (ccW c) 24)) := (Below.refl _ _).alloc (Nat.le_refl _) _
  have T0 := Two.startAt hw0 s
  have C0 := (((Bk.new w (ccW c) 24).alloc (.cells (wc s) 63)).alloc (.cells (wc wz) 63))
  rw [show (w.alloc (.cells (ccW c) 24)).heap.size = w.heap.size + 1 by simp] at T0
  have b0 := T0.lt
  have hR := refRoom0 c s x (hx.mono (by omega)) _ (h.keep T0.below) hM
  rw [decide_eq_false hm] at hR
  have HR := Lib.hid hR
  have hyf := (few_prep0 hx (m := 900) (by omega)).l0
  clear hR hm
  go_enter Try.func39, Try.ntmps39
  go_wp2_with (first | (refine wpList_load_row rfl 24 _ rfl w.heap.size rfl _ (ccW c) (0, 0) _ (by exact C0) Try.underlying24 rfl (by kernel_rfl) ?_) | (refine wpList_load_row rfl 63 _ rfl (w.heap.size + 1) rfl _ (wc s) (0, 0) _ (by exact T0.X) Try.underlying63 rfl (by kernel_rfl) ?_))
  refine HR.out.mono ?_
  rintro e w1 ⟨s', rfl, L1, K1, hb1⟩
  have T1 := T0.keep hb1
  have b1 := T1.lt
  have N1 : NoB (w.heap.size + 1) s' (prep0 x) := K1 _ (by simp) (noB_all h (by omega))
  have N2 : NoB (w.heap.size + 1 + 1) s' (prep0 x) := K1 _ (by simp) (noB_all h (by omega))
  have T2 := T1.rowX s'
  have L2 := L1.row N1 (wc s')
  have hep : s'.p.ep = x.p.ep := by rw [L1.p]; unfold prep0; split <;> rfl
  have hW : IntKind.u64.wrap (x.p.ep + 1) = tagOf x := rfl
  have hM2 : (tagOf x).tmod 3 = 0 := by rw [Int.tmod_eq_emod_of_nonneg (tag_range x).1]; exact hM
  have e9' := e9 s'
  rw [hep] at e9'
  have hlen := reads_len L1.l0
  have HLEN := Lib.hid hlen
  have eL' := eL s'
  have x2 := T2.X.cells
  have hs1 := hb1.size
  simp only [World.size_alloc] at hs1
  clear C0 T0 hb1 HR K1 hep e9 eL hlen
  obtain ⟨tag, htag⟩ : ∃ t, t = tagOf x := ⟨_, rfl⟩
  rw [← htag] at hW hM2
  clear htag
  have T5 := T2.rowZ s'
  go_wp2_with (first | (refine wpList_store_row rfl 63 _ _ rfl (w.heap.size + 1) (wc s') rfl rfl _ _ (by exact T1.X) (by kernel_rfl) (by kernel_rfl) (by kernel_rfl) ?_) | (refine wpList_load_row rfl 63 _ rfl (w.heap.size + 1) rfl _ (wc s') (0, 0) _ (by exact T2.X) Try.underlying63 rfl (by kernel_rfl) ?_) | (refine wpList_store_row rfl 63 _ _ rfl (w.heap.size + 1 + 1) (wc s') rfl rfl _ _ (by exact T2.Z) (by kernel_rfl) (by kernel_rfl) (by kernel_rfl) ?_))
  refine bodyPost_ret (v := .tuple #[wv s', .bool false]) ?_ rfl ⟨_, rfl, L2.row N2 (wc s'), T5.below⟩
  exact Rw.results_cell_slot (p := 6) (q := 7) (ty := 63) Try.results39 _ _ (w.heap.size + 1 + 1) 63 _ (0, 0) _ rfl T5.Z Try.underlying63 rfl (by kernel_rfl)
set_option maxRecDepth 100000 in
set_option maxHeartbeats 4000000 in
theorem refPut5_1_room (c : Cfg) (s : Wk) (x : St) (hx : Few 400 x) (b : Int) (w : World) (h : Lies w s x) (hM : tagOf x % 3 = 1) (hm : ((prep1 x).l1.length : Int) < c.bg) :
    Calls Try.prog 39 #[cv c, wv s, .int .i64 b] w fun e w' => ∃ s', e = .returned (.tuple #[wv s', .bool true]) ∧ Lies w' s' { prep1 x with l1 := (prep1 x).l1 ++ [b] } ∧ Below w.heap.size w w' := by
  have e9 : ∀ s : Wk, (wc s)[9]? = some (.int .u64 s.p.ep) := fun _ => rfl
  have eL : ∀ s : Wk, (wc s)[14]? = some (.slice s.l1.ad s.l1.len s.l1.cap) := fun _ => rfl
  have hw0 : Below w.heap.size w (w.alloc (.cells (ccW c) 24)) := (Below.refl _ _).alloc (Nat.le_refl _) _
  have T0 := Two.startAt hw0 s
  have C0 := (((Bk.new w (ccW c) 24).alloc (.cells (wc s) 63)).alloc (.cells (wc wz) 63))
  rw [show (w.alloc (.cells (ccW c) 24)).heap.size = w.heap.size + 1 by simp] at T0
  have b0 := T0.lt
  have hR := refRoom1 c s x (hx.mono (by omega)) _ (h.keep T0.below) hM
  rw [decide_eq_true hm] at hR
  have HR := Lib.hid hR
  have hyf := (few_prep1 hx (m := 900) (by omega)).l1
  clear hR hm
  go_enter Try.func39, Try.ntmps39
  go_wp2_with (first | (refine wpList_load_row rfl 24 _ rfl w.heap.size rfl _ (ccW c) (0, 0) _ (by exact C0) Try.underlying24 rfl (by kernel_rfl) ?_) | (refine wpList_load_row rfl 63 _ rfl (w.heap.size + 1) rfl _ (wc s) (0, 0) _ (by exact T0.X) Try.underlying63 rfl (by kernel_rfl) ?_))
  refine HR.out.mono ?_
  rintro e w1 ⟨s', rfl, L1, K1, hb1⟩
  have T1 := T0.keep hb1
  have b1 := T1.lt
  have N1 : NoB (w.heap.size + 1) s' (prep1 x) := K1 _ (by simp) (noB_all h (by omega))
  have N2 : NoB (w.heap.size + 1 + 1) s' (prep1 x) := K1 _ (by simp) (noB_all h (by omega))
  have T2 := T1.rowX s'
  have L2 := L1.row N1 (wc s')
  have hep : s'.p.ep = x.p.ep := by rw [L1.p]; unfold prep1; split <;> rfl
  have hW : IntKind.u64.wrap (x.p.ep + 1) = tagOf x := rfl
  have hM2 : (tagOf x).tmod 3 = 1 := by rw [Int.tmod_eq_emod_of_nonneg (tag_range x).1]; exact hM
  have e9' := e9 s'
  rw [hep] at e9'
  have hlen := reads_len L1.l1
  have HLEN := Lib.hid hlen
  have eL' := eL s'
  have x2 := T2.X.cells
  have hs1 := hb1.size
  simp only [World.size_alloc] at hs1
  clear C0 T0 hb1 HR K1 hep e9 eL hlen
  obtain ⟨tag, htag⟩ : ∃ t, t = tagOf x := ⟨_, rfl⟩
  rw [← htag] at hW hM2
  clear htag
  go_wp2_with (first | (refine wpList_store_row rfl 63 _ _ rfl (w.heap.size + 1) (wc s') rfl rfl _ _ (by exact T1.X) (by kernel_rfl) (by kernel_rfl) (by kernel_rfl) ?_) | (at_builtin; (refine append_any (k := .i64) elemI rfl (.tmp 22) (.tmp 27) rfl (w1.heap.size) _ (0) ([]) rfl ?p1a _ ((prep1 x).l1) rfl ?p1b ?p1c ?p1d ?p1e; (case p1a => exact empty_row (by simp)); (case p1b => exact L2.l1.keep ((Below.refl _ _).alloc (Nat.le_refl _) _)); (case p1c => (first | omega | (simp; omega))); (case p1d => (first | (simp; done) | (simp; omega) | omega)); intro y1 v1 q1 hb1; have c1 := below_lit (by simp) hb1; have U1 := T2.keep c1; have l1 := U1.X.lt; have x1 := U1.X.cells; have z1 := U1.X.frozen; have s1 : w1.heap.size ≤ v1.heap.size := (by have h9 := c1.size; simp at h9; omega))) | (at_builtin; (refine append_any (k := .i64) elemI rfl (.tmp 28) (.tmp 30) rfl (w1.heap.size) _ (0 + (prep1 x).l1.length) ((prep1 x).l1) rfl ?p2a _ ([b]) rfl ?p2b ?p2c ?p2d ?p2e; (case p2a => (rw [List.nil_append] at q1; exact World.ownsRow.alloc q1 _)); (case p2b => exact reads_one (by simp)); (case p2c => (first | omega | (simp; omega))); (case p2d => (first | (simp; done) | (simp; omega) | omega)); intro y2 v2 q2 hb2; have T3 : Two w (w.heap.size + 1) (w.heap.size + 1 + 1) s' wz v2 := ⟨(U1.X.alloc _).keepB hb2 (by omega), (U1.Z.alloc _).keepB hb2 (by omega), ((U1.below.alloc U1.below.size _)).trans (hb2.mono (by omega)), U1.gx0, U1.gz0, U1.ne⟩; have l2 := T3.X.lt; have x3 := T3.X.cells; have z3 := T3.X.frozen; have T4 := T3.setX 14 y2.v { s' with l1 := y2 } rfl)) | (refine wpList_load_row rfl 63 _ rfl (w.heap.size + 1) rfl _ (wc { s' with l1 := y2 }) (0, 0) _ (by exact T4.X) Try.underlying63 rfl (by kernel_rfl) ?_) | (refine wpList_store_row rfl 63 _ _ rfl (w.heap.size + 1 + 1) (wc { s' with l1 := y2 }) rfl rfl _ _ (by exact T4.Z) (by kernel_rfl) (by kernel_rfl) (by kernel_rfl) ?_))
  have T5 := T4.rowZ { s' with l1 := y2 }
  refine bodyPost_ret (v := .tuple #[wv { s' with l1 := y2 }, .bool true]) ?_ rfl ⟨_, rfl, ?_, T5.below⟩
  · exact Rw.results_cell_slot (p := 6) (q := 7) (ty := 63) Try.results39 _ _ (w.heap.size + 1 + 1) 63 _ (0, 0) _ rfl T5.Z Try.underlying63 rfl (by kernel_rfl)
  · have Y0 : Owned w1.heap.size v2 .i64 3 y2 ((prep1 x).l1 ++ [b]) := owned_of (l := (prep1 x).l1 ++ [b]) q2 (by simp) (by simp)
    have Y := Owned.setRow (g := w.heap.size + 1 + 1) (Owned.setCell (g := w.heap.size + 1) Y0 (by omega) 14 y2.v) (by omega) (wc { s' with l1 := y2 })
    have bv2 : Below (w1.setRow (w.heap.size + 1) (wc s')).heap.size (w1.setRow (w.heap.size + 1) (wc s')) v2 := by
      rw [size_setRow] at c1 ⊢
      exact (c1.alloc s1 _).trans hb2
    have LZ : Lies v2 s' (prep1 x) := L2.keep bv2
    have L5 := (LZ.cellP N1 14 y2.v).row N2 (wc { s' with l1 := y2 })
    exact ⟨L5.p, L5.rk, L5.l0, Y.reads, L5.l2, L5.hl, L5.rd⟩
set_option maxRecDepth 100000 in
set_option maxHeartbeats 4000000 in
theorem refPut5_1_full (c : Cfg) (s : Wk) (x : St) (hx : Few 400 x) (b : Int) (w : World) (h : Lies w s x) (hM : tagOf x % 3 = 1) (hm : ¬ ((prep1 x).l1.length : Int) < c.bg) :
    Calls Try.prog 39 #[cv c, wv s, .int .i64 b] w fun e w' => ∃ s', e = .returned (.tuple #[wv s', .bool false]) ∧ Lies w' s' (prep1 x) ∧ Below w.heap.size w w' := by
  have e9 : ∀ s : Wk, (wc s)[9]? = some (.int .u64 s.p.ep) := fun _ => rfl
  have eL : ∀ s : Wk, (wc s)[14]? = some (.slice s.l1.ad s.l1.len s.l1.cap) := fun _ => rfl
  have hw0 : Below w.heap.size w (w.alloc (.cells (ccW c) 24)) := (Below.refl _ _).alloc (Nat.le_refl _) _
  have T0 := Two.startAt hw0 s
  have C0 := (((Bk.new w (ccW c) 24).alloc (.cells (wc s) 63)).alloc (.cells (wc wz) 63))
  rw [show (w.alloc (.cells (ccW c) 24)).heap.size = w.heap.size + 1 by simp] at T0
  have b0 := T0.lt
  have hR := refRoom1 c s x (hx.mono (by omega)) _ (h.keep T0.below) hM
  rw [decide_eq_false hm] at hR
  have HR := Lib.hid hR
  have hyf := (few_prep1 hx (m := 900) (by omega)).l1
  clear hR hm
  go_enter Try.func39, Try.ntmps39
  go_wp2_with (first | (refine wpList_load_row rfl 24 _ rfl w.heap.size rfl _ (ccW c) (0, 0) _ (by exact C0) Try.underlying24 rfl (by kernel_rfl) ?_) | (refine wpList_load_row rfl 63 _ rfl (w.heap.size + 1) rfl _ (wc s) (0, 0) _ (by exact T0.X) Try.underlying63 rfl (by kernel_rfl) ?_))
  refine HR.out.mono ?_
  rintro e w1 ⟨s', rfl, L1, K1, hb1⟩
  have T1 := T0.keep hb1
  have b1 := T1.lt
  have N1 : NoB (w.heap.size + 1) s' (prep1 x) := K1 _ (by simp) (noB_all h (by omega))
  have N2 : NoB (w.heap.size + 1 + 1) s' (prep1 x) := K1 _ (by simp) (noB_all h (by omega))
  have T2 := T1.rowX s'
  have L2 := L1.row N1 (wc s')
  have hep : s'.p.ep = x.p.ep := by rw [L1.p]; unfold prep1; split <;> rfl
  have hW : IntKind.u64.wrap (x.p.ep + 1) = tagOf x := rfl
  have hM2 : (tagOf x).tmod 3 = 1 := by rw [Int.tmod_eq_emod_of_nonneg (tag_range x).1]; exact hM
  have e9' := e9 s'
  rw [hep] at e9'
  have hlen := reads_len L1.l1
  have HLEN := Lib.hid hlen
  have eL' := eL s'
  have x2 := T2.X.cells
  have hs1 := hb1.size
  simp only [World.size_alloc] at hs1
  clear C0 T0 hb1 HR K1 hep e9 eL hlen
  obtain ⟨tag, htag⟩ : ∃ t, t = tagOf x := ⟨_, rfl⟩
  rw [← htag] at hW hM2
  clear htag
  have T5 := T2.rowZ s'
  go_wp2_with (first | (refine wpList_store_row rfl 63 _ _ rfl (w.heap.size + 1) (wc s') rfl rfl _ _ (by exact T1.X) (by kernel_rfl) (by kernel_rfl) (by kernel_rfl) ?_) | (refine wpList_load_row rfl 63 _ rfl (w.heap.size + 1) rfl _ (wc s') (0, 0) _ (by exact T2.X) Try.underlying63 rfl (by kernel_rfl) ?_) | (refine wpList_store_row rfl 63 _ _ rfl (w.heap.size + 1 + 1) (wc s') rfl rfl _ _ (by exact T2.Z) (by kernel_rfl) (by kernel_rfl) (by kernel_rfl) ?_))
  refine bodyPost_ret (v := .tuple #[wv s', .bool false]) ?_ rfl ⟨_, rfl, L2.row N2 (wc s'), T5.below⟩
  exact Rw.results_cell_slot (p := 6) (q := 7) (ty := 63) Try.results39 _ _ (w.heap.size + 1 + 1) 63 _ (0, 0) _ rfl T5.Z Try.underlying63 rfl (by kernel_rfl)
set_option maxRecDepth 100000 in
set_option maxHeartbeats 4000000 in
theorem refPut5_2_room (c : Cfg) (s : Wk) (x : St) (hx : Few 400 x) (b : Int) (w : World) (h : Lies w s x) (hM : tagOf x % 3 = 2) (hm : ((prep2 x).l2.length : Int) < c.bg) :
    Calls Try.prog 39 #[cv c, wv s, .int .i64 b] w fun e w' => ∃ s', e = .returned (.tuple #[wv s', .bool true]) ∧ Lies w' s' { prep2 x with l2 := (prep2 x).l2 ++ [b] } ∧ Below w.heap.size w w' := by
  have e9 : ∀ s : Wk, (wc s)[9]? = some (.int .u64 s.p.ep) := fun _ => rfl
  have eL : ∀ s : Wk, (wc s)[16]? = some (.slice s.l2.ad s.l2.len s.l2.cap) := fun _ => rfl
  have hw0 : Below w.heap.size w (w.alloc (.cells (ccW c) 24)) := (Below.refl _ _).alloc (Nat.le_refl _) _
  have T0 := Two.startAt hw0 s
  have C0 := (((Bk.new w (ccW c) 24).alloc (.cells (wc s) 63)).alloc (.cells (wc wz) 63))
  rw [show (w.alloc (.cells (ccW c) 24)).heap.size = w.heap.size + 1 by simp] at T0
  have b0 := T0.lt
  have hR := refRoom2 c s x (hx.mono (by omega)) _ (h.keep T0.below) hM
  rw [decide_eq_true hm] at hR
  have HR := Lib.hid hR
  have hyf := (few_prep2 hx (m := 900) (by omega)).l2
  clear hR hm
  go_enter Try.func39, Try.ntmps39
  go_wp2_with (first | (refine wpList_load_row rfl 24 _ rfl w.heap.size rfl _ (ccW c) (0, 0) _ (by exact C0) Try.underlying24 rfl (by kernel_rfl) ?_) | (refine wpList_load_row rfl 63 _ rfl (w.heap.size + 1) rfl _ (wc s) (0, 0) _ (by exact T0.X) Try.underlying63 rfl (by kernel_rfl) ?_))
  refine HR.out.mono ?_
  rintro e w1 ⟨s', rfl, L1, K1, hb1⟩
  have T1 := T0.keep hb1
  have b1 := T1.lt
  have N1 : NoB (w.heap.size + 1) s' (prep2 x) := K1 _ (by simp) (noB_all h (by omega))
  have N2 : NoB (w.heap.size + 1 + 1) s' (prep2 x) := K1 _ (by simp) (noB_all h (by omega))
  have T2 := T1.rowX s'
  have L2 := L1.row N1 (wc s')
  have hep : s'.p.ep = x.p.ep := by rw [L1.p]; unfold prep2; split <;> rfl
  have hW : IntKind.u64.wrap (x.p.ep + 1) = tagOf x := rfl
  have hM2 : (tagOf x).tmod 3 = 2 := by rw [Int.tmod_eq_emod_of_nonneg (tag_range x).1]; exact hM
  have e9' := e9 s'
  rw [hep] at e9'
  have hlen := reads_len L1.l2
  have HLEN := Lib.hid hlen
  have eL' := eL s'
  have x2 := T2.X.cells
  have hs1 := hb1.size
  simp only [World.size_alloc] at hs1
  clear C0 T0 hb1 HR K1 hep e9 eL hlen
  obtain ⟨tag, htag⟩ : ∃ t, t = tagOf x := ⟨_, rfl⟩
  rw [← htag] at hW hM2
  clear htag
  go_wp2_with (first | (refine wpList_store_row rfl 63 _ _ rfl (w.heap.size + 1) (wc s') rfl rfl _ _ (by exact T1.X) (by kernel_rfl) (by kernel_rfl) (by kernel_rfl) ?_) | (at_builtin; (refine append_any (k := .i64) elemI rfl (.tmp 22) (.tmp 27) rfl (w1.heap.size) _ (0) ([]) rfl ?p1a _ ((prep2 x).l2) rfl ?p1b ?p1c ?p1d ?p1e; (case p1a => exact empty_row (by simp)); (case p1b => exact L2.l2.keep ((Below.refl _ _).alloc (Nat.le_refl _) _)); (case p1c => (first | omega | (simp; omega))); (case p1d => (first | (simp; done) | (simp; omega) | omega)); intro y1 v1 q1 hb1; have c1 := below_lit (by simp) hb1; have U1 := T2.keep c1; have l1 := U1.X.lt; have x1 := U1.X.cells; have z1 := U1.X.frozen; have s1 : w1.heap.size ≤ v1.heap.size := (by have h9 := c1.size; simp at h9; omega))) | (at_builtin; (refine append_any (k := .i64) elemI rfl (.tmp 28) (.tmp 30) rfl (w1.heap.size) _ (0 + (prep2 x).l2.length) ((prep2 x).l2) rfl ?p2a _ ([b]) rfl ?p2b ?p2c ?p2d ?p2e; (case p2a => (rw [List.nil_append] at q1; exact World.ownsRow.alloc q1 _)); (case p2b => exact reads_one (by simp)); (case p2c => (first | omega | (simp; omega))); (case p2d => (first | (simp; done) | (simp; omega) | omega)); intro y2 v2 q2 hb2; have T3 : Two w (w.heap.size + 1) (w.heap.size + 1 + 1) s' wz v2 := ⟨(U1.X.alloc _).keepB hb2 (by omega), (U1.Z.alloc _).keepB hb2 (by omega), ((U1.below.alloc U1.below.size _)).trans (hb2.mono (by omega)), U1.gx0, U1.gz0, U1.ne⟩; have l2 := T3.X.lt; have x3 := T3.X.cells; have z3 := T3.X.frozen; have T4 := T3.setX 16 y2.v { s' with l2 := y2 } rfl)) | (refine wpList_load_row rfl 63 _ rfl (w.heap.size + 1) rfl _ (wc { s' with l2 := y2 }) (0, 0) _ (by exact T4.X) Try.underlying63 rfl (by kernel_rfl) ?_) | (refine wpList_store_row rfl 63 _ _ rfl (w.heap.size + 1 + 1) (wc { s' with l2 := y2 }) rfl rfl _ _ (by exact T4.Z) (by kernel_rfl) (by kernel_rfl) (by kernel_rfl) ?_))
  have T5 := T4.rowZ { s' with l2 := y2 }
  refine bodyPost_ret (v := .tuple #[wv { s' with l2 := y2 }, .bool true]) ?_ rfl ⟨_, rfl, ?_, T5.below⟩
  · exact Rw.results_cell_slot (p := 6) (q := 7) (ty := 63) Try.results39 _ _ (w.heap.size + 1 + 1) 63 _ (0, 0) _ rfl T5.Z Try.underlying63 rfl (by kernel_rfl)
  · have Y0 : Owned w1.heap.size v2 .i64 3 y2 ((prep2 x).l2 ++ [b]) := owned_of (l := (prep2 x).l2 ++ [b]) q2 (by simp) (by simp)
    have Y := Owned.setRow (g := w.heap.size + 1 + 1) (Owned.setCell (g := w.heap.size + 1) Y0 (by omega) 16 y2.v) (by omega) (wc { s' with l2 := y2 })
    have bv2 : Below (w1.setRow (w.heap.size + 1) (wc s')).heap.size (w1.setRow (w.heap.size + 1) (wc s')) v2 := by
      rw [size_setRow] at c1 ⊢
      exact (c1.alloc s1 _).trans hb2
    have LZ : Lies v2 s' (prep2 x) := L2.keep bv2
    have L5 := (LZ.cellP N1 16 y2.v).row N2 (wc { s' with l2 := y2 })
    exact ⟨L5.p, L5.rk, L5.l0, L5.l1, Y.reads, L5.hl, L5.rd⟩
set_option maxRecDepth 100000 in
set_option maxHeartbeats 4000000 in
theorem refPut5_2_full (c : Cfg) (s : Wk) (x : St) (hx : Few 400 x) (b : Int) (w : World) (h : Lies w s x) (hM : tagOf x % 3 = 2) (hm : ¬ ((prep2 x).l2.length : Int) < c.bg) :
    Calls Try.prog 39 #[cv c, wv s, .int .i64 b] w fun e w' => ∃ s', e = .returned (.tuple #[wv s', .bool false]) ∧ Lies w' s' (prep2 x) ∧ Below w.heap.size w w' := by
  have e9 : ∀ s : Wk, (wc s)[9]? = some (.int .u64 s.p.ep) := fun _ => rfl
  have eL : ∀ s : Wk, (wc s)[16]? = some (.slice s.l2.ad s.l2.len s.l2.cap) := fun _ => rfl
  have hw0 : Below w.heap.size w (w.alloc (.cells (ccW c) 24)) := (Below.refl _ _).alloc (Nat.le_refl _) _
  have T0 := Two.startAt hw0 s
  have C0 := (((Bk.new w (ccW c) 24).alloc (.cells (wc s) 63)).alloc (.cells (wc wz) 63))
  rw [show (w.alloc (.cells (ccW c) 24)).heap.size = w.heap.size + 1 by simp] at T0
  have b0 := T0.lt
  have hR := refRoom2 c s x (hx.mono (by omega)) _ (h.keep T0.below) hM
  rw [decide_eq_false hm] at hR
  have HR := Lib.hid hR
  have hyf := (few_prep2 hx (m := 900) (by omega)).l2
  clear hR hm
  go_enter Try.func39, Try.ntmps39
  go_wp2_with (first | (refine wpList_load_row rfl 24 _ rfl w.heap.size rfl _ (ccW c) (0, 0) _ (by exact C0) Try.underlying24 rfl (by kernel_rfl) ?_) | (refine wpList_load_row rfl 63 _ rfl (w.heap.size + 1) rfl _ (wc s) (0, 0) _ (by exact T0.X) Try.underlying63 rfl (by kernel_rfl) ?_))
  refine HR.out.mono ?_
  rintro e w1 ⟨s', rfl, L1, K1, hb1⟩
  have T1 := T0.keep hb1
  have b1 := T1.lt
  have N1 : NoB (w.heap.size + 1) s' (prep2 x) := K1 _ (by simp) (noB_all h (by omega))
  have N2 : NoB (w.heap.size + 1 + 1) s' (prep2 x) := K1 _ (by simp) (noB_all h (by omega))
  have T2 := T1.rowX s'
  have L2 := L1.row N1 (wc s')
  have hep : s'.p.ep = x.p.ep := by rw [L1.p]; unfold prep2; split <;> rfl
  have hW : IntKind.u64.wrap (x.p.ep + 1) = tagOf x := rfl
  have hM2 : (tagOf x).tmod 3 = 2 := by rw [Int.tmod_eq_emod_of_nonneg (tag_range x).1]; exact hM
  have e9' := e9 s'
  rw [hep] at e9'
  have hlen := reads_len L1.l2
  have HLEN := Lib.hid hlen
  have eL' := eL s'
  have x2 := T2.X.cells
  have hs1 := hb1.size
  simp only [World.size_alloc] at hs1
  clear C0 T0 hb1 HR K1 hep e9 eL hlen
  obtain ⟨tag, htag⟩ : ∃ t, t = tagOf x := ⟨_, rfl⟩
  rw [← htag] at hW hM2
  clear htag
  have T5 := T2.rowZ s'
  go_wp2_with (first | (refine wpList_store_row rfl 63 _ _ rfl (w.heap.size + 1) (wc s') rfl rfl _ _ (by exact T1.X) (by kernel_rfl) (by kernel_rfl) (by kernel_rfl) ?_) | (refine wpList_load_row rfl 63 _ rfl (w.heap.size + 1) rfl _ (wc s') (0, 0) _ (by exact T2.X) Try.underlying63 rfl (by kernel_rfl) ?_) | (refine wpList_store_row rfl 63 _ _ rfl (w.heap.size + 1 + 1) (wc s') rfl rfl _ _ (by exact T2.Z) (by kernel_rfl) (by kernel_rfl) (by kernel_rfl) ?_))
  refine bodyPost_ret (v := .tuple #[wv s', .bool false]) ?_ rfl ⟨_, rfl, L2.row N2 (wc s'), T5.below⟩
  exact Rw.results_cell_slot (p := 6) (q := 7) (ty := 63) Try.results39 _ _ (w.heap.size + 1 + 1) 63 _ (0, 0) _ rfl T5.Z Try.underlying63 rfl (by kernel_rfl)
theorem refPut5 (c : Cfg) (s : Wk) (x : St) (hx : Few 400 x) (b : Int) (w : World) (h : Lies w s x) :
    Calls Try.prog 39 #[cv c, wv s, .int .i64 b] w fun e w' => ∃ s', e = .returned (.tuple #[wv s', .bool (putB c.bg x b).2]) ∧ Lies w' s' (putB c.bg x b).1 ∧ Below w.heap.size w w' := by
  have ht := (tag_range x).1
  unfold putB
  by_cases h0 : tagOf x % 3 = 0
  · rw [if_pos h0]
    by_cases hm : ((prep0 x).l0.length : Int) < c.bg
    · rw [if_pos hm]; exact refPut5_0_room c s x hx b w h h0 hm
    · rw [if_neg hm]; exact refPut5_0_full c s x hx b w h h0 hm
  · rw [if_neg h0]
    by_cases h1 : tagOf x % 3 = 1
    · rw [if_pos h1]
      by_cases hm : ((prep1 x).l1.length : Int) < c.bg
      · rw [if_pos hm]; exact refPut5_1_room c s x hx b w h h1 hm
      · rw [if_neg hm]; exact refPut5_1_full c s x hx b w h h1 hm
    · rw [if_neg h1]
      have h2 : tagOf x % 3 = 2 := by omega
      by_cases hm : ((prep2 x).l2.length : Int) < c.bg
      · rw [if_pos hm]; exact refPut5_2_room c s x hx b w h h2 hm
      · rw [if_neg hm]; exact refPut5_2_full c s x hx b w h h2 hm
end Go.Proofs.Ytkplkhcboobfaaa.Wo
