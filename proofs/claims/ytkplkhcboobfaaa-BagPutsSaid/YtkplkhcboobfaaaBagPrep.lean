/- bag.prepare (made by genbag.py). -/
import Derived.Test.YtkplkhcboobfaaaRackPut
namespace Go.Proofs.Ytkplkhcboobfaaa.Wo
open Go Go.RowKit Go.Proofs.Ytkplkhcboobfaaa.Gro Go.Proofs.Ytkplkhcboobfaaa.Own Go.Proofs.Ytkplkhcboobfaaa.Wd Go.Proofs.Ytkplkhcboobfaaa.Ap Go.Proofs.Ytkplkhcboobfaaa.Pl
set_option linter.unusedVariables false
set_option linter.unusedSimpArgs false
/-- A state whose lists lie in memory of their own, from block B on; the hold list may have room to spare. -/
structure Part (B : Nat) (w : World) (s : Wk) (x : St) : Prop where
  p : s.p = x.p
  rk : Fresh B w .i64 3 s.rk x.rk
  l0 : Fresh B w .i64 3 s.l0 x.l0
  l1 : Fresh B w .i64 3 s.l1 x.l1
  l2 : Fresh B w .i64 3 s.l2 x.l2
  hl : Owned B w .i64 3 s.hl x.hl
  rd : Fresh B w .u64 22 s.rd x.rd
section
variable {B : Nat} {w w' : World} {s : Wk} {x : St}
theorem Part.lies (h : Part B w s x) : Lies w s x := ⟨h.p, h.rk.reads, h.l0.reads, h.l1.reads, h.l2.reads, h.hl.reads, h.rd.reads⟩
theorem Part.liesF (h : Part B w s x) : LiesF B w s x := ⟨h.p, h.rk.rdF, h.l0.rdF, h.l1.rdF, h.l2.rdF, h.hl.rdF, h.rd.rdF⟩
theorem Part.keep (h : Part B w s x) (hb : Below w.heap.size w w') : Part B w' s x := ⟨h.p, h.rk.keep hb, h.l0.keep hb, h.l1.keep hb, h.l2.keep hb, h.hl.keep hb, h.rd.keep hb⟩
theorem Part.base {B' : Nat} (h : Part B w s x) (hb : B' ≤ B) : Part B' w s x := ⟨h.p, h.rk.base hb, h.l0.base hb, h.l1.base hb, h.l2.base hb, h.hl.base hb, h.rd.base hb⟩
theorem Part.setCell (h : Part B w s x) {g : Nat} (hg : g < B) (j : Nat) (v : Value) : Part B (w.setCell ⟨g, j, none⟩ v) s x := ⟨h.p, h.rk.setCell hg j v, h.l0.setCell hg j v, h.l1.setCell hg j v, h.l2.setCell hg j v, h.hl.setCell hg j v, h.rd.setCell hg j v⟩
theorem Part.setRow (h : Part B w s x) {g : Nat} (hg : g < B) (cs : Array Value) : Part B (w.setRow g cs) s x := ⟨h.p, h.rk.setRow hg cs, h.l0.setRow hg cs, h.l1.setRow hg cs, h.l2.setRow hg cs, h.hl.setRow hg cs, h.rd.setRow hg cs⟩
theorem Anew.part (h : Anew B w s x) : Part B w s x := ⟨h.p, h.rk, h.l0, h.l1, h.l2, h.hl.2, h.rd⟩
end
/-- The current tag, and the state with its bucket prepared. -/
def tagOf (x : St) : Int := IntKind.u64.wrap (x.p.ep + 1)
def prep0 (x : St) : St := if x.p.t0 = tagOf x then x else { x with p := { x.p with t0 := tagOf x }, l0 := [], hl := x.hl ++ x.l0 }
def prep1 (x : St) : St := if x.p.t1 = tagOf x then x else { x with p := { x.p with t1 := tagOf x }, l1 := [], hl := x.hl ++ x.l1 }
def prep2 (x : St) : St := if x.p.t2 = tagOf x then x else { x with p := { x.p with t2 := tagOf x }, l2 := [], hl := x.hl ++ x.l2 }
theorem tag_range (x : St) : 0 ≤ tagOf x ∧ tagOf x < 18446744073709551616 := by
  unfold tagOf IntKind.wrap
  rw [show IntKind.u64.bits = 64 from rfl]
  simp [IntKind.signed]
  omega
set_option maxRecDepth 10000 in
set_option maxHeartbeats 1000000 in
theorem prep_same0 (s : Wk) (x : St) (hx : Few 900 x) (w : World) (h : Lies w s x) (tag : Int) (hW : IntKind.u64.wrap (s.p.ep + 1) = tag) (h0 : 0 ≤ tag) (hM : tag % 3 = 0) (hT : s.p.t0 = tag) :
    Calls Try.prog 66 #[wv s] w fun e w' => ∃ s', e = .returned (.tuple #[wv s', .int .i64 0]) ∧ Anew w.heap.size w' s' x ∧ Below w.heap.size w w' := by
  have e9 : ∀ s : Wk, (wc s)[9]? = some (.int .u64 s.p.ep) := fun _ => rfl
  have eT : ∀ s : Wk, (wc s)[11]? = some (.int .u64 s.p.t0) := fun _ => rfl
  have eL : ∀ s : Wk, (wc s)[12]? = some (.slice s.l0.ad s.l0.len s.l0.cap) := fun _ => rfl
  have T0 := Two.start w s
  have T0k := fun (o : Obj) => T0.keep ((Below.refl _ _).alloc (Nat.le_refl _) o)
  have x0 := T0.X.cells
  have hM2 : tag.tmod 3 = 0 := by rw [Int.tmod_eq_emod_of_nonneg h0]; exact hM
  have b0 := T0.lt
  have hb : (s.p.t0 == tag) = true := by simp [hT]
  have HT := Lib.hid hT
  clear hT
  go_enter Try.func66, Try.ntmps66
  go_wp2_with (refine wpList_load_row rfl 63 _ rfl (w.heap.size) rfl _ (wc s) (0, 0) _ (by exact (T0k _).X) Try.underlying63 rfl (by kernel_rfl) ?_)
  refine (copyWork s x (hx.mono (by omega)) _ (h.keep (T0k _).below)).mono ?_
  rintro e w1 ⟨s', rfl, A1, hb1⟩
  have T1 := (T0k _).keep hb1
  have T2 := T1.rowZ s'
  have hs1 := hb1.size
  simp at hs1
  clear T0 T0k x0 hb1 hs1
  go_wp2_with (refine wpList_store_row rfl 63 _ _ rfl (w.heap.size + 1) (wc s') rfl rfl _ _ (by exact T1.Z) (by kernel_rfl) (by kernel_rfl) (by kernel_rfl) ?_)
  refine bodyPost_ret (v := .tuple #[wv s', .int .i64 0]) ?_ rfl ⟨_, rfl, ?_, T2.below⟩
  · exact Rw.results_cell_slot (p := 2) (q := 3) (ty := 63) Try.results66 _ _ (w.heap.size + 1) 63 _ (0, 0) _ rfl T2.Z Try.underlying63 rfl (by kernel_rfl)
  · exact (A1.setRow (g := w.heap.size + 1) (by simp <;> omega) _).base (by simp <;> omega)
set_option maxRecDepth 10000 in
set_option maxHeartbeats 1000000 in
theorem prep_same1 (s : Wk) (x : St) (hx : Few 900 x) (w : World) (h : Lies w s x) (tag : Int) (hW : IntKind.u64.wrap (s.p.ep + 1) = tag) (h0 : 0 ≤ tag) (hM : tag % 3 = 1) (hT : s.p.t1 = tag) :
    Calls Try.prog 66 #[wv s] w fun e w' => ∃ s', e = .returned (.tuple #[wv s', .int .i64 1]) ∧ Anew w.heap.size w' s' x ∧ Below w.heap.size w w' := by
  have e9 : ∀ s : Wk, (wc s)[9]? = some (.int .u64 s.p.ep) := fun _ => rfl
  have eT : ∀ s : Wk, (wc s)[13]? = some (.int .u64 s.p.t1) := fun _ => rfl
  have eL : ∀ s : Wk, (wc s)[14]? = some (.slice s.l1.ad s.l1.len s.l1.cap) := fun _ => rfl
  have T0 := Two.start w s
  have T0k := fun (o : Obj) => T0.keep ((Below.refl _ _).alloc (Nat.le_refl _) o)
  have x0 := T0.X.cells
  have hM2 : tag.tmod 3 = 1 := by rw [Int.tmod_eq_emod_of_nonneg h0]; exact hM
  have b0 := T0.lt
  have hb : (s.p.t1 == tag) = true := by simp [hT]
  have HT := Lib.hid hT
  clear hT
  go_enter Try.func66, Try.ntmps66
  go_wp2_with (refine wpList_load_row rfl 63 _ rfl (w.heap.size) rfl _ (wc s) (0, 0) _ (by exact (T0k _).X) Try.underlying63 rfl (by kernel_rfl) ?_)
  refine (copyWork s x (hx.mono (by omega)) _ (h.keep (T0k _).below)).mono ?_
  rintro e w1 ⟨s', rfl, A1, hb1⟩
  have T1 := (T0k _).keep hb1
  have T2 := T1.rowZ s'
  have hs1 := hb1.size
  simp at hs1
  clear T0 T0k x0 hb1 hs1
  go_wp2_with (refine wpList_store_row rfl 63 _ _ rfl (w.heap.size + 1) (wc s') rfl rfl _ _ (by exact T1.Z) (by kernel_rfl) (by kernel_rfl) (by kernel_rfl) ?_)
  refine bodyPost_ret (v := .tuple #[wv s', .int .i64 1]) ?_ rfl ⟨_, rfl, ?_, T2.below⟩
  · exact Rw.results_cell_slot (p := 2) (q := 3) (ty := 63) Try.results66 _ _ (w.heap.size + 1) 63 _ (0, 0) _ rfl T2.Z Try.underlying63 rfl (by kernel_rfl)
  · exact (A1.setRow (g := w.heap.size + 1) (by simp <;> omega) _).base (by simp <;> omega)
set_option maxRecDepth 10000 in
set_option maxHeartbeats 1000000 in
theorem prep_same2 (s : Wk) (x : St) (hx : Few 900 x) (w : World) (h : Lies w s x) (tag : Int) (hW : IntKind.u64.wrap (s.p.ep + 1) = tag) (h0 : 0 ≤ tag) (hM : tag % 3 = 2) (hT : s.p.t2 = tag) :
    Calls Try.prog 66 #[wv s] w fun e w' => ∃ s', e = .returned (.tuple #[wv s', .int .i64 2]) ∧ Anew w.heap.size w' s' x ∧ Below w.heap.size w w' := by
  have e9 : ∀ s : Wk, (wc s)[9]? = some (.int .u64 s.p.ep) := fun _ => rfl
  have eT : ∀ s : Wk, (wc s)[15]? = some (.int .u64 s.p.t2) := fun _ => rfl
  have eL : ∀ s : Wk, (wc s)[16]? = some (.slice s.l2.ad s.l2.len s.l2.cap) := fun _ => rfl
  have T0 := Two.start w s
  have T0k := fun (o : Obj) => T0.keep ((Below.refl _ _).alloc (Nat.le_refl _) o)
  have x0 := T0.X.cells
  have hM2 : tag.tmod 3 = 2 := by rw [Int.tmod_eq_emod_of_nonneg h0]; exact hM
  have b0 := T0.lt
  have hb : (s.p.t2 == tag) = true := by simp [hT]
  have HT := Lib.hid hT
  clear hT
  go_enter Try.func66, Try.ntmps66
  go_wp2_with (refine wpList_load_row rfl 63 _ rfl (w.heap.size) rfl _ (wc s) (0, 0) _ (by exact (T0k _).X) Try.underlying63 rfl (by kernel_rfl) ?_)
  refine (copyWork s x (hx.mono (by omega)) _ (h.keep (T0k _).below)).mono ?_
  rintro e w1 ⟨s', rfl, A1, hb1⟩
  have T1 := (T0k _).keep hb1
  have T2 := T1.rowZ s'
  have hs1 := hb1.size
  simp at hs1
  clear T0 T0k x0 hb1 hs1
  go_wp2_with (refine wpList_store_row rfl 63 _ _ rfl (w.heap.size + 1) (wc s') rfl rfl _ _ (by exact T1.Z) (by kernel_rfl) (by kernel_rfl) (by kernel_rfl) ?_)
  refine bodyPost_ret (v := .tuple #[wv s', .int .i64 2]) ?_ rfl ⟨_, rfl, ?_, T2.below⟩
  · exact Rw.results_cell_slot (p := 2) (q := 3) (ty := 63) Try.results66 _ _ (w.heap.size + 1) 63 _ (0, 0) _ rfl T2.Z Try.underlying63 rfl (by kernel_rfl)
  · exact (A1.setRow (g := w.heap.size + 1) (by simp <;> omega) _).base (by simp <;> omega)
set_option maxRecDepth 10000 in
set_option maxHeartbeats 1000000 in
theorem prep_other0 (s : Wk) (x : St) (hx : Few 900 x) (w : World) (h : Lies w s x) (tag : Int) (hW : IntKind.u64.wrap (s.p.ep + 1) = tag) (h0 : 0 ≤ tag) (hM : tag % 3 = 0) (hT : ¬ s.p.t0 = tag) :
    Calls Try.prog 66 #[wv s] w fun e w' => ∃ s', e = .returned (.tuple #[wv s', .int .i64 0]) ∧ Part w.heap.size w' s' { x with p := { x.p with t0 := tag }, l0 := [], hl := x.hl ++ x.l0 } ∧ Below w.heap.size w w' := by
  have e9 : ∀ s : Wk, (wc s)[9]? = some (.int .u64 s.p.ep) := fun _ => rfl
  have eT : ∀ s : Wk, (wc s)[11]? = some (.int .u64 s.p.t0) := fun _ => rfl
  have eL : ∀ s : Wk, (wc s)[12]? = some (.slice s.l0.ad s.l0.len s.l0.cap) := fun _ => rfl
  have T0 := Two.start w s
  have T0k := fun (o : Obj) => T0.keep ((Below.refl _ _).alloc (Nat.le_refl _) o)
  have x0 := T0.X.cells
  have hM2 : tag.tmod 3 = 0 := by rw [Int.tmod_eq_emod_of_nonneg h0]; exact hM
  have b0 := T0.lt
  have hb : (s.p.t0 == tag) = false := by simp [hT]
  have HT := Lib.hid hT
  clear hT
  go_enter Try.func66, Try.ntmps66
  go_wp2_with (refine wpList_load_row rfl 63 _ rfl (w.heap.size) rfl _ (wc s) (0, 0) _ (by exact (T0k _).X) Try.underlying63 rfl (by kernel_rfl) ?_)
  refine (rackHold s x hx s.l0 x.l0 (hx.l0) _ (h.keep (T0k _).below) (h.l0.keep (T0k _).below)).mono ?_
  rintro e w1 ⟨s', rfl, ⟨_, _, _, _, _, O1, A1⟩, hb1⟩
  have P1 : Part _ w1 s' { x with hl := x.hl ++ x.l0 } := ⟨A1.p, A1.rk, A1.l0, A1.l1, A1.l2, O1, A1.rd⟩
  have T1 := (T0k _).keep hb1
  have T2 := T1.rowX s'
  have x2 := T2.X.cells
  have z2 := T2.X.frozen
  have b1 := T1.lt
  have T3 := T2.setX 11 (.int .u64 tag) { s' with p := { s'.p with t0 := tag } } rfl
  have T4 := T3.setX 12 nilS.v { s' with p := { s'.p with t0 := tag }, l0 := nilS } rfl
  have T5 := T4.rowZ { s' with p := { s'.p with t0 := tag }, l0 := nilS }
  have hs1 := hb1.size
  simp at hs1
  have P2 := P1.setRow (g := w.heap.size) (by simp <;> omega) (wc s')
  clear T0 T0k x0 hb1 hs1 O1 A1 P1
  go_wp2_with (first | (refine wpList_store_row rfl 63 _ _ rfl (w.heap.size) (wc s') rfl rfl _ _ (by exact T1.X) (by kernel_rfl) (by kernel_rfl) (by kernel_rfl) ?_) | (refine wpList_load_row rfl 63 _ rfl (w.heap.size) rfl _ (wc { s' with p := { s'.p with t0 := tag }, l0 := nilS }) (0, 0) _ (by exact T4.X) Try.underlying63 rfl (by kernel_rfl) ?_) | (refine wpList_store_row rfl 63 _ _ rfl (w.heap.size + 1) (wc { s' with p := { s'.p with t0 := tag }, l0 := nilS }) rfl rfl _ _ (by exact T4.Z) (by kernel_rfl) (by kernel_rfl) (by kernel_rfl) ?_))
  refine bodyPost_ret (v := .tuple #[wv { s' with p := { s'.p with t0 := tag }, l0 := nilS }, .int .i64 0]) ?_ rfl ⟨_, rfl, ?_, T5.below⟩
  · exact Rw.results_cell_slot (p := 2) (q := 3) (ty := 63) Try.results66 _ _ (w.heap.size + 1) 63 _ (0, 0) _ rfl T5.Z Try.underlying63 rfl (by kernel_rfl)
  · have P5 := ((P2.setCell (g := w.heap.size) (by simp <;> omega) 11 (.int .u64 tag)).setCell (g := w.heap.size) (by simp <;> omega) 12 nilS.v).setRow (g := w.heap.size + 1) (by simp <;> omega) (wc { s' with p := { s'.p with t0 := tag }, l0 := nilS })
    exact Part.base ⟨by simp [P2.p], P5.rk, Fresh.nil, P5.l1, P5.l2, P5.hl, P5.rd⟩ (by simp <;> omega)
set_option maxRecDepth 10000 in
set_option maxHeartbeats 1000000 in
theorem prep_other1 (s : Wk) (x : St) (hx : Few 900 x) (w : World) (h : Lies w s x) (tag : Int) (hW : IntKind.u64.wrap (s.p.ep + 1) = tag) (h0 : 0 ≤ tag) (hM : tag % 3 = 1) (hT : ¬ s.p.t1 = tag) :
    Calls Try.prog 66 #[wv s] w fun e w' => ∃ s', e = .returned (.tuple #[wv s', .int .i64 1]) ∧ Part w.heap.size w' s' { x with p := { x.p with t1 := tag }, l1 := [], hl := x.hl ++ x.l1 } ∧ Below w.heap.size w w' := by
  have e9 : ∀ s : Wk, (wc s)[9]? = some (.int .u64 s.p.ep) := fun _ => rfl
  have eT : ∀ s : Wk, (wc s)[13]? = some (.int .u64 s.p.t1) := fun _ => rfl
  have eL : ∀ s : Wk, (wc s)[14]? = some (.slice s.l1.ad s.l1.len s.l1.cap) := fun _ => rfl
  have T0 := Two.start w s
  have T0k := fun (o : Obj) => T0.keep ((Below.refl _ _).alloc (Nat.le_refl _) o)
  have x0 := T0.X.cells
  have hM2 : tag.tmod 3 = 1 := by rw [Int.tmod_eq_emod_of_nonneg h0]; exact hM
  have b0 := T0.lt
  have hb : (s.p.t1 == tag) = false := by simp [hT]
  have HT := Lib.hid hT
  clear hT
  go_enter Try.func66, Try.ntmps66
  go_wp2_with (refine wpList_load_row rfl 63 _ rfl (w.heap.size) rfl _ (wc s) (0, 0) _ (by exact (T0k _).X) Try.underlying63 rfl (by kernel_rfl) ?_)
  refine (rackHold s x hx s.l1 x.l1 (hx.l1) _ (h.keep (T0k _).below) (h.l1.keep (T0k _).below)).mono ?_
  rintro e w1 ⟨s', rfl, ⟨_, _, _, _, _, O1, A1⟩, hb1⟩
  have P1 : Part _ w1 s' { x with hl := x.hl ++ x.l1 } := ⟨A1.p, A1.rk, A1.l0, A1.l1, A1.l2, O1, A1.rd⟩
  have T1 := (T0k _).keep hb1
  have T2 := T1.rowX s'
  have x2 := T2.X.cells
  have z2 := T2.X.frozen
  have b1 := T1.lt
  have T3 := T2.setX 13 (.int .u64 tag) { s' with p := { s'.p with t1 := tag } } rfl
  have T4 := T3.setX 14 nilS.v { s' with p := { s'.p with t1 := tag }, l1 := nilS } rfl
  have T5 := T4.rowZ { s' with p := { s'.p with t1 := tag }, l1 := nilS }
  have hs1 := hb1.size
  simp at hs1
  have P2 := P1.setRow (g := w.heap.size) (by simp <;> omega) (wc s')
  clear T0 T0k x0 hb1 hs1 O1 A1 P1
  go_wp2_with (first | (refine wpList_store_row rfl 63 _ _ rfl (w.heap.size) (wc s') rfl rfl _ _ (by exact T1.X) (by kernel_rfl) (by kernel_rfl) (by kernel_rfl) ?_) | (refine wpList_load_row rfl 63 _ rfl (w.heap.size) rfl _ (wc { s' with p := { s'.p with t1 := tag }, l1 := nilS }) (0, 0) _ (by exact T4.X) Try.underlying63 rfl (by kernel_rfl) ?_) | (refine wpList_store_row rfl 63 _ _ rfl (w.heap.size + 1) (wc { s' with p := { s'.p with t1 := tag }, l1 := nilS }) rfl rfl _ _ (by exact T4.Z) (by kernel_rfl) (by kernel_rfl) (by kernel_rfl) ?_))
  refine bodyPost_ret (v := .tuple #[wv { s' with p := { s'.p with t1 := tag }, l1 := nilS }, .int .i64 1]) ?_ rfl ⟨_, rfl, ?_, T5.below⟩
  · exact Rw.results_cell_slot (p := 2) (q := 3) (ty := 63) Try.results66 _ _ (w.heap.size + 1) 63 _ (0, 0) _ rfl T5.Z Try.underlying63 rfl (by kernel_rfl)
  · have P5 := ((P2.setCell (g := w.heap.size) (by simp <;> omega) 13 (.int .u64 tag)).setCell (g := w.heap.size) (by simp <;> omega) 14 nilS.v).setRow (g := w.heap.size + 1) (by simp <;> omega) (wc { s' with p := { s'.p with t1 := tag }, l1 := nilS })
    exact Part.base ⟨by simp [P2.p], P5.rk, P5.l0, Fresh.nil, P5.l2, P5.hl, P5.rd⟩ (by simp <;> omega)
set_option maxRecDepth 10000 in
set_option maxHeartbeats 1000000 in
theorem prep_other2 (s : Wk) (x : St) (hx : Few 900 x) (w : World) (h : Lies w s x) (tag : Int) (hW : IntKind.u64.wrap (s.p.ep + 1) = tag) (h0 : 0 ≤ tag) (hM : tag % 3 = 2) (hT : ¬ s.p.t2 = tag) :
    Calls Try.prog 66 #[wv s] w fun e w' => ∃ s', e = .returned (.tuple #[wv s', .int .i64 2]) ∧ Part w.heap.size w' s' { x with p := { x.p with t2 := tag }, l2 := [], hl := x.hl ++ x.l2 } ∧ Below w.heap.size w w' := by
  have e9 : ∀ s : Wk, (wc s)[9]? = some (.int .u64 s.p.ep) := fun _ => rfl
  have eT : ∀ s : Wk, (wc s)[15]? = some (.int .u64 s.p.t2) := fun _ => rfl
  have eL : ∀ s : Wk, (wc s)[16]? = some (.slice s.l2.ad s.l2.len s.l2.cap) := fun _ => rfl
  have T0 := Two.start w s
  have T0k := fun (o : Obj) => T0.keep ((Below.refl _ _).alloc (Nat.le_refl _) o)
  have x0 := T0.X.cells
  have hM2 : tag.tmod 3 = 2 := by rw [Int.tmod_eq_emod_of_nonneg h0]; exact hM
  have b0 := T0.lt
  have hb : (s.p.t2 == tag) = false := by simp [hT]
  have HT := Lib.hid hT
  clear hT
  go_enter Try.func66, Try.ntmps66
  go_wp2_with (refine wpList_load_row rfl 63 _ rfl (w.heap.size) rfl _ (wc s) (0, 0) _ (by exact (T0k _).X) Try.underlying63 rfl (by kernel_rfl) ?_)
  refine (rackHold s x hx s.l2 x.l2 (hx.l2) _ (h.keep (T0k _).below) (h.l2.keep (T0k _).below)).mono ?_
  rintro e w1 ⟨s', rfl, ⟨_, _, _, _, _, O1, A1⟩, hb1⟩
  have P1 : Part _ w1 s' { x with hl := x.hl ++ x.l2 } := ⟨A1.p, A1.rk, A1.l0, A1.l1, A1.l2, O1, A1.rd⟩
  have T1 := (T0k _).keep hb1
  have T2 := T1.rowX s'
  have x2 := T2.X.cells
  have z2 := T2.X.frozen
  have b1 := T1.lt
  have T3 := T2.setX 15 (.int .u64 tag) { s' with p := { s'.p with t2 := tag } } rfl
  have T4 := T3.setX 16 nilS.v { s' with p := { s'.p with t2 := tag }, l2 := nilS } rfl
  have T5 := T4.rowZ { s' with p := { s'.p with t2 := tag }, l2 := nilS }
  have hs1 := hb1.size
  simp at hs1
  have P2 := P1.setRow (g := w.heap.size) (by simp <;> omega) (wc s')
  clear T0 T0k x0 hb1 hs1 O1 A1 P1
  go_wp2_with (first | (refine wpList_store_row rfl 63 _ _ rfl (w.heap.size) (wc s') rfl rfl _ _ (by exact T1.X) (by kernel_rfl) (by kernel_rfl) (by kernel_rfl) ?_) | (refine wpList_load_row rfl 63 _ rfl (w.heap.size) rfl _ (wc { s' with p := { s'.p with t2 := tag }, l2 := nilS }) (0, 0) _ (by exact T4.X) Try.underlying63 rfl (by kernel_rfl) ?_) | (refine wpList_store_row rfl 63 _ _ rfl (w.heap.size + 1) (wc { s' with p := { s'.p with t2 := tag }, l2 := nilS }) rfl rfl _ _ (by exact T4.Z) (by kernel_rfl) (by kernel_rfl) (by kernel_rfl) ?_))
  refine bodyPost_ret (v := .tuple #[wv { s' with p := { s'.p with t2 := tag }, l2 := nilS }, .int .i64 2]) ?_ rfl ⟨_, rfl, ?_, T5.below⟩
  · exact Rw.results_cell_slot (p := 2) (q := 3) (ty := 63) Try.results66 _ _ (w.heap.size + 1) 63 _ (0, 0) _ rfl T5.Z Try.underlying63 rfl (by kernel_rfl)
  · have P5 := ((P2.setCell (g := w.heap.size) (by simp <;> omega) 15 (.int .u64 tag)).setCell (g := w.heap.size) (by simp <;> omega) 16 nilS.v).setRow (g := w.heap.size + 1) (by simp <;> omega) (wc { s' with p := { s'.p with t2 := tag }, l2 := nilS })
    exact Part.base ⟨by simp [P2.p], P5.rk, P5.l0, P5.l1, Fresh.nil, P5.hl, P5.rd⟩ (by simp <;> omega)
end Go.Proofs.Ytkplkhcboobfaaa.Wo
