/- Part Bags. -/
import Derived.Test.YtaiodbcnbcdokaaGreatKWorks
import Derived.Test.YtaiodbcnbcdokaaGreatKRefs
set_option linter.unusedVariables false
set_option linter.unusedSimpArgs false
set_option linter.unusedSectionVars false
set_option maxRecDepth 100000
set_option maxHeartbeats 16000000
namespace Go.Proofs.YtaiodbcnbcdokaaGreat.Wo
open Go Go.RowKit Gro Own Wd Ap Go.Proofs.YtaiodbcnbcdokaaGreat.Pl
structure Part (B : Nat) (w : World) (s : Wk) (x : St) : Prop where
 p : s.p = x.p
 rk : bK B w .i64 3 s.rk x.rk
 l0 : bK B w .i64 3 s.l0 x.l0
 l1 : bK B w .i64 3 s.l1 x.l1
 l2 : bK B w .i64 3 s.l2 x.l2
 hl : bD B w .i64 3 s.hl x.hl
 rd : bK B w .u64 22 s.rd x.rd
section
variable {B : Nat} {w w' : World} {s : Wk} {x : St}
theorem Part.lies (h : Part B w s x) : aP w s x := ⟨h.p, h.rk.reads, h.l0.reads, h.l1.reads, h.l2.reads, h.hl.reads, h.rd.reads⟩
theorem Part.dL (h : Part B w s x) : aQ B w s x := ⟨h.p, h.rk.rdF, h.l0.rdF, h.l1.rdF, h.l2.rdF, h.hl.rdF, h.rd.rdF⟩
theorem Part.keep (h : Part B w s x) (hb : Below w.heap.size w w') : Part B w' s x := ⟨h.p, h.rk.keep hb, h.l0.keep hb, h.l1.keep hb, h.l2.keep hb, h.hl.keep hb, h.rd.keep hb⟩
theorem Part.base {B' : Nat} (h : Part B w s x) (hb : B' ≤ B) : Part B' w s x := ⟨h.p, h.rk.base hb, h.l0.base hb, h.l1.base hb, h.l2.base hb, h.hl.base hb, h.rd.base hb⟩
theorem Part.setCell (h : Part B w s x) {g : Nat} (hg : g < B) (j : Nat) (v : Value) : Part B (w.setCell ⟨g, j, none⟩ v) s x := ⟨h.p, h.rk.setCell hg j v, h.l0.setCell hg j v, h.l1.setCell hg j v, h.l2.setCell hg j v, h.hl.setCell hg j v, h.rd.setCell hg j v⟩
theorem Part.setRow (h : Part B w s x) {g : Nat} (hg : g < B) (cs : Array Value) : Part B (w.setRow g cs) s x := ⟨h.p, h.rk.setRow hg cs, h.l0.setRow hg cs, h.l1.setRow hg cs, h.l2.setRow hg cs, h.hl.setRow hg cs, h.rd.setRow hg cs⟩
theorem dI.part (h : dI B w s x) : Part B w s x := ⟨h.p, h.rk, h.l0, h.l1, h.l2, h.hl.2, h.rd⟩
end
def cB (x : St) : Int := IntKind.u64.wrap (x.p.ep + 1)
def eY (x : St) : St := if x.p.t0 = cB x then x else { x with p := { x.p with t0 := cB x }, l0 := [], hl := x.hl ++ x.l0 }
def eX (x : St) : St := if x.p.t1 = cB x then x else { x with p := { x.p with t1 := cB x }, l1 := [], hl := x.hl ++ x.l1 }
def eU (x : St) : St := if x.p.t2 = cB x then x else { x with p := { x.p with t2 := cB x }, l2 := [], hl := x.hl ++ x.l2 }
theorem gN (x : St) : 0 ≤ cB x ∧ cB x < 18446744073709551616 := by
 unfold cB IntKind.wrap
 rw [show IntKind.u64.bits = 64 from rfl]
 simp [IntKind.signed]
 omega
theorem prep_same0 (s : Wk) (x : St) (hx : Few 900 x) (w : World) (h : aP w s x) (tag : Int) (hW : IntKind.u64.wrap (s.p.ep + 1) = tag) (h0 : 0 ≤ tag) (hM : tag % 3 = 0) (hT : s.p.t0 = tag) :
  Calls Tryz.prog 211 #[wv s] w fun e w' => ∃ s', e = .returned (.tuple #[wv s', .int .i64 0]) ∧ dI w.heap.size w' s' x ∧ Below w.heap.size w w' := by
 have e9 : ∀ s : Wk, (wc s)[9]? = some (.int .u64 s.p.ep) := fun _ => rfl
 have eT : ∀ s : Wk, (wc s)[11]? = some (.int .u64 s.p.t0) := fun _ => rfl
 have eL : ∀ s : Wk, (wc s)[12]? = some (.slice s.l0.ad s.l0.len s.l0.cap) := fun _ => rfl
 have T0 := Two.start w s
 have T0k := fun (o : Obj) => T0.keep ((Below.refl _ _).alloc (Nat.le_refl _) o)
 have x0 := T0.X.cells
 have hM2 : tag.tmod 3 = 0 := qa6k
 have b0 := T0.lt
 have hb : (s.p.t0 == tag) = true := by simp [hT]
 have HT := Lib.hid hT
 clear hT
 go_enter Tryz.func211, Tryz.ntmps211
 go_wp2_with (refine wpList_load_row rfl 46 _ rfl (w.heap.size) rfl _ (wc s) (0, 0) _ qa6l Tryz.underlying46 rfl ah ?_)
 refine (aW s x (hx.mono aj) _ (h.keep (T0k _).below)).mono ?_
 rintro e w1 ⟨s', rfl, A1, hb1⟩
 have T1 := (T0k _).keep hb1
 have T2 := T1.bN s'
 have hs1 := hb1.size
 simp at hs1
 clear T0 T0k x0 hb1 hs1
 go_wp2_with (refine wpList_store_row rfl 46 _ _ rfl (w.heap.size + 1) (wc s') rfl rfl _ _ (by exact T1.Z) ah ah ah ?_)
 refine bodyPost_ret (v := .tuple #[wv s', .int .i64 0]) ?_ rfl ⟨_, rfl, ?_, T2.below⟩
 ·exact qa5
 ·exact qa6
theorem prep_same1 (s : Wk) (x : St) (hx : Few 900 x) (w : World) (h : aP w s x) (tag : Int) (hW : IntKind.u64.wrap (s.p.ep + 1) = tag) (h0 : 0 ≤ tag) (hM : tag % 3 = 1) (hT : s.p.t1 = tag) :
  Calls Tryz.prog 211 #[wv s] w fun e w' => ∃ s', e = .returned (.tuple #[wv s', .int .i64 1]) ∧ dI w.heap.size w' s' x ∧ Below w.heap.size w w' := by
 have e9 : ∀ s : Wk, (wc s)[9]? = some (.int .u64 s.p.ep) := fun _ => rfl
 have eT : ∀ s : Wk, (wc s)[13]? = some (.int .u64 s.p.t1) := fun _ => rfl
 have eL : ∀ s : Wk, (wc s)[14]? = some (.slice s.l1.ad s.l1.len s.l1.cap) := fun _ => rfl
 have T0 := Two.start w s
 have T0k := fun (o : Obj) => T0.keep ((Below.refl _ _).alloc (Nat.le_refl _) o)
 have x0 := T0.X.cells
 have hM2 : tag.tmod 3 = 1 := qa6k
 have b0 := T0.lt
 have hb : (s.p.t1 == tag) = true := by simp [hT]
 have HT := Lib.hid hT
 clear hT
 go_enter Tryz.func211, Tryz.ntmps211
 go_wp2_with (refine wpList_load_row rfl 46 _ rfl (w.heap.size) rfl _ (wc s) (0, 0) _ qa6l Tryz.underlying46 rfl ah ?_)
 refine (aW s x (hx.mono aj) _ (h.keep (T0k _).below)).mono ?_
 rintro e w1 ⟨s', rfl, A1, hb1⟩
 have T1 := (T0k _).keep hb1
 have T2 := T1.bN s'
 have hs1 := hb1.size
 simp at hs1
 clear T0 T0k x0 hb1 hs1
 go_wp2_with (refine wpList_store_row rfl 46 _ _ rfl (w.heap.size + 1) (wc s') rfl rfl _ _ (by exact T1.Z) ah ah ah ?_)
 refine bodyPost_ret (v := .tuple #[wv s', .int .i64 1]) ?_ rfl ⟨_, rfl, ?_, T2.below⟩
 ·exact qa5
 ·exact qa6
theorem prep_same2 (s : Wk) (x : St) (hx : Few 900 x) (w : World) (h : aP w s x) (tag : Int) (hW : IntKind.u64.wrap (s.p.ep + 1) = tag) (h0 : 0 ≤ tag) (hM : tag % 3 = 2) (hT : s.p.t2 = tag) :
  Calls Tryz.prog 211 #[wv s] w fun e w' => ∃ s', e = .returned (.tuple #[wv s', .int .i64 2]) ∧ dI w.heap.size w' s' x ∧ Below w.heap.size w w' := by
 have e9 : ∀ s : Wk, (wc s)[9]? = some (.int .u64 s.p.ep) := fun _ => rfl
 have eT : ∀ s : Wk, (wc s)[15]? = some (.int .u64 s.p.t2) := fun _ => rfl
 have eL : ∀ s : Wk, (wc s)[16]? = some (.slice s.l2.ad s.l2.len s.l2.cap) := fun _ => rfl
 have T0 := Two.start w s
 have T0k := fun (o : Obj) => T0.keep ((Below.refl _ _).alloc (Nat.le_refl _) o)
 have x0 := T0.X.cells
 have hM2 : tag.tmod 3 = 2 := qa6k
 have b0 := T0.lt
 have hb : (s.p.t2 == tag) = true := by simp [hT]
 have HT := Lib.hid hT
 clear hT
 go_enter Tryz.func211, Tryz.ntmps211
 go_wp2_with (refine wpList_load_row rfl 46 _ rfl (w.heap.size) rfl _ (wc s) (0, 0) _ qa6l Tryz.underlying46 rfl ah ?_)
 refine (aW s x (hx.mono aj) _ (h.keep (T0k _).below)).mono ?_
 rintro e w1 ⟨s', rfl, A1, hb1⟩
 have T1 := (T0k _).keep hb1
 have T2 := T1.bN s'
 have hs1 := hb1.size
 simp at hs1
 clear T0 T0k x0 hb1 hs1
 go_wp2_with (refine wpList_store_row rfl 46 _ _ rfl (w.heap.size + 1) (wc s') rfl rfl _ _ (by exact T1.Z) ah ah ah ?_)
 refine bodyPost_ret (v := .tuple #[wv s', .int .i64 2]) ?_ rfl ⟨_, rfl, ?_, T2.below⟩
 ·exact qa5
 ·exact qa6
theorem prep_other0 (s : Wk) (x : St) (hx : Few 900 x) (w : World) (h : aP w s x) (tag : Int) (hW : IntKind.u64.wrap (s.p.ep + 1) = tag) (h0 : 0 ≤ tag) (hM : tag % 3 = 0) (hT : ¬ s.p.t0 = tag) :
  Calls Tryz.prog 211 #[wv s] w fun e w' => ∃ s', e = .returned (.tuple #[wv s', .int .i64 0]) ∧ Part w.heap.size w' s' { x with p := { x.p with t0 := tag }, l0 := [], hl := x.hl ++ x.l0 } ∧ Below w.heap.size w w' := by
 have e9 : ∀ s : Wk, (wc s)[9]? = some (.int .u64 s.p.ep) := fun _ => rfl
 have eT : ∀ s : Wk, (wc s)[11]? = some (.int .u64 s.p.t0) := fun _ => rfl
 have eL : ∀ s : Wk, (wc s)[12]? = some (.slice s.l0.ad s.l0.len s.l0.cap) := fun _ => rfl
 have T0 := Two.start w s
 have T0k := fun (o : Obj) => T0.keep ((Below.refl _ _).alloc (Nat.le_refl _) o)
 have x0 := T0.X.cells
 have hM2 : tag.tmod 3 = 0 := qa6k
 have b0 := T0.lt
 have hb : (s.p.t0 == tag) = false := by simp [hT]
 have HT := Lib.hid hT
 clear hT
 go_enter Tryz.func211, Tryz.ntmps211
 go_wp2_with (refine wpList_load_row rfl 46 _ rfl (w.heap.size) rfl _ (wc s) (0, 0) _ qa6l Tryz.underlying46 rfl ah ?_)
 refine (dF s x hx s.l0 x.l0 (hx.l0) _ (h.keep (T0k _).below) (h.l0.keep (T0k _).below)).mono ?_
 rintro e w1 ⟨s', rfl, ⟨_, _, _, _, _, O1, A1⟩, hb1⟩
 have P1 : Part _ w1 s' { x with hl := x.hl ++ x.l0 } := ⟨A1.p, A1.rk, A1.l0, A1.l1, A1.l2, O1, A1.rd⟩
 have T1 := (T0k _).keep hb1
 have T2 := T1.bO s'
 have x2 := T2.X.cells
 have z2 := T2.X.frozen
 have b1 := T1.lt
 have T3 := T2.bZ 11 (.int .u64 tag) { s' with p := { s'.p with t0 := tag } } rfl
 have T4 := T3.bZ 12 aG.v { s' with p := { s'.p with t0 := tag }, l0 := aG } rfl
 have T5 := T4.bN { s' with p := { s'.p with t0 := tag }, l0 := aG }
 have hs1 := hb1.size
 simp at hs1
 have P2 := P1.setRow (g := w.heap.size) qa6m (wc s')
 clear T0 T0k x0 hb1 hs1 O1 A1 P1
 go_wp2_with (first | (refine wpList_store_row rfl 46 _ _ rfl (w.heap.size) (wc s') rfl rfl _ _ dG ah ah ah ?_) | (refine wpList_load_row rfl 46 _ rfl (w.heap.size) rfl _ (wc { s' with p := { s'.p with t0 := tag }, l0 := aG }) (0, 0) _ qa4z Tryz.underlying46 rfl ah ?_) | (refine wpList_store_row rfl 46 _ _ rfl (w.heap.size + 1) (wc { s' with p := { s'.p with t0 := tag }, l0 := aG }) rfl rfl _ _ qa50 ah ah ah ?_))
 refine bodyPost_ret (v := .tuple #[wv { s' with p := { s'.p with t0 := tag }, l0 := aG }, .int .i64 0]) ?_ rfl ⟨_, rfl, ?_, T5.below⟩
 ·exact qa7
 ·have P5 := ((P2.setCell (g := w.heap.size) qa6m 11 (.int .u64 tag)).setCell (g := w.heap.size) qa6m 12 aG.v).setRow (g := w.heap.size + 1) qa6m (wc { s' with p := { s'.p with t0 := tag }, l0 := aG })
  exact Part.base ⟨by simp [P2.p], P5.rk, bK.nil, P5.l1, P5.l2, P5.hl, P5.rd⟩ qa6m
theorem prep_other1 (s : Wk) (x : St) (hx : Few 900 x) (w : World) (h : aP w s x) (tag : Int) (hW : IntKind.u64.wrap (s.p.ep + 1) = tag) (h0 : 0 ≤ tag) (hM : tag % 3 = 1) (hT : ¬ s.p.t1 = tag) :
  Calls Tryz.prog 211 #[wv s] w fun e w' => ∃ s', e = .returned (.tuple #[wv s', .int .i64 1]) ∧ Part w.heap.size w' s' { x with p := { x.p with t1 := tag }, l1 := [], hl := x.hl ++ x.l1 } ∧ Below w.heap.size w w' := by
 have e9 : ∀ s : Wk, (wc s)[9]? = some (.int .u64 s.p.ep) := fun _ => rfl
 have eT : ∀ s : Wk, (wc s)[13]? = some (.int .u64 s.p.t1) := fun _ => rfl
 have eL : ∀ s : Wk, (wc s)[14]? = some (.slice s.l1.ad s.l1.len s.l1.cap) := fun _ => rfl
 have T0 := Two.start w s
 have T0k := fun (o : Obj) => T0.keep ((Below.refl _ _).alloc (Nat.le_refl _) o)
 have x0 := T0.X.cells
 have hM2 : tag.tmod 3 = 1 := qa6k
 have b0 := T0.lt
 have hb : (s.p.t1 == tag) = false := by simp [hT]
 have HT := Lib.hid hT
 clear hT
 go_enter Tryz.func211, Tryz.ntmps211
 go_wp2_with (refine wpList_load_row rfl 46 _ rfl (w.heap.size) rfl _ (wc s) (0, 0) _ qa6l Tryz.underlying46 rfl ah ?_)
 refine (dF s x hx s.l1 x.l1 (hx.l1) _ (h.keep (T0k _).below) (h.l1.keep (T0k _).below)).mono ?_
 rintro e w1 ⟨s', rfl, ⟨_, _, _, _, _, O1, A1⟩, hb1⟩
 have P1 : Part _ w1 s' { x with hl := x.hl ++ x.l1 } := ⟨A1.p, A1.rk, A1.l0, A1.l1, A1.l2, O1, A1.rd⟩
 have T1 := (T0k _).keep hb1
 have T2 := T1.bO s'
 have x2 := T2.X.cells
 have z2 := T2.X.frozen
 have b1 := T1.lt
 have T3 := T2.bZ 13 (.int .u64 tag) { s' with p := { s'.p with t1 := tag } } rfl
 have T4 := T3.bZ 14 aG.v { s' with p := { s'.p with t1 := tag }, l1 := aG } rfl
 have T5 := T4.bN { s' with p := { s'.p with t1 := tag }, l1 := aG }
 have hs1 := hb1.size
 simp at hs1
 have P2 := P1.setRow (g := w.heap.size) qa6m (wc s')
 clear T0 T0k x0 hb1 hs1 O1 A1 P1
 go_wp2_with (first | (refine wpList_store_row rfl 46 _ _ rfl (w.heap.size) (wc s') rfl rfl _ _ dG ah ah ah ?_) | (refine wpList_load_row rfl 46 _ rfl (w.heap.size) rfl _ (wc { s' with p := { s'.p with t1 := tag }, l1 := aG }) (0, 0) _ qa4z Tryz.underlying46 rfl ah ?_) | (refine wpList_store_row rfl 46 _ _ rfl (w.heap.size + 1) (wc { s' with p := { s'.p with t1 := tag }, l1 := aG }) rfl rfl _ _ qa50 ah ah ah ?_))
 refine bodyPost_ret (v := .tuple #[wv { s' with p := { s'.p with t1 := tag }, l1 := aG }, .int .i64 1]) ?_ rfl ⟨_, rfl, ?_, T5.below⟩
 ·exact qa7
 ·have P5 := ((P2.setCell (g := w.heap.size) qa6m 13 (.int .u64 tag)).setCell (g := w.heap.size) qa6m 14 aG.v).setRow (g := w.heap.size + 1) qa6m (wc { s' with p := { s'.p with t1 := tag }, l1 := aG })
  exact Part.base ⟨by simp [P2.p], P5.rk, P5.l0, bK.nil, P5.l2, P5.hl, P5.rd⟩ qa6m
theorem prep_other2 (s : Wk) (x : St) (hx : Few 900 x) (w : World) (h : aP w s x) (tag : Int) (hW : IntKind.u64.wrap (s.p.ep + 1) = tag) (h0 : 0 ≤ tag) (hM : tag % 3 = 2) (hT : ¬ s.p.t2 = tag) :
  Calls Tryz.prog 211 #[wv s] w fun e w' => ∃ s', e = .returned (.tuple #[wv s', .int .i64 2]) ∧ Part w.heap.size w' s' { x with p := { x.p with t2 := tag }, l2 := [], hl := x.hl ++ x.l2 } ∧ Below w.heap.size w w' := by
 have e9 : ∀ s : Wk, (wc s)[9]? = some (.int .u64 s.p.ep) := fun _ => rfl
 have eT : ∀ s : Wk, (wc s)[15]? = some (.int .u64 s.p.t2) := fun _ => rfl
 have eL : ∀ s : Wk, (wc s)[16]? = some (.slice s.l2.ad s.l2.len s.l2.cap) := fun _ => rfl
 have T0 := Two.start w s
 have T0k := fun (o : Obj) => T0.keep ((Below.refl _ _).alloc (Nat.le_refl _) o)
 have x0 := T0.X.cells
 have hM2 : tag.tmod 3 = 2 := qa6k
 have b0 := T0.lt
 have hb : (s.p.t2 == tag) = false := by simp [hT]
 have HT := Lib.hid hT
 clear hT
 go_enter Tryz.func211, Tryz.ntmps211
 go_wp2_with (refine wpList_load_row rfl 46 _ rfl (w.heap.size) rfl _ (wc s) (0, 0) _ qa6l Tryz.underlying46 rfl ah ?_)
 refine (dF s x hx s.l2 x.l2 (hx.l2) _ (h.keep (T0k _).below) (h.l2.keep (T0k _).below)).mono ?_
 rintro e w1 ⟨s', rfl, ⟨_, _, _, _, _, O1, A1⟩, hb1⟩
 have P1 : Part _ w1 s' { x with hl := x.hl ++ x.l2 } := ⟨A1.p, A1.rk, A1.l0, A1.l1, A1.l2, O1, A1.rd⟩
 have T1 := (T0k _).keep hb1
 have T2 := T1.bO s'
 have x2 := T2.X.cells
 have z2 := T2.X.frozen
 have b1 := T1.lt
 have T3 := T2.bZ 15 (.int .u64 tag) { s' with p := { s'.p with t2 := tag } } rfl
 have T4 := T3.bZ 16 aG.v { s' with p := { s'.p with t2 := tag }, l2 := aG } rfl
 have T5 := T4.bN { s' with p := { s'.p with t2 := tag }, l2 := aG }
 have hs1 := hb1.size
 simp at hs1
 have P2 := P1.setRow (g := w.heap.size) qa6m (wc s')
 clear T0 T0k x0 hb1 hs1 O1 A1 P1
 go_wp2_with (first | (refine wpList_store_row rfl 46 _ _ rfl (w.heap.size) (wc s') rfl rfl _ _ dG ah ah ah ?_) | (refine wpList_load_row rfl 46 _ rfl (w.heap.size) rfl _ (wc { s' with p := { s'.p with t2 := tag }, l2 := aG }) (0, 0) _ qa4z Tryz.underlying46 rfl ah ?_) | (refine wpList_store_row rfl 46 _ _ rfl (w.heap.size + 1) (wc { s' with p := { s'.p with t2 := tag }, l2 := aG }) rfl rfl _ _ qa50 ah ah ah ?_))
 refine bodyPost_ret (v := .tuple #[wv { s' with p := { s'.p with t2 := tag }, l2 := aG }, .int .i64 2]) ?_ rfl ⟨_, rfl, ?_, T5.below⟩
 ·exact qa7
 ·have P5 := ((P2.setCell (g := w.heap.size) qa6m 15 (.int .u64 tag)).setCell (g := w.heap.size) qa6m 16 aG.v).setRow (g := w.heap.size + 1) qa6m (wc { s' with p := { s'.p with t2 := tag }, l2 := aG })
  exact Part.base ⟨by simp [P2.p], P5.rk, P5.l0, P5.l1, bK.nil, P5.hl, P5.rd⟩ qa6m
end Go.Proofs.YtaiodbcnbcdokaaGreat.Wo
namespace Go.Proofs.YtaiodbcnbcdokaaGreat.Wo
open Go Go.RowKit Gro Own Wd Ap Go.Proofs.YtaiodbcnbcdokaaGreat.Pl
theorem prepare0 (s : Wk) (x : St) (hx : Few 900 x) (w : World) (h : aP w s x) (hM : cB x % 3 = 0) :
  Calls Tryz.prog 211 #[wv s] w fun e w' => ∃ s', e = .returned (.tuple #[wv s', .int .i64 0]) ∧ Part w.heap.size w' s' (eY x) ∧ Below w.heap.size w w' := by
 have hW : IntKind.u64.wrap (s.p.ep + 1) = cB x := by rw [h.p]; rfl
 by_cases hT : x.p.t0 = cB x
 ·rw [eY, if_pos hT]
  exact (prep_same0 s x hx w h (cB x) hW (gN x).1 hM qa6n).mono fun e w' ⟨s', h1, h2, h3⟩ => ⟨s', h1, h2.part, h3⟩
 ·rw [eY, if_neg hT]
  exact prep_other0 s x hx w h (cB x) hW (gN x).1 hM qa6n
theorem prepare1 (s : Wk) (x : St) (hx : Few 900 x) (w : World) (h : aP w s x) (hM : cB x % 3 = 1) :
  Calls Tryz.prog 211 #[wv s] w fun e w' => ∃ s', e = .returned (.tuple #[wv s', .int .i64 1]) ∧ Part w.heap.size w' s' (eX x) ∧ Below w.heap.size w w' := by
 have hW : IntKind.u64.wrap (s.p.ep + 1) = cB x := by rw [h.p]; rfl
 by_cases hT : x.p.t1 = cB x
 ·rw [eX, if_pos hT]
  exact (prep_same1 s x hx w h (cB x) hW (gN x).1 hM qa6n).mono fun e w' ⟨s', h1, h2, h3⟩ => ⟨s', h1, h2.part, h3⟩
 ·rw [eX, if_neg hT]
  exact prep_other1 s x hx w h (cB x) hW (gN x).1 hM qa6n
theorem prepare2 (s : Wk) (x : St) (hx : Few 900 x) (w : World) (h : aP w s x) (hM : cB x % 3 = 2) :
  Calls Tryz.prog 211 #[wv s] w fun e w' => ∃ s', e = .returned (.tuple #[wv s', .int .i64 2]) ∧ Part w.heap.size w' s' (eU x) ∧ Below w.heap.size w w' := by
 have hW : IntKind.u64.wrap (s.p.ep + 1) = cB x := by rw [h.p]; rfl
 by_cases hT : x.p.t2 = cB x
 ·rw [eU, if_pos hT]
  exact (prep_same2 s x hx w h (cB x) hW (gN x).1 hM qa6n).mono fun e w' ⟨s', h1, h2, h3⟩ => ⟨s', h1, h2.part, h3⟩
 ·rw [eU, if_neg hT]
  exact prep_other2 s x hx w h (cB x) hW (gN x).1 hM qa6n
theorem bagPut0_room (c : Cfg) (s : Wk) (x : St) (hx : Few 900 x) (hy : Few 900 (eY x)) (b : Int) (w : World) (h : aP w s x) (hM : cB x % 3 = 0) (hm : ((eY x).l0.length : Int) < c.bg) :
  Calls Tryz.prog 212 #[cv c, wv s, .int .i64 b] w fun e w' => ∃ s', e = .returned (.tuple #[wv s', .bool true]) ∧ aQ w.heap.size w' s' { eY x with l0 := (eY x).l0 ++ [b] } ∧ Below w.heap.size w w' := by
 have eL : ∀ s : Wk, (wc s)[12]? = some (.slice s.l0.ad s.l0.len s.l0.cap) := fun _ => rfl
 have hw0 : Below w.heap.size w (w.alloc (.cells (ccW c) 24)) := (Below.refl _ _).alloc (Nat.le_refl _) _
 have T0 := Two.aY hw0 s
 have C0 := (((Bk.new w (ccW c) 24).alloc (.cells (wc s) 46)).alloc (.cells (wc wz) 46))
 rw [show (w.alloc (.cells (ccW c) 24)).heap.size = w.heap.size + 1 by simp] at T0
 go_enter Tryz.func212, Tryz.ntmps212
 go_wp2_with (refine wpList_load_row rfl 46 _ rfl (w.heap.size + 1) rfl _ (wc s) (0, 0) _ bT Tryz.underlying46 rfl ah ?_)
 refine (prepare0 s x hx _ (h.keep T0.below) hM).mono ?_
 rintro e w1 ⟨s', rfl, A1, hb1⟩
 have T1 := T0.keep hb1
 have b0 := T0.lt
 have b1 := T1.lt
 have T2 := T1.bO s'
 have A2 := A1.setRow (g := w.heap.size + 1) aj (wc s')
 have C1 := C0.keep hb1
 have C2 := C1.aJ (g' := w.heap.size + 1) aj (wc s')
 have hs1 : (((w.alloc (Obj.cells (ccW c) 24)).alloc (Obj.cells (wc s) 46)).alloc (Obj.cells (wc wz) 46)).heap.size ≤ w1.heap.size := hb1.size
 have hlen := bI A1.l0.reads
 have hyl := hy.l0
 have HLEN := Lib.hid hlen
 have hlt : decide (c.bg ≤ (s'.l0.len : Int)) = false := bq
 clear hlen C0 T0 hb1
 go_wp2_with (refine wpList_store_row rfl 46 _ _ rfl (w.heap.size + 1) (wc s') rfl rfl _ _ dG ah ah ah ?_)
 obtain ⟨w2, hw2⟩ : ∃ w2, w2 = w1.setRow (w.heap.size + 1) (wc s') := ⟨_, rfl⟩
 rw [← hw2] at T2 A2 C2 ⊢
 clear hw2
 have hs2 := T2.lt
 have hc2 := C2.lt
 have x2 := T2.X.cells
 have c2 := C2.cells
 have eLs := eL s'
 have HTG := Lib.hid A1.l0.1
 clear eL
 refine aN ah ah ?_
 have hg := @cK
 repeat (go_big_quiet_step (fail))
 refine wpQuiet_nil ?_
 rintro w3 ⟨⟨_, hb3⟩, rfl⟩
 clear hg x2 c2
 have T3 := T2.keep hb3
 have A3 := A2.keep hb3
 have hs3 := T3.lt
 have b3 := hb3.size
 have x3 := T3.X.cells
 go_wp2_with (first | (at_builtin; refine iy elemI rfl _ _ rfl _ s'.l0 (eY x).l0 rfl (A3.l0.2.keep ((Below.refl _ _).alloc (Nat.le_refl _) _)) HTG.out _ [b] rfl (reads_one aF) bq qa4y ?_; intro z w4 r4 hb4; have T4 := (T3.keep ((Below.refl _ _).alloc (Nat.le_refl _) _)).keep hb4; have x4 := T4.X.cells; have z4 := T4.X.frozen; have T5 := T4.bZ 12 z.v { s' with l0 := z } rfl) | (refine wpList_load_row rfl 46 _ rfl (w.heap.size + 1) rfl _ (wc { s' with l0 := z }) (0, 0) _ qa6f Tryz.underlying46 rfl ah ?_) | (refine wpList_store_row rfl 46 _ _ rfl (w.heap.size + 1 + 1) (wc { s' with l0 := z }) rfl rfl _ _ (by exact T5.Z) ah ah ah ?_))
 have T6 := T5.bN { s' with l0 := z }
 refine bodyPost_ret (v := .tuple #[wv { s' with l0 := z }, .bool true]) ?_ rfl ⟨_, rfl, ?_, T6.below⟩
 ·exact qa8
 ·have A4 := ((A3.keep ((Below.refl _ _).alloc (Nat.le_refl _) _)).keep hb4).setCell (g := w.heap.size + 1) aj 12 z.v
  have A5 := A4.setRow (g := w.heap.size + 1 + 1) aj (wc { s' with l0 := z })
  have Y5 : bD _ _ _ _ z ((eY x).l0 ++ [b]) := bD.setRow (g := w.heap.size + 1 + 1) (bD.setCell (g := w.heap.size + 1) r4 aj 12 z.v) aj (wc { s' with l0 := z })
  exact aQ.base ⟨A1.p, A5.rk.rdF, bD.rdF Y5, A5.l1.rdF, A5.l2.rdF, A5.hl.rdF, A5.rd.rdF⟩ aj
theorem bagPut0_full (c : Cfg) (s : Wk) (x : St) (hx : Few 900 x) (hy : Few 900 (eY x)) (b : Int) (w : World) (h : aP w s x) (hM : cB x % 3 = 0) (hm : ¬ ((eY x).l0.length : Int) < c.bg) :
  Calls Tryz.prog 212 #[cv c, wv s, .int .i64 b] w fun e w' => ∃ s', e = .returned (.tuple #[wv s', .bool false]) ∧ aQ w.heap.size w' s' (eY x) ∧ Below w.heap.size w w' := by
 have eL : ∀ s : Wk, (wc s)[12]? = some (.slice s.l0.ad s.l0.len s.l0.cap) := fun _ => rfl
 have hw0 : Below w.heap.size w (w.alloc (.cells (ccW c) 24)) := (Below.refl _ _).alloc (Nat.le_refl _) _
 have T0 := Two.aY hw0 s
 have C0 := (((Bk.new w (ccW c) 24).alloc (.cells (wc s) 46)).alloc (.cells (wc wz) 46))
 rw [show (w.alloc (.cells (ccW c) 24)).heap.size = w.heap.size + 1 by simp] at T0
 go_enter Tryz.func212, Tryz.ntmps212
 go_wp2_with (refine wpList_load_row rfl 46 _ rfl (w.heap.size + 1) rfl _ (wc s) (0, 0) _ bT Tryz.underlying46 rfl ah ?_)
 refine (prepare0 s x hx _ (h.keep T0.below) hM).mono ?_
 rintro e w1 ⟨s', rfl, A1, hb1⟩
 have T1 := T0.keep hb1
 have b0 := T0.lt
 have b1 := T1.lt
 have T2 := T1.bO s'
 have A2 := A1.setRow (g := w.heap.size + 1) aj (wc s')
 have C1 := C0.keep hb1
 have C2 := C1.aJ (g' := w.heap.size + 1) aj (wc s')
 have hs1 : (((w.alloc (Obj.cells (ccW c) 24)).alloc (Obj.cells (wc s) 46)).alloc (Obj.cells (wc wz) 46)).heap.size ≤ w1.heap.size := hb1.size
 have hlen := bI A1.l0.reads
 have hyl := hy.l0
 have HLEN := Lib.hid hlen
 have hlt : decide (c.bg ≤ (s'.l0.len : Int)) = true := bq
 clear hlen C0 T0 hb1
 go_wp2_with (refine wpList_store_row rfl 46 _ _ rfl (w.heap.size + 1) (wc s') rfl rfl _ _ dG ah ah ah ?_)
 obtain ⟨w2, hw2⟩ : ∃ w2, w2 = w1.setRow (w.heap.size + 1) (wc s') := ⟨_, rfl⟩
 rw [← hw2] at T2 A2 C2 ⊢
 clear hw2
 have hs2 := T2.lt
 have hc2 := C2.lt
 have x2 := T2.X.cells
 have c2 := C2.cells
 have eLs := eL s'
 have HTG := Lib.hid A1.l0.1
 clear eL
 refine aN ah ah ?_
 have hg := @cK
 repeat (go_big_quiet_step (fail))
 refine wpQuiet_nil ?_
 rintro w3 ⟨⟨_, hb3⟩, rfl⟩
 clear hg x2 c2
 have T3 := T2.keep hb3
 have A3 := A2.keep hb3
 have hs3 := T3.lt
 have b3 := hb3.size
 have x3 := T3.X.cells
 have T5 := T3
 have T6 := T5.bN s'
 go_wp2_with (first | (refine wpList_load_row rfl 46 _ rfl (w.heap.size + 1) rfl _ (wc s') (0, 0) _ qa52 Tryz.underlying46 rfl ah ?_) | (refine wpList_store_row rfl 46 _ _ rfl (w.heap.size + 1 + 1) (wc s') rfl rfl _ _ qa53 ah ah ah ?_))
 refine bodyPost_ret (v := .tuple #[wv s', .bool false]) ?_ rfl ⟨_, rfl, ?_, T6.below⟩
 ·exact qa8
 ·exact qa9
theorem bagPut1_room (c : Cfg) (s : Wk) (x : St) (hx : Few 900 x) (hy : Few 900 (eX x)) (b : Int) (w : World) (h : aP w s x) (hM : cB x % 3 = 1) (hm : ((eX x).l1.length : Int) < c.bg) :
  Calls Tryz.prog 212 #[cv c, wv s, .int .i64 b] w fun e w' => ∃ s', e = .returned (.tuple #[wv s', .bool true]) ∧ aQ w.heap.size w' s' { eX x with l1 := (eX x).l1 ++ [b] } ∧ Below w.heap.size w w' := by
 have eL : ∀ s : Wk, (wc s)[14]? = some (.slice s.l1.ad s.l1.len s.l1.cap) := fun _ => rfl
 have hw0 : Below w.heap.size w (w.alloc (.cells (ccW c) 24)) := (Below.refl _ _).alloc (Nat.le_refl _) _
 have T0 := Two.aY hw0 s
 have C0 := (((Bk.new w (ccW c) 24).alloc (.cells (wc s) 46)).alloc (.cells (wc wz) 46))
 rw [show (w.alloc (.cells (ccW c) 24)).heap.size = w.heap.size + 1 by simp] at T0
 go_enter Tryz.func212, Tryz.ntmps212
 go_wp2_with (refine wpList_load_row rfl 46 _ rfl (w.heap.size + 1) rfl _ (wc s) (0, 0) _ bT Tryz.underlying46 rfl ah ?_)
 refine (prepare1 s x hx _ (h.keep T0.below) hM).mono ?_
 rintro e w1 ⟨s', rfl, A1, hb1⟩
 have T1 := T0.keep hb1
 have b0 := T0.lt
 have b1 := T1.lt
 have T2 := T1.bO s'
 have A2 := A1.setRow (g := w.heap.size + 1) aj (wc s')
 have C1 := C0.keep hb1
 have C2 := C1.aJ (g' := w.heap.size + 1) aj (wc s')
 have hs1 : (((w.alloc (Obj.cells (ccW c) 24)).alloc (Obj.cells (wc s) 46)).alloc (Obj.cells (wc wz) 46)).heap.size ≤ w1.heap.size := hb1.size
 have hlen := bI A1.l1.reads
 have hyl := hy.l1
 have HLEN := Lib.hid hlen
 have hlt : decide (c.bg ≤ (s'.l1.len : Int)) = false := bq
 clear hlen C0 T0 hb1
 go_wp2_with (refine wpList_store_row rfl 46 _ _ rfl (w.heap.size + 1) (wc s') rfl rfl _ _ dG ah ah ah ?_)
 obtain ⟨w2, hw2⟩ : ∃ w2, w2 = w1.setRow (w.heap.size + 1) (wc s') := ⟨_, rfl⟩
 rw [← hw2] at T2 A2 C2 ⊢
 clear hw2
 have hs2 := T2.lt
 have hc2 := C2.lt
 have x2 := T2.X.cells
 have c2 := C2.cells
 have eLs := eL s'
 have HTG := Lib.hid A1.l1.1
 clear eL
 refine aN ah ah ?_
 have hg := @cK
 repeat (go_big_quiet_step (fail))
 refine wpQuiet_nil ?_
 rintro w3 ⟨⟨_, hb3⟩, rfl⟩
 clear hg x2 c2
 have T3 := T2.keep hb3
 have A3 := A2.keep hb3
 have hs3 := T3.lt
 have b3 := hb3.size
 have x3 := T3.X.cells
 go_wp2_with (first | (at_builtin; refine iy elemI rfl _ _ rfl _ s'.l1 (eX x).l1 rfl (A3.l1.2.keep ((Below.refl _ _).alloc (Nat.le_refl _) _)) HTG.out _ [b] rfl (reads_one aF) bq qa4y ?_; intro z w4 r4 hb4; have T4 := (T3.keep ((Below.refl _ _).alloc (Nat.le_refl _) _)).keep hb4; have x4 := T4.X.cells; have z4 := T4.X.frozen; have T5 := T4.bZ 14 z.v { s' with l1 := z } rfl) | (refine wpList_load_row rfl 46 _ rfl (w.heap.size + 1) rfl _ (wc { s' with l1 := z }) (0, 0) _ qa6f Tryz.underlying46 rfl ah ?_) | (refine wpList_store_row rfl 46 _ _ rfl (w.heap.size + 1 + 1) (wc { s' with l1 := z }) rfl rfl _ _ (by exact T5.Z) ah ah ah ?_))
 have T6 := T5.bN { s' with l1 := z }
 refine bodyPost_ret (v := .tuple #[wv { s' with l1 := z }, .bool true]) ?_ rfl ⟨_, rfl, ?_, T6.below⟩
 ·exact qa8
 ·have A4 := ((A3.keep ((Below.refl _ _).alloc (Nat.le_refl _) _)).keep hb4).setCell (g := w.heap.size + 1) aj 14 z.v
  have A5 := A4.setRow (g := w.heap.size + 1 + 1) aj (wc { s' with l1 := z })
  have Y5 : bD _ _ _ _ z ((eX x).l1 ++ [b]) := bD.setRow (g := w.heap.size + 1 + 1) (bD.setCell (g := w.heap.size + 1) r4 aj 14 z.v) aj (wc { s' with l1 := z })
  exact aQ.base ⟨A1.p, A5.rk.rdF, A5.l0.rdF, bD.rdF Y5, A5.l2.rdF, A5.hl.rdF, A5.rd.rdF⟩ aj
theorem bagPut1_full (c : Cfg) (s : Wk) (x : St) (hx : Few 900 x) (hy : Few 900 (eX x)) (b : Int) (w : World) (h : aP w s x) (hM : cB x % 3 = 1) (hm : ¬ ((eX x).l1.length : Int) < c.bg) :
  Calls Tryz.prog 212 #[cv c, wv s, .int .i64 b] w fun e w' => ∃ s', e = .returned (.tuple #[wv s', .bool false]) ∧ aQ w.heap.size w' s' (eX x) ∧ Below w.heap.size w w' := by
 have eL : ∀ s : Wk, (wc s)[14]? = some (.slice s.l1.ad s.l1.len s.l1.cap) := fun _ => rfl
 have hw0 : Below w.heap.size w (w.alloc (.cells (ccW c) 24)) := (Below.refl _ _).alloc (Nat.le_refl _) _
 have T0 := Two.aY hw0 s
 have C0 := (((Bk.new w (ccW c) 24).alloc (.cells (wc s) 46)).alloc (.cells (wc wz) 46))
 rw [show (w.alloc (.cells (ccW c) 24)).heap.size = w.heap.size + 1 by simp] at T0
 go_enter Tryz.func212, Tryz.ntmps212
 go_wp2_with (refine wpList_load_row rfl 46 _ rfl (w.heap.size + 1) rfl _ (wc s) (0, 0) _ bT Tryz.underlying46 rfl ah ?_)
 refine (prepare1 s x hx _ (h.keep T0.below) hM).mono ?_
 rintro e w1 ⟨s', rfl, A1, hb1⟩
 have T1 := T0.keep hb1
 have b0 := T0.lt
 have b1 := T1.lt
 have T2 := T1.bO s'
 have A2 := A1.setRow (g := w.heap.size + 1) aj (wc s')
 have C1 := C0.keep hb1
 have C2 := C1.aJ (g' := w.heap.size + 1) aj (wc s')
 have hs1 : (((w.alloc (Obj.cells (ccW c) 24)).alloc (Obj.cells (wc s) 46)).alloc (Obj.cells (wc wz) 46)).heap.size ≤ w1.heap.size := hb1.size
 have hlen := bI A1.l1.reads
 have hyl := hy.l1
 have HLEN := Lib.hid hlen
 have hlt : decide (c.bg ≤ (s'.l1.len : Int)) = true := bq
 clear hlen C0 T0 hb1
 go_wp2_with (refine wpList_store_row rfl 46 _ _ rfl (w.heap.size + 1) (wc s') rfl rfl _ _ dG ah ah ah ?_)
 obtain ⟨w2, hw2⟩ : ∃ w2, w2 = w1.setRow (w.heap.size + 1) (wc s') := ⟨_, rfl⟩
 rw [← hw2] at T2 A2 C2 ⊢
 clear hw2
 have hs2 := T2.lt
 have hc2 := C2.lt
 have x2 := T2.X.cells
 have c2 := C2.cells
 have eLs := eL s'
 have HTG := Lib.hid A1.l1.1
 clear eL
 refine aN ah ah ?_
 have hg := @cK
 repeat (go_big_quiet_step (fail))
 refine wpQuiet_nil ?_
 rintro w3 ⟨⟨_, hb3⟩, rfl⟩
 clear hg x2 c2
 have T3 := T2.keep hb3
 have A3 := A2.keep hb3
 have hs3 := T3.lt
 have b3 := hb3.size
 have x3 := T3.X.cells
 have T5 := T3
 have T6 := T5.bN s'
 go_wp2_with (first | (refine wpList_load_row rfl 46 _ rfl (w.heap.size + 1) rfl _ (wc s') (0, 0) _ qa52 Tryz.underlying46 rfl ah ?_) | (refine wpList_store_row rfl 46 _ _ rfl (w.heap.size + 1 + 1) (wc s') rfl rfl _ _ qa53 ah ah ah ?_))
 refine bodyPost_ret (v := .tuple #[wv s', .bool false]) ?_ rfl ⟨_, rfl, ?_, T6.below⟩
 ·exact qa8
 ·exact qa9
theorem bagPut2_room (c : Cfg) (s : Wk) (x : St) (hx : Few 900 x) (hy : Few 900 (eU x)) (b : Int) (w : World) (h : aP w s x) (hM : cB x % 3 = 2) (hm : ((eU x).l2.length : Int) < c.bg) :
  Calls Tryz.prog 212 #[cv c, wv s, .int .i64 b] w fun e w' => ∃ s', e = .returned (.tuple #[wv s', .bool true]) ∧ aQ w.heap.size w' s' { eU x with l2 := (eU x).l2 ++ [b] } ∧ Below w.heap.size w w' := by
 have eL : ∀ s : Wk, (wc s)[16]? = some (.slice s.l2.ad s.l2.len s.l2.cap) := fun _ => rfl
 have hw0 : Below w.heap.size w (w.alloc (.cells (ccW c) 24)) := (Below.refl _ _).alloc (Nat.le_refl _) _
 have T0 := Two.aY hw0 s
 have C0 := (((Bk.new w (ccW c) 24).alloc (.cells (wc s) 46)).alloc (.cells (wc wz) 46))
 rw [show (w.alloc (.cells (ccW c) 24)).heap.size = w.heap.size + 1 by simp] at T0
 go_enter Tryz.func212, Tryz.ntmps212
 go_wp2_with (refine wpList_load_row rfl 46 _ rfl (w.heap.size + 1) rfl _ (wc s) (0, 0) _ bT Tryz.underlying46 rfl ah ?_)
 refine (prepare2 s x hx _ (h.keep T0.below) hM).mono ?_
 rintro e w1 ⟨s', rfl, A1, hb1⟩
 have T1 := T0.keep hb1
 have b0 := T0.lt
 have b1 := T1.lt
 have T2 := T1.bO s'
 have A2 := A1.setRow (g := w.heap.size + 1) aj (wc s')
 have C1 := C0.keep hb1
 have C2 := C1.aJ (g' := w.heap.size + 1) aj (wc s')
 have hs1 : (((w.alloc (Obj.cells (ccW c) 24)).alloc (Obj.cells (wc s) 46)).alloc (Obj.cells (wc wz) 46)).heap.size ≤ w1.heap.size := hb1.size
 have hlen := bI A1.l2.reads
 have hyl := hy.l2
 have HLEN := Lib.hid hlen
 have hlt : decide (c.bg ≤ (s'.l2.len : Int)) = false := bq
 clear hlen C0 T0 hb1
 go_wp2_with (refine wpList_store_row rfl 46 _ _ rfl (w.heap.size + 1) (wc s') rfl rfl _ _ dG ah ah ah ?_)
 obtain ⟨w2, hw2⟩ : ∃ w2, w2 = w1.setRow (w.heap.size + 1) (wc s') := ⟨_, rfl⟩
 rw [← hw2] at T2 A2 C2 ⊢
 clear hw2
 have hs2 := T2.lt
 have hc2 := C2.lt
 have x2 := T2.X.cells
 have c2 := C2.cells
 have eLs := eL s'
 have HTG := Lib.hid A1.l2.1
 clear eL
 refine aN ah ah ?_
 have hg := @cK
 repeat (go_big_quiet_step (fail))
 refine wpQuiet_nil ?_
 rintro w3 ⟨⟨_, hb3⟩, rfl⟩
 clear hg x2 c2
 have T3 := T2.keep hb3
 have A3 := A2.keep hb3
 have hs3 := T3.lt
 have b3 := hb3.size
 have x3 := T3.X.cells
 go_wp2_with (first | (at_builtin; refine iy elemI rfl _ _ rfl _ s'.l2 (eU x).l2 rfl (A3.l2.2.keep ((Below.refl _ _).alloc (Nat.le_refl _) _)) HTG.out _ [b] rfl (reads_one aF) bq qa4y ?_; intro z w4 r4 hb4; have T4 := (T3.keep ((Below.refl _ _).alloc (Nat.le_refl _) _)).keep hb4; have x4 := T4.X.cells; have z4 := T4.X.frozen; have T5 := T4.bZ 16 z.v { s' with l2 := z } rfl) | (refine wpList_load_row rfl 46 _ rfl (w.heap.size + 1) rfl _ (wc { s' with l2 := z }) (0, 0) _ qa6f Tryz.underlying46 rfl ah ?_) | (refine wpList_store_row rfl 46 _ _ rfl (w.heap.size + 1 + 1) (wc { s' with l2 := z }) rfl rfl _ _ (by exact T5.Z) ah ah ah ?_))
 have T6 := T5.bN { s' with l2 := z }
 refine bodyPost_ret (v := .tuple #[wv { s' with l2 := z }, .bool true]) ?_ rfl ⟨_, rfl, ?_, T6.below⟩
 ·exact qa8
 ·have A4 := ((A3.keep ((Below.refl _ _).alloc (Nat.le_refl _) _)).keep hb4).setCell (g := w.heap.size + 1) aj 16 z.v
  have A5 := A4.setRow (g := w.heap.size + 1 + 1) aj (wc { s' with l2 := z })
  have Y5 : bD _ _ _ _ z ((eU x).l2 ++ [b]) := bD.setRow (g := w.heap.size + 1 + 1) (bD.setCell (g := w.heap.size + 1) r4 aj 16 z.v) aj (wc { s' with l2 := z })
  exact aQ.base ⟨A1.p, A5.rk.rdF, A5.l0.rdF, A5.l1.rdF, bD.rdF Y5, A5.hl.rdF, A5.rd.rdF⟩ aj
theorem bagPut2_full (c : Cfg) (s : Wk) (x : St) (hx : Few 900 x) (hy : Few 900 (eU x)) (b : Int) (w : World) (h : aP w s x) (hM : cB x % 3 = 2) (hm : ¬ ((eU x).l2.length : Int) < c.bg) :
  Calls Tryz.prog 212 #[cv c, wv s, .int .i64 b] w fun e w' => ∃ s', e = .returned (.tuple #[wv s', .bool false]) ∧ aQ w.heap.size w' s' (eU x) ∧ Below w.heap.size w w' := by
 have eL : ∀ s : Wk, (wc s)[16]? = some (.slice s.l2.ad s.l2.len s.l2.cap) := fun _ => rfl
 have hw0 : Below w.heap.size w (w.alloc (.cells (ccW c) 24)) := (Below.refl _ _).alloc (Nat.le_refl _) _
 have T0 := Two.aY hw0 s
 have C0 := (((Bk.new w (ccW c) 24).alloc (.cells (wc s) 46)).alloc (.cells (wc wz) 46))
 rw [show (w.alloc (.cells (ccW c) 24)).heap.size = w.heap.size + 1 by simp] at T0
 go_enter Tryz.func212, Tryz.ntmps212
 go_wp2_with (refine wpList_load_row rfl 46 _ rfl (w.heap.size + 1) rfl _ (wc s) (0, 0) _ bT Tryz.underlying46 rfl ah ?_)
 refine (prepare2 s x hx _ (h.keep T0.below) hM).mono ?_
 rintro e w1 ⟨s', rfl, A1, hb1⟩
 have T1 := T0.keep hb1
 have b0 := T0.lt
 have b1 := T1.lt
 have T2 := T1.bO s'
 have A2 := A1.setRow (g := w.heap.size + 1) aj (wc s')
 have C1 := C0.keep hb1
 have C2 := C1.aJ (g' := w.heap.size + 1) aj (wc s')
 have hs1 : (((w.alloc (Obj.cells (ccW c) 24)).alloc (Obj.cells (wc s) 46)).alloc (Obj.cells (wc wz) 46)).heap.size ≤ w1.heap.size := hb1.size
 have hlen := bI A1.l2.reads
 have hyl := hy.l2
 have HLEN := Lib.hid hlen
 have hlt : decide (c.bg ≤ (s'.l2.len : Int)) = true := bq
 clear hlen C0 T0 hb1
 go_wp2_with (refine wpList_store_row rfl 46 _ _ rfl (w.heap.size + 1) (wc s') rfl rfl _ _ dG ah ah ah ?_)
 obtain ⟨w2, hw2⟩ : ∃ w2, w2 = w1.setRow (w.heap.size + 1) (wc s') := ⟨_, rfl⟩
 rw [← hw2] at T2 A2 C2 ⊢
 clear hw2
 have hs2 := T2.lt
 have hc2 := C2.lt
 have x2 := T2.X.cells
 have c2 := C2.cells
 have eLs := eL s'
 have HTG := Lib.hid A1.l2.1
 clear eL
 refine aN ah ah ?_
 have hg := @cK
 repeat (go_big_quiet_step (fail))
 refine wpQuiet_nil ?_
 rintro w3 ⟨⟨_, hb3⟩, rfl⟩
 clear hg x2 c2
 have T3 := T2.keep hb3
 have A3 := A2.keep hb3
 have hs3 := T3.lt
 have b3 := hb3.size
 have x3 := T3.X.cells
 have T5 := T3
 have T6 := T5.bN s'
 go_wp2_with (first | (refine wpList_load_row rfl 46 _ rfl (w.heap.size + 1) rfl _ (wc s') (0, 0) _ qa52 Tryz.underlying46 rfl ah ?_) | (refine wpList_store_row rfl 46 _ _ rfl (w.heap.size + 1 + 1) (wc s') rfl rfl _ _ qa53 ah ah ah ?_))
 refine bodyPost_ret (v := .tuple #[wv s', .bool false]) ?_ rfl ⟨_, rfl, ?_, T6.below⟩
 ·exact qa8
 ·exact qa9
def putB (m : Int) (x : St) (b : Int) : St × Bool :=
 if cB x % 3 = 0 then (if ((eY x).l0.length : Int) < m then ({ eY x with l0 := (eY x).l0 ++ [b] }, true) else (eY x, false))
 else if cB x % 3 = 1 then (if ((eX x).l1.length : Int) < m then ({ eX x with l1 := (eX x).l1 ++ [b] }, true) else (eX x, false))
 else (if ((eU x).l2.length : Int) < m then ({ eU x with l2 := (eU x).l2 ++ [b] }, true) else (eU x, false))
theorem few_prep0 {x : St} {n m : Nat} (h : Few n x) (hm : n + n ≤ m) : Few m (eY x) := by
 have := h.rk; have := h.l0; have := h.l1; have := h.l2; have := h.hl; have := h.rd
 unfold eY
 exact qaa
theorem few_prep1 {x : St} {n m : Nat} (h : Few n x) (hm : n + n ≤ m) : Few m (eX x) := by
 have := h.rk; have := h.l0; have := h.l1; have := h.l2; have := h.hl; have := h.rd
 unfold eX
 exact qaa
theorem few_prep2 {x : St} {n m : Nat} (h : Few n x) (hm : n + n ≤ m) : Few m (eU x) := by
 have := h.rk; have := h.l0; have := h.l1; have := h.l2; have := h.hl; have := h.rd
 unfold eU
 exact qaa
theorem bagPut (c : Cfg) (s : Wk) (x : St) (hx : Few 400 x) (b : Int) (w : World) (h : aP w s x) :
  Calls Tryz.prog 212 #[cv c, wv s, .int .i64 b] w fun e w' => ∃ s', e = .returned (.tuple #[wv s', .bool (putB c.bg x b).2]) ∧ aQ w.heap.size w' s' (putB c.bg x b).1 ∧ Below w.heap.size w w' := by
 have hx9 := hx.mono (show 400 ≤ 900 by omega)
 have ht := (gN x).1
 unfold putB
 by_cases h0 : cB x % 3 = 0
 ·rw [if_pos h0]
  by_cases hm : ((eY x).l0.length : Int) < c.bg
  ·rw [if_pos hm]; exact bagPut0_room c s x hx9 (few_prep0 hx aj) b w h h0 hm
  ·rw [if_neg hm]; exact bagPut0_full c s x hx9 (few_prep0 hx aj) b w h h0 hm
 ·rw [if_neg h0]
  by_cases h1 : cB x % 3 = 1
  ·rw [if_pos h1]
   by_cases hm : ((eX x).l1.length : Int) < c.bg
   ·rw [if_pos hm]; exact bagPut1_room c s x hx9 (few_prep1 hx aj) b w h h1 hm
   ·rw [if_neg hm]; exact bagPut1_full c s x hx9 (few_prep1 hx aj) b w h h1 hm
  ·rw [if_neg h1]
   have h2 : cB x % 3 = 2 := aj
   by_cases hm : ((eU x).l2.length : Int) < c.bg
   ·rw [if_pos hm]; exact bagPut2_room c s x hx9 (few_prep2 hx aj) b w h h2 hm
   ·rw [if_neg hm]; exact bagPut2_full c s x hx9 (few_prep2 hx aj) b w h h2 hm
end Go.Proofs.YtaiodbcnbcdokaaGreat.Wo
namespace Go.Proofs.YtaiodbcnbcdokaaGreat.Wo
open Go Go.RowKit Gro Own Wd Ap Go.Proofs.YtaiodbcnbcdokaaGreat.Pl
theorem fP (s : Wk) (w : World) : (Instr.index 44 (.agg #[.int .u64 s.p.t0, .slice s.l0.ad s.l0.len s.l0.cap, .int .u64 s.p.t1, .slice s.l1.ad s.l1.len s.l1.cap, .int .u64 s.p.t2, .slice s.l2.ad s.l2.len s.l2.cap]) (.int .i64 0)).run Tryz.prog w = .ok (.agg #[.int .u64 s.p.t0, .slice s.l0.ad s.l0.len s.l0.cap]) w := ah
theorem fO (s : Wk) (w : World) : (Instr.index 44 (.agg #[.int .u64 s.p.t0, .slice s.l0.ad s.l0.len s.l0.cap, .int .u64 s.p.t1, .slice s.l1.ad s.l1.len s.l1.cap, .int .u64 s.p.t2, .slice s.l2.ad s.l2.len s.l2.cap]) (.int .i64 1)).run Tryz.prog w = .ok (.agg #[.int .u64 s.p.t1, .slice s.l1.ad s.l1.len s.l1.cap]) w := ah
theorem fM (s : Wk) (w : World) : (Instr.index 44 (.agg #[.int .u64 s.p.t0, .slice s.l0.ad s.l0.len s.l0.cap, .int .u64 s.p.t1, .slice s.l1.ad s.l1.len s.l1.cap, .int .u64 s.p.t2, .slice s.l2.ad s.l2.len s.l2.cap]) (.int .i64 2)).run Tryz.prog w = .ok (.agg #[.int .u64 s.p.t2, .slice s.l2.ad s.l2.len s.l2.cap]) w := ah
end Go.Proofs.YtaiodbcnbcdokaaGreat.Wo
namespace Go.Proofs.YtaiodbcnbcdokaaGreat.Wo
open Go Go.RowKit Gro Own Wd Ap Go.Proofs.YtaiodbcnbcdokaaGreat.Pl
def bL (t e : Int) : Bool := decide (2 ≤ e) && decide (t ≤ e - 2)
theorem isRipe_go (t e : Int) (sl : Sl) (w : World) (hW : 2 ≤ e → IntKind.u64.wrap (e - 2) = e - 2) :
  Calls Tryz.prog 186 #[.agg #[.int .u64 t, .slice sl.ad sl.len sl.cap], .int .u64 e] w fun r w' => r = .returned (.bool (bL t e)) ∧ Below w.heap.size w w' := by
 have hb : Below w.heap.size w (w.alloc (.cells #[.int .u64 t, .slice sl.ad sl.len sl.cap] 43)) := (Below.refl _ _).alloc (Nat.le_refl _) _
 by_cases h2 : 2 ≤ e
 ·have hw := hW h2
  have hd : decide (2 ≤ e) = true := by simp [h2]
  clear hW
  by_cases h3 : t ≤ e - 2
  ·have h3' : decide (t ≤ e - 2) = true := by simp [h3]
   have H : RowKit.Hid (bL t e = true) := Lib.hid (by unfold bL; rw [hd, h3']; rfl)
   rw [H.out]
   clear h3
   exact qab
  ·have h3' : decide (t ≤ e - 2) = false := by simp [h3]
   have H : RowKit.Hid (bL t e = false) := Lib.hid (by unfold bL; rw [hd, h3']; rfl)
   rw [H.out]
   clear h3
   exact qab
 ·have hd : decide (2 ≤ e) = false := by simp [h2]
  have H : RowKit.Hid (bL t e = false) := Lib.hid (by unfold bL; rw [hd]; rfl)
  rw [H.out]
  clear hW h2
  exact qab
theorem u64_in {n : Int} (h0 : 0 ≤ n) (h1 : n < 18446744073709551616) : IntKind.u64.wrap n = n := by
 unfold IntKind.wrap
 rw [show IntKind.u64.bits = 64 from rfl]
 simp [IntKind.signed]
 omega
theorem dM {t e : Int} {b : Bool} (hr : bL t e = b) (sl : Sl) (w : World) (h1 : e < 18446744073709551616) :
  Calls Tryz.prog 186 #[.agg #[.int .u64 t, .slice sl.ad sl.len sl.cap], .int .u64 e] w fun r w' => r = .returned (.bool b) ∧ Below w.heap.size w w' := by
 subst hr
 exact isRipe_go t e sl w (fun h => u64_in aj aj)
section
variable {B : Nat} {w : World} {k : IntKind} {t t' : TypeId} {y : Sl} {l : List Int} {g : Nat} {cs : Array Value}
theorem bD.dN (h : bD B w k t y l) (hg : Bk w g cs t') (ht : t' ≠ t) (j : Nat) (v : Value) : bD B (w.setCell ⟨g, j, none⟩ v) k t y l := by
 refine ⟨h.1, ?_⟩
 rcases h.2 with h0 | ⟨g', cap, cur, he, hge, hh, rest⟩
 ·exact .inl h0
 ·refine .inr ⟨g', cap, cur, he, hge, (heap_setCell_other w ⟨g, j, none⟩ g' v (fun e => ?_)).trans hh, rest⟩
  exact qac
theorem bD.aI (h : bD B w k t y l) (hg : Bk w g cs t') (ht : t' ≠ t) (cs' : Array Value) : bD B (w.setRow g cs') k t y l := by
 refine ⟨h.1, ?_⟩
 rcases h.2 with h0 | ⟨g', cap, cur, he, hge, hh, rest⟩
 ·exact .inl h0
 ·refine .inr ⟨g', cap, cur, he, hge, (setRow_other w g g' cs' (fun e => ?_)).trans hh, rest⟩
  exact qac
theorem bK.dN (h : bK B w k t y l) (hg : Bk w g cs t') (ht : t' ≠ t) (j : Nat) (v : Value) : bK B (w.setCell ⟨g, j, none⟩ v) k t y l := ⟨h.1, h.2.dN hg ht j v⟩
theorem bK.aI (h : bK B w k t y l) (hg : Bk w g cs t') (ht : t' ≠ t) (cs' : Array Value) : bK B (w.setRow g cs') k t y l := ⟨h.1, h.2.aI hg ht cs'⟩
variable {s : Wk} {x : St}
theorem Part.dN (h : Part B w s x) (hg : Bk w g cs t') (h1 : t' ≠ 3) (h2 : t' ≠ 22) (j : Nat) (v : Value) : Part B (w.setCell ⟨g, j, none⟩ v) s x := ⟨h.p, h.rk.dN hg h1 j v, h.l0.dN hg h1 j v, h.l1.dN hg h1 j v, h.l2.dN hg h1 j v, h.hl.dN hg h1 j v, h.rd.dN hg h2 j v⟩
theorem Part.aI (h : Part B w s x) (hg : Bk w g cs t') (h1 : t' ≠ 3) (h2 : t' ≠ 22) (cs' : Array Value) : Part B (w.setRow g cs') s x := ⟨h.p, h.rk.aI hg h1 cs', h.l0.aI hg h1 cs', h.l1.aI hg h1 cs', h.l2.aI hg h1 cs', h.hl.aI hg h1 cs', h.rd.aI hg h2 cs'⟩
end
structure Rp (w0 : World) (gx gz gk : Nat) (s : Wk) (x : St) (s1 : Wk) (x1 : St) (kc : Array Value) (w : World) : Prop where
 T : Two w0 gx gz s wz w
 K : Bk w gk kc 44
 k0 : w0.heap.size ≤ gk
 P : Part w0.heap.size w s x
 A : Part w0.heap.size w s1 x1
section
variable {w0 w w' : World} {gx gz gk : Nat} {s s' s1 : Wk} {x x' x1 : St} {kc : Array Value}
theorem Rp.keep (h : Rp w0 gx gz gk s x s1 x1 kc w) (hb : Below w.heap.size w w') : Rp w0 gx gz gk s x s1 x1 kc w' := ⟨h.T.keep hb, h.K.keep hb, h.k0, h.P.keep hb, h.A.keep hb⟩
theorem Rp.kx (h : Rp w0 gx gz gk s x s1 x1 kc w) : gk ≠ gx := by
 rintro rfl
 have := h.K.symm.trans h.T.X
 simp at this
theorem Rp.kz (h : Rp w0 gx gz gk s x s1 x1 kc w) : gk ≠ gz := by
 rintro rfl
 have := h.K.symm.trans h.T.Z
 simp at this
theorem Rp.iM (h : Rp w0 gx gz gk s x s1 x1 kc w) (j : Nat) (v : Value) : Rp w0 gx gz gk s x s1 x1 (kc.setIfInBounds j v) (w.setCell ⟨gk, j, none⟩ v) :=
 ⟨⟨h.T.X.aA (a := ⟨gk, j, none⟩) h.kx.symm v, h.T.Z.aA (a := ⟨gk, j, none⟩) h.kz.symm v, h.T.below.setCell (p := ⟨gk, j, none⟩) h.k0 v, h.T.gx0, h.T.gz0, h.T.ne⟩, h.K.setCell j v, h.k0, h.P.dN h.K aL aL j v, h.A.dN h.K aL aL j v⟩
theorem Rp.bO (h : Rp w0 gx gz gk s x s1 x1 kc w) (hp : Part w0.heap.size w s' x') : Rp w0 gx gz gk s' x' s1 x1 kc (w.setRow gx (wc s')) :=
 ⟨h.T.bO s', h.K.aJ h.kx _, h.k0, hp.aI h.T.X aL aL _, h.A.aI h.T.X aL aL _⟩
end
def gZ (x : St) (e : Int) : St :=
 { x with p := { x.p with t0 := if bL x.p.t0 e then 0 else x.p.t0, t1 := if bL x.p.t1 e then 0 else x.p.t1, t2 := if bL x.p.t2 e then 0 else x.p.t2 }, l0 := if bL x.p.t0 e then [] else x.l0, l1 := if bL x.p.t1 e then [] else x.l1, l2 := if bL x.p.t2 e then [] else x.l2, hl := x.hl ++ (if bL x.p.t0 e then x.l0 else []) ++ (if bL x.p.t1 e then x.l1 else []) ++ (if bL x.p.t2 e then x.l2 else []) }
end Go.Proofs.YtaiodbcnbcdokaaGreat.Wo
namespace Go.Proofs.YtaiodbcnbcdokaaGreat.Wo
open Go Go.RowKit Gro Own Wd Ap Go.Proofs.YtaiodbcnbcdokaaGreat.Pl
theorem ripe_yyy (s : Wk) (x : St) (hx : Few 200 x) (e : Int) (he : e < 18446744073709551616) (w : World) (h : aP w s x) (h0 : bL x.p.t0 e = true) (h1 : bL x.p.t1 e = true) (h2 : bL x.p.t2 e = true) :
  Calls Tryz.prog 161 #[wv s, .int .u64 e] w fun r w' => ∃ s', r = .returned (wv s') ∧ aQ w.heap.size w' s' (gZ x e) ∧ Below w.heap.size w w' := by
 have H0 := Lib.hid h0
 have H1 := Lib.hid h1
 have H2 := Lib.hid h2
 clear h0 h1 h2
 have HE := Lib.hid he
 clear he
 have e11 : ∀ s : Wk, (wc s)[11]? = some (.int .u64 s.p.t0) := fun _ => rfl
 have e12 : ∀ s : Wk, (wc s)[12]? = some (.slice s.l0.ad s.l0.len s.l0.cap) := fun _ => rfl
 have e13 : ∀ s : Wk, (wc s)[13]? = some (.int .u64 s.p.t1) := fun _ => rfl
 have e14 : ∀ s : Wk, (wc s)[14]? = some (.slice s.l1.ad s.l1.len s.l1.cap) := fun _ => rfl
 have e15 : ∀ s : Wk, (wc s)[15]? = some (.int .u64 s.p.t2) := fun _ => rfl
 have e16 : ∀ s : Wk, (wc s)[16]? = some (.slice s.l2.ad s.l2.len s.l2.cap) := fun _ => rfl
 have T0 := Two.start w s
 go_enter Tryz.func161, Tryz.ntmps161
 go_wp2_with (refine wpList_load_row rfl 46 _ rfl (w.heap.size) rfl _ (wc s) (0, 0) _ bT Tryz.underlying46 rfl ah ?_)
 refine (aW s x (hx.mono aj) _ (h.keep T0.below)).mono ?_
 rintro r w1 ⟨s1, rfl, A1, hb1⟩
 have T1 := T0.keep hb1
 have T2 := T1.bO s1
 have PB := (A1.part).base (B' := w.heap.size) bq
 have P2 := PB.aI T1.X aL aL (wc s1)
 have HP := Lib.hid A1.p
 have x2 := T2.X.cells
 have b2 := T2.lt
 have i0 := fP s1
 have i1 := fO s1
 have i2 := fM s1
 have R : Rp w w.heap.size (w.heap.size + 1) w1.heap.size s1 x s1 x #[.int .u64 0, .slice none 0 0, .int .u64 0, .slice none 0 0, .int .u64 0, .slice none 0 0] ((w1.setRow w.heap.size (wc s1)).alloc (.cells #[.int .u64 0, .slice none 0 0, .int .u64 0, .slice none 0 0, .int .u64 0, .slice none 0 0] 44)) :=
  have hb : Below (w1.setRow w.heap.size (wc s1)).heap.size (w1.setRow w.heap.size (wc s1)) ((w1.setRow w.heap.size (wc s1)).alloc (.cells #[.int .u64 0, .slice none 0 0, .int .u64 0, .slice none 0 0, .int .u64 0, .slice none 0 0] 44)) := (Below.refl _ _).alloc (Nat.le_refl _) _
  ⟨T2.keep hb, by have := Bk.new (w1.setRow w.heap.size (wc s1)) #[.int .u64 0, .slice none 0 0, .int .u64 0, .slice none 0 0, .int .u64 0, .slice none 0 0] 44; simpa using this, by have := hb1.size; simp at this; omega, P2.keep hb, P2.keep hb⟩
 have x3 := R.T.X.cells
 clear T0 A1 hb1 PB x2
 go_wp2_with (refine wpList_store_row rfl 46 _ _ rfl (w.heap.size) (wc s1) rfl rfl _ _ dG ah ah ah ?_)
 obtain ⟨u0, hu0⟩ : ∃ u0, u0 = (w1.setRow w.heap.size (wc s1)).alloc (.cells #[.int .u64 0, .slice none 0 0, .int .u64 0, .slice none 0 0, .int .u64 0, .slice none 0 0] 44) := ⟨_, rfl⟩
 rw [← hu0] at R ⊢
 obtain ⟨gk, hgk⟩ : ∃ g, g = w1.heap.size := ⟨_, rfl⟩
 rw [← hgk] at R ⊢
 clear hu0 hgk T1 T2 P2 b2 x3
 refine wp_loop_rounds 4 ?_
 rw [rounds_succ]
 go_wp2_with fail
 refine (dM (b := true) qa6o s1.l0 _ HE.out).mono ?_
 rintro r v0 ⟨rfl, hb⟩
 have BB := (Bk.new u0 #[.int .u64 s1.p.t0, .slice s1.l0.ad s1.l0.len s1.l0.cap] 43).keep hb
 have zb := BB.cells
 have R := (R.keep ((Below.refl _ _).alloc (Nat.le_refl _) (.cells #[.int .u64 s1.p.t0, .slice s1.l0.ad s1.l0.len s1.l0.cap] 43))).keep hb
 clear hb
 go_wp2_with (refine wpList_load_row rfl 46 _ rfl (w.heap.size) rfl _ (wc s1) (0, 0) _ gD Tryz.underlying46 rfl ah ?_)
 refine (dF s1 x (⟨by have := hx.rk; simp <;> omega, by have := hx.l0; simp <;> omega, by have := hx.l1; simp <;> omega, by have := hx.l2; simp <;> omega, by have := hx.hl; have := hx.l0; have := hx.l1; have := hx.l2; simp <;> omega, by have := hx.rd; simp <;> omega⟩) s1.l0 x.l0 qa6q _ R.P.lies R.A.l0.reads).mono ?_
 rintro r q0 ⟨s2, rfl, ⟨_, _, _, _, _, O, A⟩, hb⟩
 have hz := R.T.below.size
 have PN : Part w.heap.size q0 s2 { x with hl := x.hl ++ x.l0 } := Part.base ⟨A.p, A.rk, A.l0, A.l1, A.l2, O, A.rd⟩ hz
 have R := R.keep hb
 have RN := R.bO PN
 clear O A hb BB zb PN hz
 go_wp2_with (refine wpList_store_row rfl 46 _ _ rfl (w.heap.size) (wc s2) rfl rfl _ _ gD ah ah ah ?_)
 have R := RN
 clear RN
 obtain ⟨u1, hu1⟩ : ∃ y, y = q0.setRow w.heap.size (wc s2) := ⟨_, rfl⟩
 rw [← hu1] at R ⊢
 clear hu1
 rw [rounds_succ]
 go_wp2_with fail
 refine (dM (b := true) qa6r s1.l1 _ HE.out).mono ?_
 rintro r v1 ⟨rfl, hb⟩
 have BB := (Bk.new u1 #[.int .u64 s1.p.t1, .slice s1.l1.ad s1.l1.len s1.l1.cap] 43).keep hb
 have zb := BB.cells
 have R := (R.keep ((Below.refl _ _).alloc (Nat.le_refl _) (.cells #[.int .u64 s1.p.t1, .slice s1.l1.ad s1.l1.len s1.l1.cap] 43))).keep hb
 clear hb
 go_wp2_with (refine wpList_load_row rfl 46 _ rfl (w.heap.size) rfl _ (wc s2) (0, 0) _ gD Tryz.underlying46 rfl ah ?_)
 refine (dF s2 { x with hl := x.hl ++ x.l0 } (⟨by have := hx.rk; simp <;> omega, by have := hx.l0; simp <;> omega, by have := hx.l1; simp <;> omega, by have := hx.l2; simp <;> omega, by have := hx.hl; have := hx.l0; have := hx.l1; have := hx.l2; simp <;> omega, by have := hx.rd; simp <;> omega⟩) s1.l1 x.l1 qa6s _ R.P.lies R.A.l1.reads).mono ?_
 rintro r q1 ⟨s3, rfl, ⟨_, _, _, _, _, O, A⟩, hb⟩
 have hz := R.T.below.size
 have PN : Part w.heap.size q1 s3 { x with hl := x.hl ++ x.l0 ++ x.l1 } := Part.base ⟨A.p, A.rk, A.l0, A.l1, A.l2, O, A.rd⟩ hz
 have R := R.keep hb
 have RN := R.bO PN
 clear O A hb BB zb PN hz
 go_wp2_with (refine wpList_store_row rfl 46 _ _ rfl (w.heap.size) (wc s3) rfl rfl _ _ gD ah ah ah ?_)
 have R := RN
 clear RN
 obtain ⟨u2, hu2⟩ : ∃ y, y = q1.setRow w.heap.size (wc s3) := ⟨_, rfl⟩
 rw [← hu2] at R ⊢
 clear hu2
 rw [rounds_succ]
 go_wp2_with fail
 refine (dM (b := true) qa6t s1.l2 _ HE.out).mono ?_
 rintro r v2 ⟨rfl, hb⟩
 have BB := (Bk.new u2 #[.int .u64 s1.p.t2, .slice s1.l2.ad s1.l2.len s1.l2.cap] 43).keep hb
 have zb := BB.cells
 have R := (R.keep ((Below.refl _ _).alloc (Nat.le_refl _) (.cells #[.int .u64 s1.p.t2, .slice s1.l2.ad s1.l2.len s1.l2.cap] 43))).keep hb
 clear hb
 go_wp2_with (refine wpList_load_row rfl 46 _ rfl (w.heap.size) rfl _ (wc s3) (0, 0) _ gD Tryz.underlying46 rfl ah ?_)
 refine (dF s3 { x with hl := x.hl ++ x.l0 ++ x.l1 } (⟨by have := hx.rk; simp <;> omega, by have := hx.l0; simp <;> omega, by have := hx.l1; simp <;> omega, by have := hx.l2; simp <;> omega, by have := hx.hl; have := hx.l0; have := hx.l1; have := hx.l2; simp <;> omega, by have := hx.rd; simp <;> omega⟩) s1.l2 x.l2 qa6u _ R.P.lies R.A.l2.reads).mono ?_
 rintro r q2 ⟨s4, rfl, ⟨_, _, _, _, _, O, A⟩, hb⟩
 have hz := R.T.below.size
 have PN : Part w.heap.size q2 s4 { x with hl := x.hl ++ x.l0 ++ x.l1 ++ x.l2 } := Part.base ⟨A.p, A.rk, A.l0, A.l1, A.l2, O, A.rd⟩ hz
 have R := R.keep hb
 have RN := R.bO PN
 clear O A hb BB zb PN hz
 go_wp2_with (refine wpList_store_row rfl 46 _ _ rfl (w.heap.size) (wc s4) rfl rfl _ _ gD ah ah ah ?_)
 have R := RN
 clear RN
 obtain ⟨u3, hu3⟩ : ∃ y, y = q2.setRow w.heap.size (wc s4) := ⟨_, rfl⟩
 rw [← hu3] at R ⊢
 clear hu3
 rw [rounds_succ]
 have Q6 := R.T.bO { s4 with p := { s4.p with t0 := 0, t1 := 0, t2 := 0 }, l0 := aG, l1 := aG, l2 := aG }
 have Q7 := Q6.bN { s4 with p := { s4.p with t0 := 0, t1 := 0, t2 := 0 }, l0 := aG, l1 := aG, l2 := aG }
 clear i0 i1 i2 e11 e12 e13 e14 e15 e16 hx h
 go_wp2_with (first | (refine wpList_load_row rfl 44 _ rfl gk rfl _ (#[(.int .u64 0), (.slice none 0 0), (.int .u64 0), (.slice none 0 0), (.int .u64 0), (.slice none 0 0)]) (0, 0) _ qa6v Tryz.underlying44 rfl ah ?_) | (refine Sub.bQ rfl 44 _ _ rfl w.heap.size 11 #[(.int .u64 0), (.slice none 0 0), (.int .u64 0), (.slice none 0 0), (.int .u64 0), (.slice none 0 0)] rfl rfl 46 (wc s4) (wc { s4 with p := { s4.p with t0 := 0, t1 := 0, t2 := 0 }, l0 := aG, l1 := aG, l2 := aG }) gD ah (Nat.le_of_ble_eq_true ah) ah ah ?_) | (refine wpList_load_row rfl 46 _ rfl (w.heap.size) rfl _ (wc { s4 with p := { s4.p with t0 := 0, t1 := 0, t2 := 0 }, l0 := aG, l1 := aG, l2 := aG }) (0, 0) _ qa6w Tryz.underlying46 rfl ah ?_) | (refine wpList_store_row rfl 46 _ _ rfl (w.heap.size + 1) (wc { s4 with p := { s4.p with t0 := 0, t1 := 0, t2 := 0 }, l0 := aG, l1 := aG, l2 := aG }) rfl rfl _ _ qa6x ah ah ah ?_))
 refine bodyPost_ret (v := wv { s4 with p := { s4.p with t0 := 0, t1 := 0, t2 := 0 }, l0 := aG, l1 := aG, l2 := aG }) ?_ rfl ⟨_, rfl, ?_, Q7.below⟩
 ·exact qad
 ·have PE := (R.P.aI R.T.X aL aL (wc { s4 with p := { s4.p with t0 := 0, t1 := 0, t2 := 0 }, l0 := aG, l1 := aG, l2 := aG })).aI Q6.Z aL aL (wc { s4 with p := { s4.p with t0 := 0, t1 := 0, t2 := 0 }, l0 := aG, l1 := aG, l2 := aG })
  have AE := (R.A.aI R.T.X aL aL (wc { s4 with p := { s4.p with t0 := 0, t1 := 0, t2 := 0 }, l0 := aG, l1 := aG, l2 := aG })).aI Q6.Z aL aL (wc { s4 with p := { s4.p with t0 := 0, t1 := 0, t2 := 0 }, l0 := aG, l1 := aG, l2 := aG })
  unfold gZ
  rw [H0.out, H1.out, H2.out]
  refine ⟨?_, PE.rk.rdF, bK.nil.rdF (t := 3), bK.nil.rdF (t := 3), bK.nil.rdF (t := 3), ?_, PE.rd.rdF⟩
  ·simp [PE.p, HP.out]
  ·simpa using PE.hl.rdF
theorem ripe_yyn (s : Wk) (x : St) (hx : Few 200 x) (e : Int) (he : e < 18446744073709551616) (w : World) (h : aP w s x) (h0 : bL x.p.t0 e = true) (h1 : bL x.p.t1 e = true) (h2 : bL x.p.t2 e = false) :
  Calls Tryz.prog 161 #[wv s, .int .u64 e] w fun r w' => ∃ s', r = .returned (wv s') ∧ aQ w.heap.size w' s' (gZ x e) ∧ Below w.heap.size w w' := by
 have H0 := Lib.hid h0
 have H1 := Lib.hid h1
 have H2 := Lib.hid h2
 clear h0 h1 h2
 have HE := Lib.hid he
 clear he
 have e11 : ∀ s : Wk, (wc s)[11]? = some (.int .u64 s.p.t0) := fun _ => rfl
 have e12 : ∀ s : Wk, (wc s)[12]? = some (.slice s.l0.ad s.l0.len s.l0.cap) := fun _ => rfl
 have e13 : ∀ s : Wk, (wc s)[13]? = some (.int .u64 s.p.t1) := fun _ => rfl
 have e14 : ∀ s : Wk, (wc s)[14]? = some (.slice s.l1.ad s.l1.len s.l1.cap) := fun _ => rfl
 have e15 : ∀ s : Wk, (wc s)[15]? = some (.int .u64 s.p.t2) := fun _ => rfl
 have e16 : ∀ s : Wk, (wc s)[16]? = some (.slice s.l2.ad s.l2.len s.l2.cap) := fun _ => rfl
 have T0 := Two.start w s
 go_enter Tryz.func161, Tryz.ntmps161
 go_wp2_with (refine wpList_load_row rfl 46 _ rfl (w.heap.size) rfl _ (wc s) (0, 0) _ bT Tryz.underlying46 rfl ah ?_)
 refine (aW s x (hx.mono aj) _ (h.keep T0.below)).mono ?_
 rintro r w1 ⟨s1, rfl, A1, hb1⟩
 have T1 := T0.keep hb1
 have T2 := T1.bO s1
 have PB := (A1.part).base (B' := w.heap.size) bq
 have P2 := PB.aI T1.X aL aL (wc s1)
 have HP := Lib.hid A1.p
 have x2 := T2.X.cells
 have b2 := T2.lt
 have i0 := fP s1
 have i1 := fO s1
 have i2 := fM s1
 have R : Rp w w.heap.size (w.heap.size + 1) w1.heap.size s1 x s1 x #[.int .u64 0, .slice none 0 0, .int .u64 0, .slice none 0 0, .int .u64 0, .slice none 0 0] ((w1.setRow w.heap.size (wc s1)).alloc (.cells #[.int .u64 0, .slice none 0 0, .int .u64 0, .slice none 0 0, .int .u64 0, .slice none 0 0] 44)) :=
  have hb : Below (w1.setRow w.heap.size (wc s1)).heap.size (w1.setRow w.heap.size (wc s1)) ((w1.setRow w.heap.size (wc s1)).alloc (.cells #[.int .u64 0, .slice none 0 0, .int .u64 0, .slice none 0 0, .int .u64 0, .slice none 0 0] 44)) := (Below.refl _ _).alloc (Nat.le_refl _) _
  ⟨T2.keep hb, by have := Bk.new (w1.setRow w.heap.size (wc s1)) #[.int .u64 0, .slice none 0 0, .int .u64 0, .slice none 0 0, .int .u64 0, .slice none 0 0] 44; simpa using this, by have := hb1.size; simp at this; omega, P2.keep hb, P2.keep hb⟩
 have x3 := R.T.X.cells
 clear T0 A1 hb1 PB x2
 go_wp2_with (refine wpList_store_row rfl 46 _ _ rfl (w.heap.size) (wc s1) rfl rfl _ _ dG ah ah ah ?_)
 obtain ⟨u0, hu0⟩ : ∃ u0, u0 = (w1.setRow w.heap.size (wc s1)).alloc (.cells #[.int .u64 0, .slice none 0 0, .int .u64 0, .slice none 0 0, .int .u64 0, .slice none 0 0] 44) := ⟨_, rfl⟩
 rw [← hu0] at R ⊢
 obtain ⟨gk, hgk⟩ : ∃ g, g = w1.heap.size := ⟨_, rfl⟩
 rw [← hgk] at R ⊢
 clear hu0 hgk T1 T2 P2 b2 x3
 refine wp_loop_rounds 4 ?_
 rw [rounds_succ]
 go_wp2_with fail
 refine (dM (b := true) qa6o s1.l0 _ HE.out).mono ?_
 rintro r v0 ⟨rfl, hb⟩
 have BB := (Bk.new u0 #[.int .u64 s1.p.t0, .slice s1.l0.ad s1.l0.len s1.l0.cap] 43).keep hb
 have zb := BB.cells
 have R := (R.keep ((Below.refl _ _).alloc (Nat.le_refl _) (.cells #[.int .u64 s1.p.t0, .slice s1.l0.ad s1.l0.len s1.l0.cap] 43))).keep hb
 clear hb
 go_wp2_with (refine wpList_load_row rfl 46 _ rfl (w.heap.size) rfl _ (wc s1) (0, 0) _ gD Tryz.underlying46 rfl ah ?_)
 refine (dF s1 x (⟨by have := hx.rk; simp <;> omega, by have := hx.l0; simp <;> omega, by have := hx.l1; simp <;> omega, by have := hx.l2; simp <;> omega, by have := hx.hl; have := hx.l0; have := hx.l1; have := hx.l2; simp <;> omega, by have := hx.rd; simp <;> omega⟩) s1.l0 x.l0 qa6q _ R.P.lies R.A.l0.reads).mono ?_
 rintro r q0 ⟨s2, rfl, ⟨_, _, _, _, _, O, A⟩, hb⟩
 have hz := R.T.below.size
 have PN : Part w.heap.size q0 s2 { x with hl := x.hl ++ x.l0 } := Part.base ⟨A.p, A.rk, A.l0, A.l1, A.l2, O, A.rd⟩ hz
 have R := R.keep hb
 have RN := R.bO PN
 clear O A hb BB zb PN hz
 go_wp2_with (refine wpList_store_row rfl 46 _ _ rfl (w.heap.size) (wc s2) rfl rfl _ _ gD ah ah ah ?_)
 have R := RN
 clear RN
 obtain ⟨u1, hu1⟩ : ∃ y, y = q0.setRow w.heap.size (wc s2) := ⟨_, rfl⟩
 rw [← hu1] at R ⊢
 clear hu1
 rw [rounds_succ]
 go_wp2_with fail
 refine (dM (b := true) qa6r s1.l1 _ HE.out).mono ?_
 rintro r v1 ⟨rfl, hb⟩
 have BB := (Bk.new u1 #[.int .u64 s1.p.t1, .slice s1.l1.ad s1.l1.len s1.l1.cap] 43).keep hb
 have zb := BB.cells
 have R := (R.keep ((Below.refl _ _).alloc (Nat.le_refl _) (.cells #[.int .u64 s1.p.t1, .slice s1.l1.ad s1.l1.len s1.l1.cap] 43))).keep hb
 clear hb
 go_wp2_with (refine wpList_load_row rfl 46 _ rfl (w.heap.size) rfl _ (wc s2) (0, 0) _ gD Tryz.underlying46 rfl ah ?_)
 refine (dF s2 { x with hl := x.hl ++ x.l0 } (⟨by have := hx.rk; simp <;> omega, by have := hx.l0; simp <;> omega, by have := hx.l1; simp <;> omega, by have := hx.l2; simp <;> omega, by have := hx.hl; have := hx.l0; have := hx.l1; have := hx.l2; simp <;> omega, by have := hx.rd; simp <;> omega⟩) s1.l1 x.l1 qa6s _ R.P.lies R.A.l1.reads).mono ?_
 rintro r q1 ⟨s3, rfl, ⟨_, _, _, _, _, O, A⟩, hb⟩
 have hz := R.T.below.size
 have PN : Part w.heap.size q1 s3 { x with hl := x.hl ++ x.l0 ++ x.l1 } := Part.base ⟨A.p, A.rk, A.l0, A.l1, A.l2, O, A.rd⟩ hz
 have R := R.keep hb
 have RN := R.bO PN
 clear O A hb BB zb PN hz
 go_wp2_with (refine wpList_store_row rfl 46 _ _ rfl (w.heap.size) (wc s3) rfl rfl _ _ gD ah ah ah ?_)
 have R := RN
 clear RN
 obtain ⟨u2, hu2⟩ : ∃ y, y = q1.setRow w.heap.size (wc s3) := ⟨_, rfl⟩
 rw [← hu2] at R ⊢
 clear hu2
 rw [rounds_succ]
 go_wp2_with fail
 refine (dM (b := false) qa6t s1.l2 _ HE.out).mono ?_
 rintro r v2 ⟨rfl, hb⟩
 have BB := (Bk.new u2 #[.int .u64 s1.p.t2, .slice s1.l2.ad s1.l2.len s1.l2.cap] 43).keep hb
 have zb := BB.cells
 have R := (R.keep ((Below.refl _ _).alloc (Nat.le_refl _) (.cells #[.int .u64 s1.p.t2, .slice s1.l2.ad s1.l2.len s1.l2.cap] 43))).keep hb
 clear hb
 have zk := R.K.cells
 have zf := R.K.frozen
 have RN := (R.iM 4 (.int .u64 s1.p.t2)).iM 5 (.slice s1.l2.ad s1.l2.len s1.l2.cap)
 simp only [List.setIfInBounds_toArray, List.set_cons_succ, List.set_cons_zero] at RN
 have bk := R.K.lt
 clear BB
 go_wp2_with fail
 have R := RN
 clear RN zk zf bk zb
 obtain ⟨u3, hu3⟩ : ∃ y, y = (v2.setCell ⟨gk, 4, none⟩ (.int .u64 s1.p.t2)).setCell ⟨gk, 5, none⟩ (.slice s1.l2.ad s1.l2.len s1.l2.cap) := ⟨_, rfl⟩
 rw [← hu3] at R ⊢
 clear hu3
 rw [rounds_succ]
 have Q6 := R.T.bO { s3 with p := { s3.p with t0 := 0, t1 := 0, t2 := s1.p.t2 }, l0 := aG, l1 := aG, l2 := s1.l2 }
 have Q7 := Q6.bN { s3 with p := { s3.p with t0 := 0, t1 := 0, t2 := s1.p.t2 }, l0 := aG, l1 := aG, l2 := s1.l2 }
 clear i0 i1 i2 e11 e12 e13 e14 e15 e16 hx h
 go_wp2_with (first | (refine wpList_load_row rfl 44 _ rfl gk rfl _ (#[(.int .u64 0), (.slice none 0 0), (.int .u64 0), (.slice none 0 0), (.int .u64 s1.p.t2), (.slice s1.l2.ad s1.l2.len s1.l2.cap)]) (0, 0) _ qa6v Tryz.underlying44 rfl ah ?_) | (refine Sub.bQ rfl 44 _ _ rfl w.heap.size 11 #[(.int .u64 0), (.slice none 0 0), (.int .u64 0), (.slice none 0 0), (.int .u64 s1.p.t2), (.slice s1.l2.ad s1.l2.len s1.l2.cap)] rfl rfl 46 (wc s3) (wc { s3 with p := { s3.p with t0 := 0, t1 := 0, t2 := s1.p.t2 }, l0 := aG, l1 := aG, l2 := s1.l2 }) gD ah (Nat.le_of_ble_eq_true ah) ah ah ?_) | (refine wpList_load_row rfl 46 _ rfl (w.heap.size) rfl _ (wc { s3 with p := { s3.p with t0 := 0, t1 := 0, t2 := s1.p.t2 }, l0 := aG, l1 := aG, l2 := s1.l2 }) (0, 0) _ qa6w Tryz.underlying46 rfl ah ?_) | (refine wpList_store_row rfl 46 _ _ rfl (w.heap.size + 1) (wc { s3 with p := { s3.p with t0 := 0, t1 := 0, t2 := s1.p.t2 }, l0 := aG, l1 := aG, l2 := s1.l2 }) rfl rfl _ _ qa6x ah ah ah ?_))
 refine bodyPost_ret (v := wv { s3 with p := { s3.p with t0 := 0, t1 := 0, t2 := s1.p.t2 }, l0 := aG, l1 := aG, l2 := s1.l2 }) ?_ rfl ⟨_, rfl, ?_, Q7.below⟩
 ·exact qad
 ·have PE := (R.P.aI R.T.X aL aL (wc { s3 with p := { s3.p with t0 := 0, t1 := 0, t2 := s1.p.t2 }, l0 := aG, l1 := aG, l2 := s1.l2 })).aI Q6.Z aL aL (wc { s3 with p := { s3.p with t0 := 0, t1 := 0, t2 := s1.p.t2 }, l0 := aG, l1 := aG, l2 := s1.l2 })
  have AE := (R.A.aI R.T.X aL aL (wc { s3 with p := { s3.p with t0 := 0, t1 := 0, t2 := s1.p.t2 }, l0 := aG, l1 := aG, l2 := s1.l2 })).aI Q6.Z aL aL (wc { s3 with p := { s3.p with t0 := 0, t1 := 0, t2 := s1.p.t2 }, l0 := aG, l1 := aG, l2 := s1.l2 })
  unfold gZ
  rw [H0.out, H1.out, H2.out]
  refine ⟨?_, PE.rk.rdF, bK.nil.rdF (t := 3), bK.nil.rdF (t := 3), AE.l2.rdF, ?_, PE.rd.rdF⟩
  ·simp [PE.p, HP.out]
  ·simpa using PE.hl.rdF
theorem ripe_yny (s : Wk) (x : St) (hx : Few 200 x) (e : Int) (he : e < 18446744073709551616) (w : World) (h : aP w s x) (h0 : bL x.p.t0 e = true) (h1 : bL x.p.t1 e = false) (h2 : bL x.p.t2 e = true) :
  Calls Tryz.prog 161 #[wv s, .int .u64 e] w fun r w' => ∃ s', r = .returned (wv s') ∧ aQ w.heap.size w' s' (gZ x e) ∧ Below w.heap.size w w' := by
 have H0 := Lib.hid h0
 have H1 := Lib.hid h1
 have H2 := Lib.hid h2
 clear h0 h1 h2
 have HE := Lib.hid he
 clear he
 have e11 : ∀ s : Wk, (wc s)[11]? = some (.int .u64 s.p.t0) := fun _ => rfl
 have e12 : ∀ s : Wk, (wc s)[12]? = some (.slice s.l0.ad s.l0.len s.l0.cap) := fun _ => rfl
 have e13 : ∀ s : Wk, (wc s)[13]? = some (.int .u64 s.p.t1) := fun _ => rfl
 have e14 : ∀ s : Wk, (wc s)[14]? = some (.slice s.l1.ad s.l1.len s.l1.cap) := fun _ => rfl
 have e15 : ∀ s : Wk, (wc s)[15]? = some (.int .u64 s.p.t2) := fun _ => rfl
 have e16 : ∀ s : Wk, (wc s)[16]? = some (.slice s.l2.ad s.l2.len s.l2.cap) := fun _ => rfl
 have T0 := Two.start w s
 go_enter Tryz.func161, Tryz.ntmps161
 go_wp2_with (refine wpList_load_row rfl 46 _ rfl (w.heap.size) rfl _ (wc s) (0, 0) _ bT Tryz.underlying46 rfl ah ?_)
 refine (aW s x (hx.mono aj) _ (h.keep T0.below)).mono ?_
 rintro r w1 ⟨s1, rfl, A1, hb1⟩
 have T1 := T0.keep hb1
 have T2 := T1.bO s1
 have PB := (A1.part).base (B' := w.heap.size) bq
 have P2 := PB.aI T1.X aL aL (wc s1)
 have HP := Lib.hid A1.p
 have x2 := T2.X.cells
 have b2 := T2.lt
 have i0 := fP s1
 have i1 := fO s1
 have i2 := fM s1
 have R : Rp w w.heap.size (w.heap.size + 1) w1.heap.size s1 x s1 x #[.int .u64 0, .slice none 0 0, .int .u64 0, .slice none 0 0, .int .u64 0, .slice none 0 0] ((w1.setRow w.heap.size (wc s1)).alloc (.cells #[.int .u64 0, .slice none 0 0, .int .u64 0, .slice none 0 0, .int .u64 0, .slice none 0 0] 44)) :=
  have hb : Below (w1.setRow w.heap.size (wc s1)).heap.size (w1.setRow w.heap.size (wc s1)) ((w1.setRow w.heap.size (wc s1)).alloc (.cells #[.int .u64 0, .slice none 0 0, .int .u64 0, .slice none 0 0, .int .u64 0, .slice none 0 0] 44)) := (Below.refl _ _).alloc (Nat.le_refl _) _
  ⟨T2.keep hb, by have := Bk.new (w1.setRow w.heap.size (wc s1)) #[.int .u64 0, .slice none 0 0, .int .u64 0, .slice none 0 0, .int .u64 0, .slice none 0 0] 44; simpa using this, by have := hb1.size; simp at this; omega, P2.keep hb, P2.keep hb⟩
 have x3 := R.T.X.cells
 clear T0 A1 hb1 PB x2
 go_wp2_with (refine wpList_store_row rfl 46 _ _ rfl (w.heap.size) (wc s1) rfl rfl _ _ dG ah ah ah ?_)
 obtain ⟨u0, hu0⟩ : ∃ u0, u0 = (w1.setRow w.heap.size (wc s1)).alloc (.cells #[.int .u64 0, .slice none 0 0, .int .u64 0, .slice none 0 0, .int .u64 0, .slice none 0 0] 44) := ⟨_, rfl⟩
 rw [← hu0] at R ⊢
 obtain ⟨gk, hgk⟩ : ∃ g, g = w1.heap.size := ⟨_, rfl⟩
 rw [← hgk] at R ⊢
 clear hu0 hgk T1 T2 P2 b2 x3
 refine wp_loop_rounds 4 ?_
 rw [rounds_succ]
 go_wp2_with fail
 refine (dM (b := true) qa6o s1.l0 _ HE.out).mono ?_
 rintro r v0 ⟨rfl, hb⟩
 have BB := (Bk.new u0 #[.int .u64 s1.p.t0, .slice s1.l0.ad s1.l0.len s1.l0.cap] 43).keep hb
 have zb := BB.cells
 have R := (R.keep ((Below.refl _ _).alloc (Nat.le_refl _) (.cells #[.int .u64 s1.p.t0, .slice s1.l0.ad s1.l0.len s1.l0.cap] 43))).keep hb
 clear hb
 go_wp2_with (refine wpList_load_row rfl 46 _ rfl (w.heap.size) rfl _ (wc s1) (0, 0) _ gD Tryz.underlying46 rfl ah ?_)
 refine (dF s1 x (⟨by have := hx.rk; simp <;> omega, by have := hx.l0; simp <;> omega, by have := hx.l1; simp <;> omega, by have := hx.l2; simp <;> omega, by have := hx.hl; have := hx.l0; have := hx.l1; have := hx.l2; simp <;> omega, by have := hx.rd; simp <;> omega⟩) s1.l0 x.l0 qa6q _ R.P.lies R.A.l0.reads).mono ?_
 rintro r q0 ⟨s2, rfl, ⟨_, _, _, _, _, O, A⟩, hb⟩
 have hz := R.T.below.size
 have PN : Part w.heap.size q0 s2 { x with hl := x.hl ++ x.l0 } := Part.base ⟨A.p, A.rk, A.l0, A.l1, A.l2, O, A.rd⟩ hz
 have R := R.keep hb
 have RN := R.bO PN
 clear O A hb BB zb PN hz
 go_wp2_with (refine wpList_store_row rfl 46 _ _ rfl (w.heap.size) (wc s2) rfl rfl _ _ gD ah ah ah ?_)
 have R := RN
 clear RN
 obtain ⟨u1, hu1⟩ : ∃ y, y = q0.setRow w.heap.size (wc s2) := ⟨_, rfl⟩
 rw [← hu1] at R ⊢
 clear hu1
 rw [rounds_succ]
 go_wp2_with fail
 refine (dM (b := false) qa6r s1.l1 _ HE.out).mono ?_
 rintro r v1 ⟨rfl, hb⟩
 have BB := (Bk.new u1 #[.int .u64 s1.p.t1, .slice s1.l1.ad s1.l1.len s1.l1.cap] 43).keep hb
 have zb := BB.cells
 have R := (R.keep ((Below.refl _ _).alloc (Nat.le_refl _) (.cells #[.int .u64 s1.p.t1, .slice s1.l1.ad s1.l1.len s1.l1.cap] 43))).keep hb
 clear hb
 have zk := R.K.cells
 have zf := R.K.frozen
 have RN := (R.iM 2 (.int .u64 s1.p.t1)).iM 3 (.slice s1.l1.ad s1.l1.len s1.l1.cap)
 simp only [List.setIfInBounds_toArray, List.set_cons_succ, List.set_cons_zero] at RN
 have bk := R.K.lt
 clear BB
 go_wp2_with fail
 have R := RN
 clear RN zk zf bk zb
 obtain ⟨u2, hu2⟩ : ∃ y, y = (v1.setCell ⟨gk, 2, none⟩ (.int .u64 s1.p.t1)).setCell ⟨gk, 3, none⟩ (.slice s1.l1.ad s1.l1.len s1.l1.cap) := ⟨_, rfl⟩
 rw [← hu2] at R ⊢
 clear hu2
 rw [rounds_succ]
 go_wp2_with fail
 refine (dM (b := true) qa6t s1.l2 _ HE.out).mono ?_
 rintro r v2 ⟨rfl, hb⟩
 have BB := (Bk.new u2 #[.int .u64 s1.p.t2, .slice s1.l2.ad s1.l2.len s1.l2.cap] 43).keep hb
 have zb := BB.cells
 have R := (R.keep ((Below.refl _ _).alloc (Nat.le_refl _) (.cells #[.int .u64 s1.p.t2, .slice s1.l2.ad s1.l2.len s1.l2.cap] 43))).keep hb
 clear hb
 go_wp2_with (refine wpList_load_row rfl 46 _ rfl (w.heap.size) rfl _ (wc s2) (0, 0) _ gD Tryz.underlying46 rfl ah ?_)
 refine (dF s2 { x with hl := x.hl ++ x.l0 } (⟨by have := hx.rk; simp <;> omega, by have := hx.l0; simp <;> omega, by have := hx.l1; simp <;> omega, by have := hx.l2; simp <;> omega, by have := hx.hl; have := hx.l0; have := hx.l1; have := hx.l2; simp <;> omega, by have := hx.rd; simp <;> omega⟩) s1.l2 x.l2 qa6u _ R.P.lies R.A.l2.reads).mono ?_
 rintro r q2 ⟨s4, rfl, ⟨_, _, _, _, _, O, A⟩, hb⟩
 have hz := R.T.below.size
 have PN : Part w.heap.size q2 s4 { x with hl := x.hl ++ x.l0 ++ x.l2 } := Part.base ⟨A.p, A.rk, A.l0, A.l1, A.l2, O, A.rd⟩ hz
 have R := R.keep hb
 have RN := R.bO PN
 clear O A hb BB zb PN hz
 go_wp2_with (refine wpList_store_row rfl 46 _ _ rfl (w.heap.size) (wc s4) rfl rfl _ _ gD ah ah ah ?_)
 have R := RN
 clear RN
 obtain ⟨u3, hu3⟩ : ∃ y, y = q2.setRow w.heap.size (wc s4) := ⟨_, rfl⟩
 rw [← hu3] at R ⊢
 clear hu3
 rw [rounds_succ]
 have Q6 := R.T.bO { s4 with p := { s4.p with t0 := 0, t1 := s1.p.t1, t2 := 0 }, l0 := aG, l1 := s1.l1, l2 := aG }
 have Q7 := Q6.bN { s4 with p := { s4.p with t0 := 0, t1 := s1.p.t1, t2 := 0 }, l0 := aG, l1 := s1.l1, l2 := aG }
 clear i0 i1 i2 e11 e12 e13 e14 e15 e16 hx h
 go_wp2_with (first | (refine wpList_load_row rfl 44 _ rfl gk rfl _ (#[(.int .u64 0), (.slice none 0 0), (.int .u64 s1.p.t1), (.slice s1.l1.ad s1.l1.len s1.l1.cap), (.int .u64 0), (.slice none 0 0)]) (0, 0) _ qa6v Tryz.underlying44 rfl ah ?_) | (refine Sub.bQ rfl 44 _ _ rfl w.heap.size 11 #[(.int .u64 0), (.slice none 0 0), (.int .u64 s1.p.t1), (.slice s1.l1.ad s1.l1.len s1.l1.cap), (.int .u64 0), (.slice none 0 0)] rfl rfl 46 (wc s4) (wc { s4 with p := { s4.p with t0 := 0, t1 := s1.p.t1, t2 := 0 }, l0 := aG, l1 := s1.l1, l2 := aG }) gD ah (Nat.le_of_ble_eq_true ah) ah ah ?_) | (refine wpList_load_row rfl 46 _ rfl (w.heap.size) rfl _ (wc { s4 with p := { s4.p with t0 := 0, t1 := s1.p.t1, t2 := 0 }, l0 := aG, l1 := s1.l1, l2 := aG }) (0, 0) _ qa6w Tryz.underlying46 rfl ah ?_) | (refine wpList_store_row rfl 46 _ _ rfl (w.heap.size + 1) (wc { s4 with p := { s4.p with t0 := 0, t1 := s1.p.t1, t2 := 0 }, l0 := aG, l1 := s1.l1, l2 := aG }) rfl rfl _ _ qa6x ah ah ah ?_))
 refine bodyPost_ret (v := wv { s4 with p := { s4.p with t0 := 0, t1 := s1.p.t1, t2 := 0 }, l0 := aG, l1 := s1.l1, l2 := aG }) ?_ rfl ⟨_, rfl, ?_, Q7.below⟩
 ·exact qad
 ·have PE := (R.P.aI R.T.X aL aL (wc { s4 with p := { s4.p with t0 := 0, t1 := s1.p.t1, t2 := 0 }, l0 := aG, l1 := s1.l1, l2 := aG })).aI Q6.Z aL aL (wc { s4 with p := { s4.p with t0 := 0, t1 := s1.p.t1, t2 := 0 }, l0 := aG, l1 := s1.l1, l2 := aG })
  have AE := (R.A.aI R.T.X aL aL (wc { s4 with p := { s4.p with t0 := 0, t1 := s1.p.t1, t2 := 0 }, l0 := aG, l1 := s1.l1, l2 := aG })).aI Q6.Z aL aL (wc { s4 with p := { s4.p with t0 := 0, t1 := s1.p.t1, t2 := 0 }, l0 := aG, l1 := s1.l1, l2 := aG })
  unfold gZ
  rw [H0.out, H1.out, H2.out]
  refine ⟨?_, PE.rk.rdF, bK.nil.rdF (t := 3), AE.l1.rdF, bK.nil.rdF (t := 3), ?_, PE.rd.rdF⟩
  ·simp [PE.p, HP.out]
  ·simpa using PE.hl.rdF
theorem ripe_ynn (s : Wk) (x : St) (hx : Few 200 x) (e : Int) (he : e < 18446744073709551616) (w : World) (h : aP w s x) (h0 : bL x.p.t0 e = true) (h1 : bL x.p.t1 e = false) (h2 : bL x.p.t2 e = false) :
  Calls Tryz.prog 161 #[wv s, .int .u64 e] w fun r w' => ∃ s', r = .returned (wv s') ∧ aQ w.heap.size w' s' (gZ x e) ∧ Below w.heap.size w w' := by
 have H0 := Lib.hid h0
 have H1 := Lib.hid h1
 have H2 := Lib.hid h2
 clear h0 h1 h2
 have HE := Lib.hid he
 clear he
 have e11 : ∀ s : Wk, (wc s)[11]? = some (.int .u64 s.p.t0) := fun _ => rfl
 have e12 : ∀ s : Wk, (wc s)[12]? = some (.slice s.l0.ad s.l0.len s.l0.cap) := fun _ => rfl
 have e13 : ∀ s : Wk, (wc s)[13]? = some (.int .u64 s.p.t1) := fun _ => rfl
 have e14 : ∀ s : Wk, (wc s)[14]? = some (.slice s.l1.ad s.l1.len s.l1.cap) := fun _ => rfl
 have e15 : ∀ s : Wk, (wc s)[15]? = some (.int .u64 s.p.t2) := fun _ => rfl
 have e16 : ∀ s : Wk, (wc s)[16]? = some (.slice s.l2.ad s.l2.len s.l2.cap) := fun _ => rfl
 have T0 := Two.start w s
 go_enter Tryz.func161, Tryz.ntmps161
 go_wp2_with (refine wpList_load_row rfl 46 _ rfl (w.heap.size) rfl _ (wc s) (0, 0) _ bT Tryz.underlying46 rfl ah ?_)
 refine (aW s x (hx.mono aj) _ (h.keep T0.below)).mono ?_
 rintro r w1 ⟨s1, rfl, A1, hb1⟩
 have T1 := T0.keep hb1
 have T2 := T1.bO s1
 have PB := (A1.part).base (B' := w.heap.size) bq
 have P2 := PB.aI T1.X aL aL (wc s1)
 have HP := Lib.hid A1.p
 have x2 := T2.X.cells
 have b2 := T2.lt
 have i0 := fP s1
 have i1 := fO s1
 have i2 := fM s1
 have R : Rp w w.heap.size (w.heap.size + 1) w1.heap.size s1 x s1 x #[.int .u64 0, .slice none 0 0, .int .u64 0, .slice none 0 0, .int .u64 0, .slice none 0 0] ((w1.setRow w.heap.size (wc s1)).alloc (.cells #[.int .u64 0, .slice none 0 0, .int .u64 0, .slice none 0 0, .int .u64 0, .slice none 0 0] 44)) :=
  have hb : Below (w1.setRow w.heap.size (wc s1)).heap.size (w1.setRow w.heap.size (wc s1)) ((w1.setRow w.heap.size (wc s1)).alloc (.cells #[.int .u64 0, .slice none 0 0, .int .u64 0, .slice none 0 0, .int .u64 0, .slice none 0 0] 44)) := (Below.refl _ _).alloc (Nat.le_refl _) _
  ⟨T2.keep hb, by have := Bk.new (w1.setRow w.heap.size (wc s1)) #[.int .u64 0, .slice none 0 0, .int .u64 0, .slice none 0 0, .int .u64 0, .slice none 0 0] 44; simpa using this, by have := hb1.size; simp at this; omega, P2.keep hb, P2.keep hb⟩
 have x3 := R.T.X.cells
 clear T0 A1 hb1 PB x2
 go_wp2_with (refine wpList_store_row rfl 46 _ _ rfl (w.heap.size) (wc s1) rfl rfl _ _ dG ah ah ah ?_)
 obtain ⟨u0, hu0⟩ : ∃ u0, u0 = (w1.setRow w.heap.size (wc s1)).alloc (.cells #[.int .u64 0, .slice none 0 0, .int .u64 0, .slice none 0 0, .int .u64 0, .slice none 0 0] 44) := ⟨_, rfl⟩
 rw [← hu0] at R ⊢
 obtain ⟨gk, hgk⟩ : ∃ g, g = w1.heap.size := ⟨_, rfl⟩
 rw [← hgk] at R ⊢
 clear hu0 hgk T1 T2 P2 b2 x3
 refine wp_loop_rounds 4 ?_
 rw [rounds_succ]
 go_wp2_with fail
 refine (dM (b := true) qa6o s1.l0 _ HE.out).mono ?_
 rintro r v0 ⟨rfl, hb⟩
 have BB := (Bk.new u0 #[.int .u64 s1.p.t0, .slice s1.l0.ad s1.l0.len s1.l0.cap] 43).keep hb
 have zb := BB.cells
 have R := (R.keep ((Below.refl _ _).alloc (Nat.le_refl _) (.cells #[.int .u64 s1.p.t0, .slice s1.l0.ad s1.l0.len s1.l0.cap] 43))).keep hb
 clear hb
 go_wp2_with (refine wpList_load_row rfl 46 _ rfl (w.heap.size) rfl _ (wc s1) (0, 0) _ gD Tryz.underlying46 rfl ah ?_)
 refine (dF s1 x (⟨by have := hx.rk; simp <;> omega, by have := hx.l0; simp <;> omega, by have := hx.l1; simp <;> omega, by have := hx.l2; simp <;> omega, by have := hx.hl; have := hx.l0; have := hx.l1; have := hx.l2; simp <;> omega, by have := hx.rd; simp <;> omega⟩) s1.l0 x.l0 qa6q _ R.P.lies R.A.l0.reads).mono ?_
 rintro r q0 ⟨s2, rfl, ⟨_, _, _, _, _, O, A⟩, hb⟩
 have hz := R.T.below.size
 have PN : Part w.heap.size q0 s2 { x with hl := x.hl ++ x.l0 } := Part.base ⟨A.p, A.rk, A.l0, A.l1, A.l2, O, A.rd⟩ hz
 have R := R.keep hb
 have RN := R.bO PN
 clear O A hb BB zb PN hz
 go_wp2_with (refine wpList_store_row rfl 46 _ _ rfl (w.heap.size) (wc s2) rfl rfl _ _ gD ah ah ah ?_)
 have R := RN
 clear RN
 obtain ⟨u1, hu1⟩ : ∃ y, y = q0.setRow w.heap.size (wc s2) := ⟨_, rfl⟩
 rw [← hu1] at R ⊢
 clear hu1
 rw [rounds_succ]
 go_wp2_with fail
 refine (dM (b := false) qa6r s1.l1 _ HE.out).mono ?_
 rintro r v1 ⟨rfl, hb⟩
 have BB := (Bk.new u1 #[.int .u64 s1.p.t1, .slice s1.l1.ad s1.l1.len s1.l1.cap] 43).keep hb
 have zb := BB.cells
 have R := (R.keep ((Below.refl _ _).alloc (Nat.le_refl _) (.cells #[.int .u64 s1.p.t1, .slice s1.l1.ad s1.l1.len s1.l1.cap] 43))).keep hb
 clear hb
 have zk := R.K.cells
 have zf := R.K.frozen
 have RN := (R.iM 2 (.int .u64 s1.p.t1)).iM 3 (.slice s1.l1.ad s1.l1.len s1.l1.cap)
 simp only [List.setIfInBounds_toArray, List.set_cons_succ, List.set_cons_zero] at RN
 have bk := R.K.lt
 clear BB
 go_wp2_with fail
 have R := RN
 clear RN zk zf bk zb
 obtain ⟨u2, hu2⟩ : ∃ y, y = (v1.setCell ⟨gk, 2, none⟩ (.int .u64 s1.p.t1)).setCell ⟨gk, 3, none⟩ (.slice s1.l1.ad s1.l1.len s1.l1.cap) := ⟨_, rfl⟩
 rw [← hu2] at R ⊢
 clear hu2
 rw [rounds_succ]
 go_wp2_with fail
 refine (dM (b := false) qa6t s1.l2 _ HE.out).mono ?_
 rintro r v2 ⟨rfl, hb⟩
 have BB := (Bk.new u2 #[.int .u64 s1.p.t2, .slice s1.l2.ad s1.l2.len s1.l2.cap] 43).keep hb
 have zb := BB.cells
 have R := (R.keep ((Below.refl _ _).alloc (Nat.le_refl _) (.cells #[.int .u64 s1.p.t2, .slice s1.l2.ad s1.l2.len s1.l2.cap] 43))).keep hb
 clear hb
 have zk := R.K.cells
 have zf := R.K.frozen
 have RN := (R.iM 4 (.int .u64 s1.p.t2)).iM 5 (.slice s1.l2.ad s1.l2.len s1.l2.cap)
 simp only [List.setIfInBounds_toArray, List.set_cons_succ, List.set_cons_zero] at RN
 have bk := R.K.lt
 clear BB
 go_wp2_with fail
 have R := RN
 clear RN zk zf bk zb
 obtain ⟨u3, hu3⟩ : ∃ y, y = (v2.setCell ⟨gk, 4, none⟩ (.int .u64 s1.p.t2)).setCell ⟨gk, 5, none⟩ (.slice s1.l2.ad s1.l2.len s1.l2.cap) := ⟨_, rfl⟩
 rw [← hu3] at R ⊢
 clear hu3
 rw [rounds_succ]
 have Q6 := R.T.bO { s2 with p := { s2.p with t0 := 0, t1 := s1.p.t1, t2 := s1.p.t2 }, l0 := aG, l1 := s1.l1, l2 := s1.l2 }
 have Q7 := Q6.bN { s2 with p := { s2.p with t0 := 0, t1 := s1.p.t1, t2 := s1.p.t2 }, l0 := aG, l1 := s1.l1, l2 := s1.l2 }
 clear i0 i1 i2 e11 e12 e13 e14 e15 e16 hx h
 go_wp2_with (first | (refine wpList_load_row rfl 44 _ rfl gk rfl _ (#[(.int .u64 0), (.slice none 0 0), (.int .u64 s1.p.t1), (.slice s1.l1.ad s1.l1.len s1.l1.cap), (.int .u64 s1.p.t2), (.slice s1.l2.ad s1.l2.len s1.l2.cap)]) (0, 0) _ qa6v Tryz.underlying44 rfl ah ?_) | (refine Sub.bQ rfl 44 _ _ rfl w.heap.size 11 #[(.int .u64 0), (.slice none 0 0), (.int .u64 s1.p.t1), (.slice s1.l1.ad s1.l1.len s1.l1.cap), (.int .u64 s1.p.t2), (.slice s1.l2.ad s1.l2.len s1.l2.cap)] rfl rfl 46 (wc s2) (wc { s2 with p := { s2.p with t0 := 0, t1 := s1.p.t1, t2 := s1.p.t2 }, l0 := aG, l1 := s1.l1, l2 := s1.l2 }) gD ah (Nat.le_of_ble_eq_true ah) ah ah ?_) | (refine wpList_load_row rfl 46 _ rfl (w.heap.size) rfl _ (wc { s2 with p := { s2.p with t0 := 0, t1 := s1.p.t1, t2 := s1.p.t2 }, l0 := aG, l1 := s1.l1, l2 := s1.l2 }) (0, 0) _ qa6w Tryz.underlying46 rfl ah ?_) | (refine wpList_store_row rfl 46 _ _ rfl (w.heap.size + 1) (wc { s2 with p := { s2.p with t0 := 0, t1 := s1.p.t1, t2 := s1.p.t2 }, l0 := aG, l1 := s1.l1, l2 := s1.l2 }) rfl rfl _ _ qa6x ah ah ah ?_))
 refine bodyPost_ret (v := wv { s2 with p := { s2.p with t0 := 0, t1 := s1.p.t1, t2 := s1.p.t2 }, l0 := aG, l1 := s1.l1, l2 := s1.l2 }) ?_ rfl ⟨_, rfl, ?_, Q7.below⟩
 ·exact qad
 ·have PE := (R.P.aI R.T.X aL aL (wc { s2 with p := { s2.p with t0 := 0, t1 := s1.p.t1, t2 := s1.p.t2 }, l0 := aG, l1 := s1.l1, l2 := s1.l2 })).aI Q6.Z aL aL (wc { s2 with p := { s2.p with t0 := 0, t1 := s1.p.t1, t2 := s1.p.t2 }, l0 := aG, l1 := s1.l1, l2 := s1.l2 })
  have AE := (R.A.aI R.T.X aL aL (wc { s2 with p := { s2.p with t0 := 0, t1 := s1.p.t1, t2 := s1.p.t2 }, l0 := aG, l1 := s1.l1, l2 := s1.l2 })).aI Q6.Z aL aL (wc { s2 with p := { s2.p with t0 := 0, t1 := s1.p.t1, t2 := s1.p.t2 }, l0 := aG, l1 := s1.l1, l2 := s1.l2 })
  unfold gZ
  rw [H0.out, H1.out, H2.out]
  refine ⟨?_, PE.rk.rdF, bK.nil.rdF (t := 3), AE.l1.rdF, AE.l2.rdF, ?_, PE.rd.rdF⟩
  ·simp [PE.p, HP.out]
  ·simpa using PE.hl.rdF
theorem ripe_nyy (s : Wk) (x : St) (hx : Few 200 x) (e : Int) (he : e < 18446744073709551616) (w : World) (h : aP w s x) (h0 : bL x.p.t0 e = false) (h1 : bL x.p.t1 e = true) (h2 : bL x.p.t2 e = true) :
  Calls Tryz.prog 161 #[wv s, .int .u64 e] w fun r w' => ∃ s', r = .returned (wv s') ∧ aQ w.heap.size w' s' (gZ x e) ∧ Below w.heap.size w w' := by
 have H0 := Lib.hid h0
 have H1 := Lib.hid h1
 have H2 := Lib.hid h2
 clear h0 h1 h2
 have HE := Lib.hid he
 clear he
 have e11 : ∀ s : Wk, (wc s)[11]? = some (.int .u64 s.p.t0) := fun _ => rfl
 have e12 : ∀ s : Wk, (wc s)[12]? = some (.slice s.l0.ad s.l0.len s.l0.cap) := fun _ => rfl
 have e13 : ∀ s : Wk, (wc s)[13]? = some (.int .u64 s.p.t1) := fun _ => rfl
 have e14 : ∀ s : Wk, (wc s)[14]? = some (.slice s.l1.ad s.l1.len s.l1.cap) := fun _ => rfl
 have e15 : ∀ s : Wk, (wc s)[15]? = some (.int .u64 s.p.t2) := fun _ => rfl
 have e16 : ∀ s : Wk, (wc s)[16]? = some (.slice s.l2.ad s.l2.len s.l2.cap) := fun _ => rfl
 have T0 := Two.start w s
 go_enter Tryz.func161, Tryz.ntmps161
 go_wp2_with (refine wpList_load_row rfl 46 _ rfl (w.heap.size) rfl _ (wc s) (0, 0) _ bT Tryz.underlying46 rfl ah ?_)
 refine (aW s x (hx.mono aj) _ (h.keep T0.below)).mono ?_
 rintro r w1 ⟨s1, rfl, A1, hb1⟩
 have T1 := T0.keep hb1
 have T2 := T1.bO s1
 have PB := (A1.part).base (B' := w.heap.size) bq
 have P2 := PB.aI T1.X aL aL (wc s1)
 have HP := Lib.hid A1.p
 have x2 := T2.X.cells
 have b2 := T2.lt
 have i0 := fP s1
 have i1 := fO s1
 have i2 := fM s1
 have R : Rp w w.heap.size (w.heap.size + 1) w1.heap.size s1 x s1 x #[.int .u64 0, .slice none 0 0, .int .u64 0, .slice none 0 0, .int .u64 0, .slice none 0 0] ((w1.setRow w.heap.size (wc s1)).alloc (.cells #[.int .u64 0, .slice none 0 0, .int .u64 0, .slice none 0 0, .int .u64 0, .slice none 0 0] 44)) :=
  have hb : Below (w1.setRow w.heap.size (wc s1)).heap.size (w1.setRow w.heap.size (wc s1)) ((w1.setRow w.heap.size (wc s1)).alloc (.cells #[.int .u64 0, .slice none 0 0, .int .u64 0, .slice none 0 0, .int .u64 0, .slice none 0 0] 44)) := (Below.refl _ _).alloc (Nat.le_refl _) _
  ⟨T2.keep hb, by have := Bk.new (w1.setRow w.heap.size (wc s1)) #[.int .u64 0, .slice none 0 0, .int .u64 0, .slice none 0 0, .int .u64 0, .slice none 0 0] 44; simpa using this, by have := hb1.size; simp at this; omega, P2.keep hb, P2.keep hb⟩
 have x3 := R.T.X.cells
 clear T0 A1 hb1 PB x2
 go_wp2_with (refine wpList_store_row rfl 46 _ _ rfl (w.heap.size) (wc s1) rfl rfl _ _ dG ah ah ah ?_)
 obtain ⟨u0, hu0⟩ : ∃ u0, u0 = (w1.setRow w.heap.size (wc s1)).alloc (.cells #[.int .u64 0, .slice none 0 0, .int .u64 0, .slice none 0 0, .int .u64 0, .slice none 0 0] 44) := ⟨_, rfl⟩
 rw [← hu0] at R ⊢
 obtain ⟨gk, hgk⟩ : ∃ g, g = w1.heap.size := ⟨_, rfl⟩
 rw [← hgk] at R ⊢
 clear hu0 hgk T1 T2 P2 b2 x3
 refine wp_loop_rounds 4 ?_
 rw [rounds_succ]
 go_wp2_with fail
 refine (dM (b := false) qa6o s1.l0 _ HE.out).mono ?_
 rintro r v0 ⟨rfl, hb⟩
 have BB := (Bk.new u0 #[.int .u64 s1.p.t0, .slice s1.l0.ad s1.l0.len s1.l0.cap] 43).keep hb
 have zb := BB.cells
 have R := (R.keep ((Below.refl _ _).alloc (Nat.le_refl _) (.cells #[.int .u64 s1.p.t0, .slice s1.l0.ad s1.l0.len s1.l0.cap] 43))).keep hb
 clear hb
 have zk := R.K.cells
 have zf := R.K.frozen
 have RN := (R.iM 0 (.int .u64 s1.p.t0)).iM 1 (.slice s1.l0.ad s1.l0.len s1.l0.cap)
 simp only [List.setIfInBounds_toArray, List.set_cons_succ, List.set_cons_zero] at RN
 have bk := R.K.lt
 clear BB
 go_wp2_with fail
 have R := RN
 clear RN zk zf bk zb
 obtain ⟨u1, hu1⟩ : ∃ y, y = (v0.setCell ⟨gk, 0, none⟩ (.int .u64 s1.p.t0)).setCell ⟨gk, 1, none⟩ (.slice s1.l0.ad s1.l0.len s1.l0.cap) := ⟨_, rfl⟩
 rw [← hu1] at R ⊢
 clear hu1
 rw [rounds_succ]
 go_wp2_with fail
 refine (dM (b := true) qa6r s1.l1 _ HE.out).mono ?_
 rintro r v1 ⟨rfl, hb⟩
 have BB := (Bk.new u1 #[.int .u64 s1.p.t1, .slice s1.l1.ad s1.l1.len s1.l1.cap] 43).keep hb
 have zb := BB.cells
 have R := (R.keep ((Below.refl _ _).alloc (Nat.le_refl _) (.cells #[.int .u64 s1.p.t1, .slice s1.l1.ad s1.l1.len s1.l1.cap] 43))).keep hb
 clear hb
 go_wp2_with (refine wpList_load_row rfl 46 _ rfl (w.heap.size) rfl _ (wc s1) (0, 0) _ gD Tryz.underlying46 rfl ah ?_)
 refine (dF s1 x (⟨by have := hx.rk; simp <;> omega, by have := hx.l0; simp <;> omega, by have := hx.l1; simp <;> omega, by have := hx.l2; simp <;> omega, by have := hx.hl; have := hx.l0; have := hx.l1; have := hx.l2; simp <;> omega, by have := hx.rd; simp <;> omega⟩) s1.l1 x.l1 qa6s _ R.P.lies R.A.l1.reads).mono ?_
 rintro r q1 ⟨s3, rfl, ⟨_, _, _, _, _, O, A⟩, hb⟩
 have hz := R.T.below.size
 have PN : Part w.heap.size q1 s3 { x with hl := x.hl ++ x.l1 } := Part.base ⟨A.p, A.rk, A.l0, A.l1, A.l2, O, A.rd⟩ hz
 have R := R.keep hb
 have RN := R.bO PN
 clear O A hb BB zb PN hz
 go_wp2_with (refine wpList_store_row rfl 46 _ _ rfl (w.heap.size) (wc s3) rfl rfl _ _ gD ah ah ah ?_)
 have R := RN
 clear RN
 obtain ⟨u2, hu2⟩ : ∃ y, y = q1.setRow w.heap.size (wc s3) := ⟨_, rfl⟩
 rw [← hu2] at R ⊢
 clear hu2
 rw [rounds_succ]
 go_wp2_with fail
 refine (dM (b := true) qa6t s1.l2 _ HE.out).mono ?_
 rintro r v2 ⟨rfl, hb⟩
 have BB := (Bk.new u2 #[.int .u64 s1.p.t2, .slice s1.l2.ad s1.l2.len s1.l2.cap] 43).keep hb
 have zb := BB.cells
 have R := (R.keep ((Below.refl _ _).alloc (Nat.le_refl _) (.cells #[.int .u64 s1.p.t2, .slice s1.l2.ad s1.l2.len s1.l2.cap] 43))).keep hb
 clear hb
 go_wp2_with (refine wpList_load_row rfl 46 _ rfl (w.heap.size) rfl _ (wc s3) (0, 0) _ gD Tryz.underlying46 rfl ah ?_)
 refine (dF s3 { x with hl := x.hl ++ x.l1 } (⟨by have := hx.rk; simp <;> omega, by have := hx.l0; simp <;> omega, by have := hx.l1; simp <;> omega, by have := hx.l2; simp <;> omega, by have := hx.hl; have := hx.l0; have := hx.l1; have := hx.l2; simp <;> omega, by have := hx.rd; simp <;> omega⟩) s1.l2 x.l2 qa6u _ R.P.lies R.A.l2.reads).mono ?_
 rintro r q2 ⟨s4, rfl, ⟨_, _, _, _, _, O, A⟩, hb⟩
 have hz := R.T.below.size
 have PN : Part w.heap.size q2 s4 { x with hl := x.hl ++ x.l1 ++ x.l2 } := Part.base ⟨A.p, A.rk, A.l0, A.l1, A.l2, O, A.rd⟩ hz
 have R := R.keep hb
 have RN := R.bO PN
 clear O A hb BB zb PN hz
 go_wp2_with (refine wpList_store_row rfl 46 _ _ rfl (w.heap.size) (wc s4) rfl rfl _ _ gD ah ah ah ?_)
 have R := RN
 clear RN
 obtain ⟨u3, hu3⟩ : ∃ y, y = q2.setRow w.heap.size (wc s4) := ⟨_, rfl⟩
 rw [← hu3] at R ⊢
 clear hu3
 rw [rounds_succ]
 have Q6 := R.T.bO { s4 with p := { s4.p with t0 := s1.p.t0, t1 := 0, t2 := 0 }, l0 := s1.l0, l1 := aG, l2 := aG }
 have Q7 := Q6.bN { s4 with p := { s4.p with t0 := s1.p.t0, t1 := 0, t2 := 0 }, l0 := s1.l0, l1 := aG, l2 := aG }
 clear i0 i1 i2 e11 e12 e13 e14 e15 e16 hx h
 go_wp2_with (first | (refine wpList_load_row rfl 44 _ rfl gk rfl _ (#[(.int .u64 s1.p.t0), (.slice s1.l0.ad s1.l0.len s1.l0.cap), (.int .u64 0), (.slice none 0 0), (.int .u64 0), (.slice none 0 0)]) (0, 0) _ qa6v Tryz.underlying44 rfl ah ?_) | (refine Sub.bQ rfl 44 _ _ rfl w.heap.size 11 #[(.int .u64 s1.p.t0), (.slice s1.l0.ad s1.l0.len s1.l0.cap), (.int .u64 0), (.slice none 0 0), (.int .u64 0), (.slice none 0 0)] rfl rfl 46 (wc s4) (wc { s4 with p := { s4.p with t0 := s1.p.t0, t1 := 0, t2 := 0 }, l0 := s1.l0, l1 := aG, l2 := aG }) gD ah (Nat.le_of_ble_eq_true ah) ah ah ?_) | (refine wpList_load_row rfl 46 _ rfl (w.heap.size) rfl _ (wc { s4 with p := { s4.p with t0 := s1.p.t0, t1 := 0, t2 := 0 }, l0 := s1.l0, l1 := aG, l2 := aG }) (0, 0) _ qa6w Tryz.underlying46 rfl ah ?_) | (refine wpList_store_row rfl 46 _ _ rfl (w.heap.size + 1) (wc { s4 with p := { s4.p with t0 := s1.p.t0, t1 := 0, t2 := 0 }, l0 := s1.l0, l1 := aG, l2 := aG }) rfl rfl _ _ qa6x ah ah ah ?_))
 refine bodyPost_ret (v := wv { s4 with p := { s4.p with t0 := s1.p.t0, t1 := 0, t2 := 0 }, l0 := s1.l0, l1 := aG, l2 := aG }) ?_ rfl ⟨_, rfl, ?_, Q7.below⟩
 ·exact qad
 ·have PE := (R.P.aI R.T.X aL aL (wc { s4 with p := { s4.p with t0 := s1.p.t0, t1 := 0, t2 := 0 }, l0 := s1.l0, l1 := aG, l2 := aG })).aI Q6.Z aL aL (wc { s4 with p := { s4.p with t0 := s1.p.t0, t1 := 0, t2 := 0 }, l0 := s1.l0, l1 := aG, l2 := aG })
  have AE := (R.A.aI R.T.X aL aL (wc { s4 with p := { s4.p with t0 := s1.p.t0, t1 := 0, t2 := 0 }, l0 := s1.l0, l1 := aG, l2 := aG })).aI Q6.Z aL aL (wc { s4 with p := { s4.p with t0 := s1.p.t0, t1 := 0, t2 := 0 }, l0 := s1.l0, l1 := aG, l2 := aG })
  unfold gZ
  rw [H0.out, H1.out, H2.out]
  refine ⟨?_, PE.rk.rdF, AE.l0.rdF, bK.nil.rdF (t := 3), bK.nil.rdF (t := 3), ?_, PE.rd.rdF⟩
  ·simp [PE.p, HP.out]
  ·simpa using PE.hl.rdF
theorem ripe_nyn (s : Wk) (x : St) (hx : Few 200 x) (e : Int) (he : e < 18446744073709551616) (w : World) (h : aP w s x) (h0 : bL x.p.t0 e = false) (h1 : bL x.p.t1 e = true) (h2 : bL x.p.t2 e = false) :
  Calls Tryz.prog 161 #[wv s, .int .u64 e] w fun r w' => ∃ s', r = .returned (wv s') ∧ aQ w.heap.size w' s' (gZ x e) ∧ Below w.heap.size w w' := by
 have H0 := Lib.hid h0
 have H1 := Lib.hid h1
 have H2 := Lib.hid h2
 clear h0 h1 h2
 have HE := Lib.hid he
 clear he
 have e11 : ∀ s : Wk, (wc s)[11]? = some (.int .u64 s.p.t0) := fun _ => rfl
 have e12 : ∀ s : Wk, (wc s)[12]? = some (.slice s.l0.ad s.l0.len s.l0.cap) := fun _ => rfl
 have e13 : ∀ s : Wk, (wc s)[13]? = some (.int .u64 s.p.t1) := fun _ => rfl
 have e14 : ∀ s : Wk, (wc s)[14]? = some (.slice s.l1.ad s.l1.len s.l1.cap) := fun _ => rfl
 have e15 : ∀ s : Wk, (wc s)[15]? = some (.int .u64 s.p.t2) := fun _ => rfl
 have e16 : ∀ s : Wk, (wc s)[16]? = some (.slice s.l2.ad s.l2.len s.l2.cap) := fun _ => rfl
 have T0 := Two.start w s
 go_enter Tryz.func161, Tryz.ntmps161
 go_wp2_with (refine wpList_load_row rfl 46 _ rfl (w.heap.size) rfl _ (wc s) (0, 0) _ bT Tryz.underlying46 rfl ah ?_)
 refine (aW s x (hx.mono aj) _ (h.keep T0.below)).mono ?_
 rintro r w1 ⟨s1, rfl, A1, hb1⟩
 have T1 := T0.keep hb1
 have T2 := T1.bO s1
 have PB := (A1.part).base (B' := w.heap.size) bq
 have P2 := PB.aI T1.X aL aL (wc s1)
 have HP := Lib.hid A1.p
 have x2 := T2.X.cells
 have b2 := T2.lt
 have i0 := fP s1
 have i1 := fO s1
 have i2 := fM s1
 have R : Rp w w.heap.size (w.heap.size + 1) w1.heap.size s1 x s1 x #[.int .u64 0, .slice none 0 0, .int .u64 0, .slice none 0 0, .int .u64 0, .slice none 0 0] ((w1.setRow w.heap.size (wc s1)).alloc (.cells #[.int .u64 0, .slice none 0 0, .int .u64 0, .slice none 0 0, .int .u64 0, .slice none 0 0] 44)) :=
  have hb : Below (w1.setRow w.heap.size (wc s1)).heap.size (w1.setRow w.heap.size (wc s1)) ((w1.setRow w.heap.size (wc s1)).alloc (.cells #[.int .u64 0, .slice none 0 0, .int .u64 0, .slice none 0 0, .int .u64 0, .slice none 0 0] 44)) := (Below.refl _ _).alloc (Nat.le_refl _) _
  ⟨T2.keep hb, by have := Bk.new (w1.setRow w.heap.size (wc s1)) #[.int .u64 0, .slice none 0 0, .int .u64 0, .slice none 0 0, .int .u64 0, .slice none 0 0] 44; simpa using this, by have := hb1.size; simp at this; omega, P2.keep hb, P2.keep hb⟩
 have x3 := R.T.X.cells
 clear T0 A1 hb1 PB x2
 go_wp2_with (refine wpList_store_row rfl 46 _ _ rfl (w.heap.size) (wc s1) rfl rfl _ _ dG ah ah ah ?_)
 obtain ⟨u0, hu0⟩ : ∃ u0, u0 = (w1.setRow w.heap.size (wc s1)).alloc (.cells #[.int .u64 0, .slice none 0 0, .int .u64 0, .slice none 0 0, .int .u64 0, .slice none 0 0] 44) := ⟨_, rfl⟩
 rw [← hu0] at R ⊢
 obtain ⟨gk, hgk⟩ : ∃ g, g = w1.heap.size := ⟨_, rfl⟩
 rw [← hgk] at R ⊢
 clear hu0 hgk T1 T2 P2 b2 x3
 refine wp_loop_rounds 4 ?_
 rw [rounds_succ]
 go_wp2_with fail
 refine (dM (b := false) qa6o s1.l0 _ HE.out).mono ?_
 rintro r v0 ⟨rfl, hb⟩
 have BB := (Bk.new u0 #[.int .u64 s1.p.t0, .slice s1.l0.ad s1.l0.len s1.l0.cap] 43).keep hb
 have zb := BB.cells
 have R := (R.keep ((Below.refl _ _).alloc (Nat.le_refl _) (.cells #[.int .u64 s1.p.t0, .slice s1.l0.ad s1.l0.len s1.l0.cap] 43))).keep hb
 clear hb
 have zk := R.K.cells
 have zf := R.K.frozen
 have RN := (R.iM 0 (.int .u64 s1.p.t0)).iM 1 (.slice s1.l0.ad s1.l0.len s1.l0.cap)
 simp only [List.setIfInBounds_toArray, List.set_cons_succ, List.set_cons_zero] at RN
 have bk := R.K.lt
 clear BB
 go_wp2_with fail
 have R := RN
 clear RN zk zf bk zb
 obtain ⟨u1, hu1⟩ : ∃ y, y = (v0.setCell ⟨gk, 0, none⟩ (.int .u64 s1.p.t0)).setCell ⟨gk, 1, none⟩ (.slice s1.l0.ad s1.l0.len s1.l0.cap) := ⟨_, rfl⟩
 rw [← hu1] at R ⊢
 clear hu1
 rw [rounds_succ]
 go_wp2_with fail
 refine (dM (b := true) qa6r s1.l1 _ HE.out).mono ?_
 rintro r v1 ⟨rfl, hb⟩
 have BB := (Bk.new u1 #[.int .u64 s1.p.t1, .slice s1.l1.ad s1.l1.len s1.l1.cap] 43).keep hb
 have zb := BB.cells
 have R := (R.keep ((Below.refl _ _).alloc (Nat.le_refl _) (.cells #[.int .u64 s1.p.t1, .slice s1.l1.ad s1.l1.len s1.l1.cap] 43))).keep hb
 clear hb
 go_wp2_with (refine wpList_load_row rfl 46 _ rfl (w.heap.size) rfl _ (wc s1) (0, 0) _ gD Tryz.underlying46 rfl ah ?_)
 refine (dF s1 x (⟨by have := hx.rk; simp <;> omega, by have := hx.l0; simp <;> omega, by have := hx.l1; simp <;> omega, by have := hx.l2; simp <;> omega, by have := hx.hl; have := hx.l0; have := hx.l1; have := hx.l2; simp <;> omega, by have := hx.rd; simp <;> omega⟩) s1.l1 x.l1 qa6s _ R.P.lies R.A.l1.reads).mono ?_
 rintro r q1 ⟨s3, rfl, ⟨_, _, _, _, _, O, A⟩, hb⟩
 have hz := R.T.below.size
 have PN : Part w.heap.size q1 s3 { x with hl := x.hl ++ x.l1 } := Part.base ⟨A.p, A.rk, A.l0, A.l1, A.l2, O, A.rd⟩ hz
 have R := R.keep hb
 have RN := R.bO PN
 clear O A hb BB zb PN hz
 go_wp2_with (refine wpList_store_row rfl 46 _ _ rfl (w.heap.size) (wc s3) rfl rfl _ _ gD ah ah ah ?_)
 have R := RN
 clear RN
 obtain ⟨u2, hu2⟩ : ∃ y, y = q1.setRow w.heap.size (wc s3) := ⟨_, rfl⟩
 rw [← hu2] at R ⊢
 clear hu2
 rw [rounds_succ]
 go_wp2_with fail
 refine (dM (b := false) qa6t s1.l2 _ HE.out).mono ?_
 rintro r v2 ⟨rfl, hb⟩
 have BB := (Bk.new u2 #[.int .u64 s1.p.t2, .slice s1.l2.ad s1.l2.len s1.l2.cap] 43).keep hb
 have zb := BB.cells
 have R := (R.keep ((Below.refl _ _).alloc (Nat.le_refl _) (.cells #[.int .u64 s1.p.t2, .slice s1.l2.ad s1.l2.len s1.l2.cap] 43))).keep hb
 clear hb
 have zk := R.K.cells
 have zf := R.K.frozen
 have RN := (R.iM 4 (.int .u64 s1.p.t2)).iM 5 (.slice s1.l2.ad s1.l2.len s1.l2.cap)
 simp only [List.setIfInBounds_toArray, List.set_cons_succ, List.set_cons_zero] at RN
 have bk := R.K.lt
 clear BB
 go_wp2_with fail
 have R := RN
 clear RN zk zf bk zb
 obtain ⟨u3, hu3⟩ : ∃ y, y = (v2.setCell ⟨gk, 4, none⟩ (.int .u64 s1.p.t2)).setCell ⟨gk, 5, none⟩ (.slice s1.l2.ad s1.l2.len s1.l2.cap) := ⟨_, rfl⟩
 rw [← hu3] at R ⊢
 clear hu3
 rw [rounds_succ]
 have Q6 := R.T.bO { s3 with p := { s3.p with t0 := s1.p.t0, t1 := 0, t2 := s1.p.t2 }, l0 := s1.l0, l1 := aG, l2 := s1.l2 }
 have Q7 := Q6.bN { s3 with p := { s3.p with t0 := s1.p.t0, t1 := 0, t2 := s1.p.t2 }, l0 := s1.l0, l1 := aG, l2 := s1.l2 }
 clear i0 i1 i2 e11 e12 e13 e14 e15 e16 hx h
 go_wp2_with (first | (refine wpList_load_row rfl 44 _ rfl gk rfl _ (#[(.int .u64 s1.p.t0), (.slice s1.l0.ad s1.l0.len s1.l0.cap), (.int .u64 0), (.slice none 0 0), (.int .u64 s1.p.t2), (.slice s1.l2.ad s1.l2.len s1.l2.cap)]) (0, 0) _ qa6v Tryz.underlying44 rfl ah ?_) | (refine Sub.bQ rfl 44 _ _ rfl w.heap.size 11 #[(.int .u64 s1.p.t0), (.slice s1.l0.ad s1.l0.len s1.l0.cap), (.int .u64 0), (.slice none 0 0), (.int .u64 s1.p.t2), (.slice s1.l2.ad s1.l2.len s1.l2.cap)] rfl rfl 46 (wc s3) (wc { s3 with p := { s3.p with t0 := s1.p.t0, t1 := 0, t2 := s1.p.t2 }, l0 := s1.l0, l1 := aG, l2 := s1.l2 }) gD ah (Nat.le_of_ble_eq_true ah) ah ah ?_) | (refine wpList_load_row rfl 46 _ rfl (w.heap.size) rfl _ (wc { s3 with p := { s3.p with t0 := s1.p.t0, t1 := 0, t2 := s1.p.t2 }, l0 := s1.l0, l1 := aG, l2 := s1.l2 }) (0, 0) _ qa6w Tryz.underlying46 rfl ah ?_) | (refine wpList_store_row rfl 46 _ _ rfl (w.heap.size + 1) (wc { s3 with p := { s3.p with t0 := s1.p.t0, t1 := 0, t2 := s1.p.t2 }, l0 := s1.l0, l1 := aG, l2 := s1.l2 }) rfl rfl _ _ qa6x ah ah ah ?_))
 refine bodyPost_ret (v := wv { s3 with p := { s3.p with t0 := s1.p.t0, t1 := 0, t2 := s1.p.t2 }, l0 := s1.l0, l1 := aG, l2 := s1.l2 }) ?_ rfl ⟨_, rfl, ?_, Q7.below⟩
 ·exact qad
 ·have PE := (R.P.aI R.T.X aL aL (wc { s3 with p := { s3.p with t0 := s1.p.t0, t1 := 0, t2 := s1.p.t2 }, l0 := s1.l0, l1 := aG, l2 := s1.l2 })).aI Q6.Z aL aL (wc { s3 with p := { s3.p with t0 := s1.p.t0, t1 := 0, t2 := s1.p.t2 }, l0 := s1.l0, l1 := aG, l2 := s1.l2 })
  have AE := (R.A.aI R.T.X aL aL (wc { s3 with p := { s3.p with t0 := s1.p.t0, t1 := 0, t2 := s1.p.t2 }, l0 := s1.l0, l1 := aG, l2 := s1.l2 })).aI Q6.Z aL aL (wc { s3 with p := { s3.p with t0 := s1.p.t0, t1 := 0, t2 := s1.p.t2 }, l0 := s1.l0, l1 := aG, l2 := s1.l2 })
  unfold gZ
  rw [H0.out, H1.out, H2.out]
  refine ⟨?_, PE.rk.rdF, AE.l0.rdF, bK.nil.rdF (t := 3), AE.l2.rdF, ?_, PE.rd.rdF⟩
  ·simp [PE.p, HP.out]
  ·simpa using PE.hl.rdF
theorem ripe_nny (s : Wk) (x : St) (hx : Few 200 x) (e : Int) (he : e < 18446744073709551616) (w : World) (h : aP w s x) (h0 : bL x.p.t0 e = false) (h1 : bL x.p.t1 e = false) (h2 : bL x.p.t2 e = true) :
  Calls Tryz.prog 161 #[wv s, .int .u64 e] w fun r w' => ∃ s', r = .returned (wv s') ∧ aQ w.heap.size w' s' (gZ x e) ∧ Below w.heap.size w w' := by
 have H0 := Lib.hid h0
 have H1 := Lib.hid h1
 have H2 := Lib.hid h2
 clear h0 h1 h2
 have HE := Lib.hid he
 clear he
 have e11 : ∀ s : Wk, (wc s)[11]? = some (.int .u64 s.p.t0) := fun _ => rfl
 have e12 : ∀ s : Wk, (wc s)[12]? = some (.slice s.l0.ad s.l0.len s.l0.cap) := fun _ => rfl
 have e13 : ∀ s : Wk, (wc s)[13]? = some (.int .u64 s.p.t1) := fun _ => rfl
 have e14 : ∀ s : Wk, (wc s)[14]? = some (.slice s.l1.ad s.l1.len s.l1.cap) := fun _ => rfl
 have e15 : ∀ s : Wk, (wc s)[15]? = some (.int .u64 s.p.t2) := fun _ => rfl
 have e16 : ∀ s : Wk, (wc s)[16]? = some (.slice s.l2.ad s.l2.len s.l2.cap) := fun _ => rfl
 have T0 := Two.start w s
 go_enter Tryz.func161, Tryz.ntmps161
 go_wp2_with (refine wpList_load_row rfl 46 _ rfl (w.heap.size) rfl _ (wc s) (0, 0) _ bT Tryz.underlying46 rfl ah ?_)
 refine (aW s x (hx.mono aj) _ (h.keep T0.below)).mono ?_
 rintro r w1 ⟨s1, rfl, A1, hb1⟩
 have T1 := T0.keep hb1
 have T2 := T1.bO s1
 have PB := (A1.part).base (B' := w.heap.size) bq
 have P2 := PB.aI T1.X aL aL (wc s1)
 have HP := Lib.hid A1.p
 have x2 := T2.X.cells
 have b2 := T2.lt
 have i0 := fP s1
 have i1 := fO s1
 have i2 := fM s1
 have R : Rp w w.heap.size (w.heap.size + 1) w1.heap.size s1 x s1 x #[.int .u64 0, .slice none 0 0, .int .u64 0, .slice none 0 0, .int .u64 0, .slice none 0 0] ((w1.setRow w.heap.size (wc s1)).alloc (.cells #[.int .u64 0, .slice none 0 0, .int .u64 0, .slice none 0 0, .int .u64 0, .slice none 0 0] 44)) :=
  have hb : Below (w1.setRow w.heap.size (wc s1)).heap.size (w1.setRow w.heap.size (wc s1)) ((w1.setRow w.heap.size (wc s1)).alloc (.cells #[.int .u64 0, .slice none 0 0, .int .u64 0, .slice none 0 0, .int .u64 0, .slice none 0 0] 44)) := (Below.refl _ _).alloc (Nat.le_refl _) _
  ⟨T2.keep hb, by have := Bk.new (w1.setRow w.heap.size (wc s1)) #[.int .u64 0, .slice none 0 0, .int .u64 0, .slice none 0 0, .int .u64 0, .slice none 0 0] 44; simpa using this, by have := hb1.size; simp at this; omega, P2.keep hb, P2.keep hb⟩
 have x3 := R.T.X.cells
 clear T0 A1 hb1 PB x2
 go_wp2_with (refine wpList_store_row rfl 46 _ _ rfl (w.heap.size) (wc s1) rfl rfl _ _ dG ah ah ah ?_)
 obtain ⟨u0, hu0⟩ : ∃ u0, u0 = (w1.setRow w.heap.size (wc s1)).alloc (.cells #[.int .u64 0, .slice none 0 0, .int .u64 0, .slice none 0 0, .int .u64 0, .slice none 0 0] 44) := ⟨_, rfl⟩
 rw [← hu0] at R ⊢
 obtain ⟨gk, hgk⟩ : ∃ g, g = w1.heap.size := ⟨_, rfl⟩
 rw [← hgk] at R ⊢
 clear hu0 hgk T1 T2 P2 b2 x3
 refine wp_loop_rounds 4 ?_
 rw [rounds_succ]
 go_wp2_with fail
 refine (dM (b := false) qa6o s1.l0 _ HE.out).mono ?_
 rintro r v0 ⟨rfl, hb⟩
 have BB := (Bk.new u0 #[.int .u64 s1.p.t0, .slice s1.l0.ad s1.l0.len s1.l0.cap] 43).keep hb
 have zb := BB.cells
 have R := (R.keep ((Below.refl _ _).alloc (Nat.le_refl _) (.cells #[.int .u64 s1.p.t0, .slice s1.l0.ad s1.l0.len s1.l0.cap] 43))).keep hb
 clear hb
 have zk := R.K.cells
 have zf := R.K.frozen
 have RN := (R.iM 0 (.int .u64 s1.p.t0)).iM 1 (.slice s1.l0.ad s1.l0.len s1.l0.cap)
 simp only [List.setIfInBounds_toArray, List.set_cons_succ, List.set_cons_zero] at RN
 have bk := R.K.lt
 clear BB
 go_wp2_with fail
 have R := RN
 clear RN zk zf bk zb
 obtain ⟨u1, hu1⟩ : ∃ y, y = (v0.setCell ⟨gk, 0, none⟩ (.int .u64 s1.p.t0)).setCell ⟨gk, 1, none⟩ (.slice s1.l0.ad s1.l0.len s1.l0.cap) := ⟨_, rfl⟩
 rw [← hu1] at R ⊢
 clear hu1
 rw [rounds_succ]
 go_wp2_with fail
 refine (dM (b := false) qa6r s1.l1 _ HE.out).mono ?_
 rintro r v1 ⟨rfl, hb⟩
 have BB := (Bk.new u1 #[.int .u64 s1.p.t1, .slice s1.l1.ad s1.l1.len s1.l1.cap] 43).keep hb
 have zb := BB.cells
 have R := (R.keep ((Below.refl _ _).alloc (Nat.le_refl _) (.cells #[.int .u64 s1.p.t1, .slice s1.l1.ad s1.l1.len s1.l1.cap] 43))).keep hb
 clear hb
 have zk := R.K.cells
 have zf := R.K.frozen
 have RN := (R.iM 2 (.int .u64 s1.p.t1)).iM 3 (.slice s1.l1.ad s1.l1.len s1.l1.cap)
 simp only [List.setIfInBounds_toArray, List.set_cons_succ, List.set_cons_zero] at RN
 have bk := R.K.lt
 clear BB
 go_wp2_with fail
 have R := RN
 clear RN zk zf bk zb
 obtain ⟨u2, hu2⟩ : ∃ y, y = (v1.setCell ⟨gk, 2, none⟩ (.int .u64 s1.p.t1)).setCell ⟨gk, 3, none⟩ (.slice s1.l1.ad s1.l1.len s1.l1.cap) := ⟨_, rfl⟩
 rw [← hu2] at R ⊢
 clear hu2
 rw [rounds_succ]
 go_wp2_with fail
 refine (dM (b := true) qa6t s1.l2 _ HE.out).mono ?_
 rintro r v2 ⟨rfl, hb⟩
 have BB := (Bk.new u2 #[.int .u64 s1.p.t2, .slice s1.l2.ad s1.l2.len s1.l2.cap] 43).keep hb
 have zb := BB.cells
 have R := (R.keep ((Below.refl _ _).alloc (Nat.le_refl _) (.cells #[.int .u64 s1.p.t2, .slice s1.l2.ad s1.l2.len s1.l2.cap] 43))).keep hb
 clear hb
 go_wp2_with (refine wpList_load_row rfl 46 _ rfl (w.heap.size) rfl _ (wc s1) (0, 0) _ gD Tryz.underlying46 rfl ah ?_)
 refine (dF s1 x (⟨by have := hx.rk; simp <;> omega, by have := hx.l0; simp <;> omega, by have := hx.l1; simp <;> omega, by have := hx.l2; simp <;> omega, by have := hx.hl; have := hx.l0; have := hx.l1; have := hx.l2; simp <;> omega, by have := hx.rd; simp <;> omega⟩) s1.l2 x.l2 qa6u _ R.P.lies R.A.l2.reads).mono ?_
 rintro r q2 ⟨s4, rfl, ⟨_, _, _, _, _, O, A⟩, hb⟩
 have hz := R.T.below.size
 have PN : Part w.heap.size q2 s4 { x with hl := x.hl ++ x.l2 } := Part.base ⟨A.p, A.rk, A.l0, A.l1, A.l2, O, A.rd⟩ hz
 have R := R.keep hb
 have RN := R.bO PN
 clear O A hb BB zb PN hz
 go_wp2_with (refine wpList_store_row rfl 46 _ _ rfl (w.heap.size) (wc s4) rfl rfl _ _ gD ah ah ah ?_)
 have R := RN
 clear RN
 obtain ⟨u3, hu3⟩ : ∃ y, y = q2.setRow w.heap.size (wc s4) := ⟨_, rfl⟩
 rw [← hu3] at R ⊢
 clear hu3
 rw [rounds_succ]
 have Q6 := R.T.bO { s4 with p := { s4.p with t0 := s1.p.t0, t1 := s1.p.t1, t2 := 0 }, l0 := s1.l0, l1 := s1.l1, l2 := aG }
 have Q7 := Q6.bN { s4 with p := { s4.p with t0 := s1.p.t0, t1 := s1.p.t1, t2 := 0 }, l0 := s1.l0, l1 := s1.l1, l2 := aG }
 clear i0 i1 i2 e11 e12 e13 e14 e15 e16 hx h
 go_wp2_with (first | (refine wpList_load_row rfl 44 _ rfl gk rfl _ (#[(.int .u64 s1.p.t0), (.slice s1.l0.ad s1.l0.len s1.l0.cap), (.int .u64 s1.p.t1), (.slice s1.l1.ad s1.l1.len s1.l1.cap), (.int .u64 0), (.slice none 0 0)]) (0, 0) _ qa6v Tryz.underlying44 rfl ah ?_) | (refine Sub.bQ rfl 44 _ _ rfl w.heap.size 11 #[(.int .u64 s1.p.t0), (.slice s1.l0.ad s1.l0.len s1.l0.cap), (.int .u64 s1.p.t1), (.slice s1.l1.ad s1.l1.len s1.l1.cap), (.int .u64 0), (.slice none 0 0)] rfl rfl 46 (wc s4) (wc { s4 with p := { s4.p with t0 := s1.p.t0, t1 := s1.p.t1, t2 := 0 }, l0 := s1.l0, l1 := s1.l1, l2 := aG }) gD ah (Nat.le_of_ble_eq_true ah) ah ah ?_) | (refine wpList_load_row rfl 46 _ rfl (w.heap.size) rfl _ (wc { s4 with p := { s4.p with t0 := s1.p.t0, t1 := s1.p.t1, t2 := 0 }, l0 := s1.l0, l1 := s1.l1, l2 := aG }) (0, 0) _ qa6w Tryz.underlying46 rfl ah ?_) | (refine wpList_store_row rfl 46 _ _ rfl (w.heap.size + 1) (wc { s4 with p := { s4.p with t0 := s1.p.t0, t1 := s1.p.t1, t2 := 0 }, l0 := s1.l0, l1 := s1.l1, l2 := aG }) rfl rfl _ _ qa6x ah ah ah ?_))
 refine bodyPost_ret (v := wv { s4 with p := { s4.p with t0 := s1.p.t0, t1 := s1.p.t1, t2 := 0 }, l0 := s1.l0, l1 := s1.l1, l2 := aG }) ?_ rfl ⟨_, rfl, ?_, Q7.below⟩
 ·exact qad
 ·have PE := (R.P.aI R.T.X aL aL (wc { s4 with p := { s4.p with t0 := s1.p.t0, t1 := s1.p.t1, t2 := 0 }, l0 := s1.l0, l1 := s1.l1, l2 := aG })).aI Q6.Z aL aL (wc { s4 with p := { s4.p with t0 := s1.p.t0, t1 := s1.p.t1, t2 := 0 }, l0 := s1.l0, l1 := s1.l1, l2 := aG })
  have AE := (R.A.aI R.T.X aL aL (wc { s4 with p := { s4.p with t0 := s1.p.t0, t1 := s1.p.t1, t2 := 0 }, l0 := s1.l0, l1 := s1.l1, l2 := aG })).aI Q6.Z aL aL (wc { s4 with p := { s4.p with t0 := s1.p.t0, t1 := s1.p.t1, t2 := 0 }, l0 := s1.l0, l1 := s1.l1, l2 := aG })
  unfold gZ
  rw [H0.out, H1.out, H2.out]
  refine ⟨?_, PE.rk.rdF, AE.l0.rdF, AE.l1.rdF, bK.nil.rdF (t := 3), ?_, PE.rd.rdF⟩
  ·simp [PE.p, HP.out]
  ·simpa using PE.hl.rdF
theorem ripe_nnn (s : Wk) (x : St) (hx : Few 200 x) (e : Int) (he : e < 18446744073709551616) (w : World) (h : aP w s x) (h0 : bL x.p.t0 e = false) (h1 : bL x.p.t1 e = false) (h2 : bL x.p.t2 e = false) :
  Calls Tryz.prog 161 #[wv s, .int .u64 e] w fun r w' => ∃ s', r = .returned (wv s') ∧ aQ w.heap.size w' s' (gZ x e) ∧ Below w.heap.size w w' := by
 have H0 := Lib.hid h0
 have H1 := Lib.hid h1
 have H2 := Lib.hid h2
 clear h0 h1 h2
 have HE := Lib.hid he
 clear he
 have e11 : ∀ s : Wk, (wc s)[11]? = some (.int .u64 s.p.t0) := fun _ => rfl
 have e12 : ∀ s : Wk, (wc s)[12]? = some (.slice s.l0.ad s.l0.len s.l0.cap) := fun _ => rfl
 have e13 : ∀ s : Wk, (wc s)[13]? = some (.int .u64 s.p.t1) := fun _ => rfl
 have e14 : ∀ s : Wk, (wc s)[14]? = some (.slice s.l1.ad s.l1.len s.l1.cap) := fun _ => rfl
 have e15 : ∀ s : Wk, (wc s)[15]? = some (.int .u64 s.p.t2) := fun _ => rfl
 have e16 : ∀ s : Wk, (wc s)[16]? = some (.slice s.l2.ad s.l2.len s.l2.cap) := fun _ => rfl
 have T0 := Two.start w s
 go_enter Tryz.func161, Tryz.ntmps161
 go_wp2_with (refine wpList_load_row rfl 46 _ rfl (w.heap.size) rfl _ (wc s) (0, 0) _ bT Tryz.underlying46 rfl ah ?_)
 refine (aW s x (hx.mono aj) _ (h.keep T0.below)).mono ?_
 rintro r w1 ⟨s1, rfl, A1, hb1⟩
 have T1 := T0.keep hb1
 have T2 := T1.bO s1
 have PB := (A1.part).base (B' := w.heap.size) bq
 have P2 := PB.aI T1.X aL aL (wc s1)
 have HP := Lib.hid A1.p
 have x2 := T2.X.cells
 have b2 := T2.lt
 have i0 := fP s1
 have i1 := fO s1
 have i2 := fM s1
 have R : Rp w w.heap.size (w.heap.size + 1) w1.heap.size s1 x s1 x #[.int .u64 0, .slice none 0 0, .int .u64 0, .slice none 0 0, .int .u64 0, .slice none 0 0] ((w1.setRow w.heap.size (wc s1)).alloc (.cells #[.int .u64 0, .slice none 0 0, .int .u64 0, .slice none 0 0, .int .u64 0, .slice none 0 0] 44)) :=
  have hb : Below (w1.setRow w.heap.size (wc s1)).heap.size (w1.setRow w.heap.size (wc s1)) ((w1.setRow w.heap.size (wc s1)).alloc (.cells #[.int .u64 0, .slice none 0 0, .int .u64 0, .slice none 0 0, .int .u64 0, .slice none 0 0] 44)) := (Below.refl _ _).alloc (Nat.le_refl _) _
  ⟨T2.keep hb, by have := Bk.new (w1.setRow w.heap.size (wc s1)) #[.int .u64 0, .slice none 0 0, .int .u64 0, .slice none 0 0, .int .u64 0, .slice none 0 0] 44; simpa using this, by have := hb1.size; simp at this; omega, P2.keep hb, P2.keep hb⟩
 have x3 := R.T.X.cells
 clear T0 A1 hb1 PB x2
 go_wp2_with (refine wpList_store_row rfl 46 _ _ rfl (w.heap.size) (wc s1) rfl rfl _ _ dG ah ah ah ?_)
 obtain ⟨u0, hu0⟩ : ∃ u0, u0 = (w1.setRow w.heap.size (wc s1)).alloc (.cells #[.int .u64 0, .slice none 0 0, .int .u64 0, .slice none 0 0, .int .u64 0, .slice none 0 0] 44) := ⟨_, rfl⟩
 rw [← hu0] at R ⊢
 obtain ⟨gk, hgk⟩ : ∃ g, g = w1.heap.size := ⟨_, rfl⟩
 rw [← hgk] at R ⊢
 clear hu0 hgk T1 T2 P2 b2 x3
 refine wp_loop_rounds 4 ?_
 rw [rounds_succ]
 go_wp2_with fail
 refine (dM (b := false) qa6o s1.l0 _ HE.out).mono ?_
 rintro r v0 ⟨rfl, hb⟩
 have BB := (Bk.new u0 #[.int .u64 s1.p.t0, .slice s1.l0.ad s1.l0.len s1.l0.cap] 43).keep hb
 have zb := BB.cells
 have R := (R.keep ((Below.refl _ _).alloc (Nat.le_refl _) (.cells #[.int .u64 s1.p.t0, .slice s1.l0.ad s1.l0.len s1.l0.cap] 43))).keep hb
 clear hb
 have zk := R.K.cells
 have zf := R.K.frozen
 have RN := (R.iM 0 (.int .u64 s1.p.t0)).iM 1 (.slice s1.l0.ad s1.l0.len s1.l0.cap)
 simp only [List.setIfInBounds_toArray, List.set_cons_succ, List.set_cons_zero] at RN
 have bk := R.K.lt
 clear BB
 go_wp2_with fail
 have R := RN
 clear RN zk zf bk zb
 obtain ⟨u1, hu1⟩ : ∃ y, y = (v0.setCell ⟨gk, 0, none⟩ (.int .u64 s1.p.t0)).setCell ⟨gk, 1, none⟩ (.slice s1.l0.ad s1.l0.len s1.l0.cap) := ⟨_, rfl⟩
 rw [← hu1] at R ⊢
 clear hu1
 rw [rounds_succ]
 go_wp2_with fail
 refine (dM (b := false) qa6r s1.l1 _ HE.out).mono ?_
 rintro r v1 ⟨rfl, hb⟩
 have BB := (Bk.new u1 #[.int .u64 s1.p.t1, .slice s1.l1.ad s1.l1.len s1.l1.cap] 43).keep hb
 have zb := BB.cells
 have R := (R.keep ((Below.refl _ _).alloc (Nat.le_refl _) (.cells #[.int .u64 s1.p.t1, .slice s1.l1.ad s1.l1.len s1.l1.cap] 43))).keep hb
 clear hb
 have zk := R.K.cells
 have zf := R.K.frozen
 have RN := (R.iM 2 (.int .u64 s1.p.t1)).iM 3 (.slice s1.l1.ad s1.l1.len s1.l1.cap)
 simp only [List.setIfInBounds_toArray, List.set_cons_succ, List.set_cons_zero] at RN
 have bk := R.K.lt
 clear BB
 go_wp2_with fail
 have R := RN
 clear RN zk zf bk zb
 obtain ⟨u2, hu2⟩ : ∃ y, y = (v1.setCell ⟨gk, 2, none⟩ (.int .u64 s1.p.t1)).setCell ⟨gk, 3, none⟩ (.slice s1.l1.ad s1.l1.len s1.l1.cap) := ⟨_, rfl⟩
 rw [← hu2] at R ⊢
 clear hu2
 rw [rounds_succ]
 go_wp2_with fail
 refine (dM (b := false) qa6t s1.l2 _ HE.out).mono ?_
 rintro r v2 ⟨rfl, hb⟩
 have BB := (Bk.new u2 #[.int .u64 s1.p.t2, .slice s1.l2.ad s1.l2.len s1.l2.cap] 43).keep hb
 have zb := BB.cells
 have R := (R.keep ((Below.refl _ _).alloc (Nat.le_refl _) (.cells #[.int .u64 s1.p.t2, .slice s1.l2.ad s1.l2.len s1.l2.cap] 43))).keep hb
 clear hb
 have zk := R.K.cells
 have zf := R.K.frozen
 have RN := (R.iM 4 (.int .u64 s1.p.t2)).iM 5 (.slice s1.l2.ad s1.l2.len s1.l2.cap)
 simp only [List.setIfInBounds_toArray, List.set_cons_succ, List.set_cons_zero] at RN
 have bk := R.K.lt
 clear BB
 go_wp2_with fail
 have R := RN
 clear RN zk zf bk zb
 obtain ⟨u3, hu3⟩ : ∃ y, y = (v2.setCell ⟨gk, 4, none⟩ (.int .u64 s1.p.t2)).setCell ⟨gk, 5, none⟩ (.slice s1.l2.ad s1.l2.len s1.l2.cap) := ⟨_, rfl⟩
 rw [← hu3] at R ⊢
 clear hu3
 rw [rounds_succ]
 have Q6 := R.T.bO { s1 with p := { s1.p with t0 := s1.p.t0, t1 := s1.p.t1, t2 := s1.p.t2 }, l0 := s1.l0, l1 := s1.l1, l2 := s1.l2 }
 have Q7 := Q6.bN { s1 with p := { s1.p with t0 := s1.p.t0, t1 := s1.p.t1, t2 := s1.p.t2 }, l0 := s1.l0, l1 := s1.l1, l2 := s1.l2 }
 clear i0 i1 i2 e11 e12 e13 e14 e15 e16 hx h
 go_wp2_with (first | (refine wpList_load_row rfl 44 _ rfl gk rfl _ (#[(.int .u64 s1.p.t0), (.slice s1.l0.ad s1.l0.len s1.l0.cap), (.int .u64 s1.p.t1), (.slice s1.l1.ad s1.l1.len s1.l1.cap), (.int .u64 s1.p.t2), (.slice s1.l2.ad s1.l2.len s1.l2.cap)]) (0, 0) _ qa6v Tryz.underlying44 rfl ah ?_) | (refine Sub.bQ rfl 44 _ _ rfl w.heap.size 11 #[(.int .u64 s1.p.t0), (.slice s1.l0.ad s1.l0.len s1.l0.cap), (.int .u64 s1.p.t1), (.slice s1.l1.ad s1.l1.len s1.l1.cap), (.int .u64 s1.p.t2), (.slice s1.l2.ad s1.l2.len s1.l2.cap)] rfl rfl 46 (wc s1) (wc { s1 with p := { s1.p with t0 := s1.p.t0, t1 := s1.p.t1, t2 := s1.p.t2 }, l0 := s1.l0, l1 := s1.l1, l2 := s1.l2 }) gD ah (Nat.le_of_ble_eq_true ah) ah ah ?_) | (refine wpList_load_row rfl 46 _ rfl (w.heap.size) rfl _ (wc { s1 with p := { s1.p with t0 := s1.p.t0, t1 := s1.p.t1, t2 := s1.p.t2 }, l0 := s1.l0, l1 := s1.l1, l2 := s1.l2 }) (0, 0) _ qa6w Tryz.underlying46 rfl ah ?_) | (refine wpList_store_row rfl 46 _ _ rfl (w.heap.size + 1) (wc { s1 with p := { s1.p with t0 := s1.p.t0, t1 := s1.p.t1, t2 := s1.p.t2 }, l0 := s1.l0, l1 := s1.l1, l2 := s1.l2 }) rfl rfl _ _ qa6x ah ah ah ?_))
 refine bodyPost_ret (v := wv { s1 with p := { s1.p with t0 := s1.p.t0, t1 := s1.p.t1, t2 := s1.p.t2 }, l0 := s1.l0, l1 := s1.l1, l2 := s1.l2 }) ?_ rfl ⟨_, rfl, ?_, Q7.below⟩
 ·exact qad
 ·have PE := (R.P.aI R.T.X aL aL (wc { s1 with p := { s1.p with t0 := s1.p.t0, t1 := s1.p.t1, t2 := s1.p.t2 }, l0 := s1.l0, l1 := s1.l1, l2 := s1.l2 })).aI Q6.Z aL aL (wc { s1 with p := { s1.p with t0 := s1.p.t0, t1 := s1.p.t1, t2 := s1.p.t2 }, l0 := s1.l0, l1 := s1.l1, l2 := s1.l2 })
  have AE := (R.A.aI R.T.X aL aL (wc { s1 with p := { s1.p with t0 := s1.p.t0, t1 := s1.p.t1, t2 := s1.p.t2 }, l0 := s1.l0, l1 := s1.l1, l2 := s1.l2 })).aI Q6.Z aL aL (wc { s1 with p := { s1.p with t0 := s1.p.t0, t1 := s1.p.t1, t2 := s1.p.t2 }, l0 := s1.l0, l1 := s1.l1, l2 := s1.l2 })
  unfold gZ
  rw [H0.out, H1.out, H2.out]
  refine ⟨?_, PE.rk.rdF, AE.l0.rdF, AE.l1.rdF, AE.l2.rdF, ?_, PE.rd.rdF⟩
  ·simp [PE.p, HP.out]
  ·simpa using PE.hl.rdF
theorem bagRipe (s : Wk) (x : St) (hx : Few 200 x) (e : Int) (he : e < 18446744073709551616) (w : World) (h : aP w s x) :
  Calls Tryz.prog 161 #[wv s, .int .u64 e] w fun r w' => ∃ s', r = .returned (wv s') ∧ aQ w.heap.size w' s' (gZ x e) ∧ Below w.heap.size w w' := by
 cases h0 : bL x.p.t0 e <;> cases h1 : bL x.p.t1 e <;> cases h2 : bL x.p.t2 e
 ·exact ripe_nnn s x hx e he w h h0 h1 h2
 ·exact ripe_nny s x hx e he w h h0 h1 h2
 ·exact ripe_nyn s x hx e he w h h0 h1 h2
 ·exact ripe_nyy s x hx e he w h h0 h1 h2
 ·exact ripe_ynn s x hx e he w h h0 h1 h2
 ·exact ripe_yny s x hx e he w h h0 h1 h2
 ·exact ripe_yyn s x hx e he w h h0 h1 h2
 ·exact ripe_yyy s x hx e he w h h0 h1 h2
end Go.Proofs.YtaiodbcnbcdokaaGreat.Wo
