/- What follows a step in layer 13 (made by genfol.py). -/
import Derived.Test.YtgpdkagmacpghaaGreatRules13
namespace Go.Proofs.YtgpdkagmacpghaaGreat.Me
open Go Go.RowKit Go.ChangeMaps Go.Proofs.YtgpdkagmacpghaaGreat.Gro Go.Proofs.YtgpdkagmacpghaaGreat.Own Go.Proofs.YtgpdkagmacpghaaGreat.Wd Go.Proofs.YtgpdkagmacpghaaGreat.Ap Go.Proofs.YtgpdkagmacpghaaGreat.Pl Go.Proofs.YtgpdkagmacpghaaGreat.Wo Go.Proofs.YtgpdkagmacpghaaGreat.Mr
set_option linter.unusedVariables false
set_option linter.unusedSimpArgs false
def FW (P : Nat → Prop) (w : World) (y : St) (e : Ending) (w' : World) : Prop := ∃ s', e = .returned (wv s') ∧ LiesP P w' s' y ∧ Below w.heap.size w w'
def atS (x : St) (l : Int) : St := { x with p := { x.p with ln := l } }
def endS (x : St) (r : Int) : St := atS { x with p := { x.p with rt := r } } 0
def bodyS (x : St) : St := if x.p.o0 = 4 then atS x 42 else if x.p.o0 = 5 then atS x 46 else if x.p.o0 = 6 then atS x 60 else tkS x
def insideS (x : St) : St := if x.p.o0 = 1 then atS { x with p := { x.p with pn := true, br := 0 } } 0 else bodyS x
def outsideS (x : St) : St := atS (if x.p.o0 = 2 then { x with p := { x.p with pn := false, br := 0 } } else x) 0
def firstS (n : Int) (x : St) : St := atS { x with p := { x.p with j := 0 } } n
def filledS (x : St) : St := atS x (if x.p.o0 = 5 then 44 else 20)
def sharesB (k : Int) : Bool := k == 3 || k == 4 || k == 5 || k == 6
def asksB (k : Int) : Bool := k == 4 || k == 5 || k == 6
def releasedS (x : St) : St := atS { x with p := { x.p with gv := false } } (if sharesB x.p.o0 = true ∧ x.p.pn = false then 90 else 0)
def releaseS (x : St) : St := if x.hl = [] then releasedS (gvS { x with p := { x.p with gv := true } }) else gvS { x with p := { x.p with gv := true } }
set_option maxRecDepth 100000 in
set_option maxHeartbeats 8000000 in
theorem fAt {P : Nat → Prop} {w : World} {s : Wk} {x : St} (hP : ∀ b, w.heap.size ≤ b → P b) (A : LiesP P w s x) (l : Int) :
    Calls Tryz.prog 81 #[wv s, .int .i64 l] w (FW P w (atS x l)) := by
  have f0 : ∀ s : Wk, (wc s)[0]? = some (.int .i64 s.p.ln) := fun _ => rfl
  have T0 := Two.start w s
  have AQ := (A.mono (Q := fun b => P b ∧ b ≠ w.heap.size ∧ b ≠ w.heap.size + 1) (fun b hb q => ⟨q, by omega, by omega⟩)).keep T0.below
  obtain ⟨v0, hv0⟩ : ∃ u, u = (w.alloc (.cells (wc s) 34)).alloc (.cells (wc wz) 34) := ⟨_, rfl⟩
  rw [← hv0] at T0 AQ
  have x0 := T0.X.cells
  have z0 := T0.X.frozen
  have e101 := by have h := T0.X.cells 0; exact congrArg Option.isSome (h.trans (f0 _))
  simp only [Option.isSome_some] at e101
  have T1 := T0.setX 0 (.int .i64 l) ({ s with p := { s.p with ln := l } } : Wk) rfl
  have AQ10 := AQ.cell (g := w.heap.size) (fun q => q.2.1 rfl) 0 (.int .i64 l)
  have lt9 := T1.lt
  go_enter Tryz.func81, Tryz.ntmps81
  go_wp2_with (first | ((with_reducible refine wpList_alloc_wz rfl rfl ?_); rw [← hv0]; clear hv0) | (refine wpList_load_row rfl 34 _ rfl (w.heap.size) rfl _ (wc ({ s with p := { s.p with ln := l } } : Wk)) (0, 0) _ (by exact T1.X) Tryz.underlying34 rfl (by kernel_rfl) ?_) | (refine wpList_store_row rfl 34 _ _ rfl (w.heap.size + 1) (wc ({ s with p := { s.p with ln := l } } : Wk)) rfl rfl _ _ (by exact T1.Z) (by kernel_rfl) (by kernel_rfl) (by kernel_rfl) ?_))
  have ZF := T1.rowZ ({ s with p := { s.p with ln := l } } : Wk)
  refine bodyPost_ret (v := wv ({ s with p := { s.p with ln := l } } : Wk)) ?_ rfl ⟨_, rfl, (((AQ10.pl (p := { s.p with ln := l }) (p' := { x.p with ln := l }) (by rw [AQ10.p])).row (g := w.heap.size + 1) (fun q => q.2.2 rfl) _).mono (fun b _ q => q.1)), ZF.below⟩
  exact results_cell_row (p := 4) (ty := 34) Tryz.results81 _ _ (w.heap.size + 1) 34 _ (0, 0) _ rfl ZF.Z Tryz.underlying34 rfl (by kernel_rfl)
set_option maxRecDepth 100000 in
set_option maxHeartbeats 8000000 in
theorem fEnd {P : Nat → Prop} {w : World} {s : Wk} {x : St} (hP : ∀ b, w.heap.size ≤ b → P b) (A : LiesP P w s x) (r : Int) :
    Calls Tryz.prog 83 #[wv s, .int .i64 r] w (FW P w (endS x r)) := by
  have f31 : ∀ s : Wk, (wc s)[31]? = some (.int .i64 s.p.rt) := fun _ => rfl
  have T0 := Two.start w s
  have AQ := (A.mono (Q := fun b => P b ∧ b ≠ w.heap.size ∧ b ≠ w.heap.size + 1) (fun b hb q => ⟨q, by omega, by omega⟩)).keep T0.below
  obtain ⟨v0, hv0⟩ : ∃ u, u = (w.alloc (.cells (wc s) 34)).alloc (.cells (wc wz) 34) := ⟨_, rfl⟩
  rw [← hv0] at T0 AQ
  have x0 := T0.X.cells
  have z0 := T0.X.frozen
  have e101 := by have h := T0.X.cells 31; exact congrArg Option.isSome (h.trans (f31 _))
  simp only [Option.isSome_some] at e101
  have T1 := T0.setX 31 (.int .i64 r) ({ s with p := { s.p with rt := r } } : Wk) rfl
  have AQ10 := AQ.cell (g := w.heap.size) (fun q => q.2.1 rfl) 31 (.int .i64 r)
  have HP' : ∀ b, w.heap.size + 1 + 1 ≤ b → (P b ∧ b ≠ w.heap.size ∧ b ≠ w.heap.size + 1) := fun b hb => ⟨hP b (by omega), by omega, by omega⟩
  have lt9 := T1.lt
  have HC := Lib.hid (fAt (P := fun b => P b ∧ b ≠ w.heap.size ∧ b ≠ w.heap.size + 1) (fun b hb => HP' b (by omega)) (AQ10.pl (p := { s.p with rt := r }) (p' := { x.p with rt := r }) (by rw [AQ10.p])) 0)
  go_enter Tryz.func83, Tryz.ntmps83
  go_wp2_with (first | ((with_reducible refine wpList_alloc_wz rfl rfl ?_); rw [← hv0]; clear hv0) | (refine wpList_load_row rfl 34 _ rfl (w.heap.size) rfl _ (wc ({ s with p := { s.p with rt := r } } : Wk)) (0, 0) _ (by exact T1.X) Tryz.underlying34 rfl (by kernel_rfl) ?_))
  refine HC.out.mono ?_
  rintro e w9 ⟨s9, rfl, A9, hb9⟩
  have T9 := T1.keep hb9
  go_wp2_with (first | (refine wpList_store_row rfl 34 _ _ rfl (w.heap.size + 1) (wc s9) rfl rfl _ _ (by exact T9.Z) (by kernel_rfl) (by kernel_rfl) (by kernel_rfl) ?_))
  have ZF := T9.rowZ s9
  refine bodyPost_ret (v := wv s9) ?_ rfl ⟨s9, rfl, ((A9.row (g := w.heap.size + 1) (fun q => q.2.2 rfl) _).mono (fun b _ q => q.1)), ZF.below⟩
  exact results_cell_row (p := 4) (ty := 34) Tryz.results83 _ _ (w.heap.size + 1) 34 _ (0, 0) _ rfl ZF.Z Tryz.underlying34 rfl (by kernel_rfl)
theorem fTake {P : Nat → Prop} {w : World} {s : Wk} {x : St} (hP : ∀ b, w.heap.size ≤ b → P b) (A : LiesP P w s x) (hx : Few 900 x) : Calls Tryz.prog 145 #[wv s] w (FW P w (tkS x)) :=
  (takeBeginAny s x hx w A.lies).mono fun e w' ⟨s2, h1, h2, h3⟩ => ⟨s2, h1, LiesP.of h2 (fun b _ q => hP b q), h3⟩
set_option maxRecDepth 100000 in
set_option maxHeartbeats 8000000 in
theorem fBody {P : Nat → Prop} {w : World} {s : Wk} {x : St} (hP : ∀ b, w.heap.size ≤ b → P b) (A : LiesP P w s x) (hx : Few 900 x) :
    Calls Tryz.prog 110 #[wv s] w (FW P w (bodyS x)) := by
  unfold bodyS
  obtain ⟨k0, hk0⟩ : ∃ k, x.p.o0 = k := ⟨_, rfl⟩
  rw [hk0]
  have q1 : (wc s)[1]? = some (.int .i64 k0) := by rw [show (wc s)[1]? = some (.int .i64 s.p.o0) from rfl, A.p, hk0]
  clear hk0
  by_cases h4 : k0 = 4
  · subst h4
    rw [if_pos rfl]
    have T0 := Two.start w s
    have AQ := (A.mono (Q := fun b => P b ∧ b ≠ w.heap.size ∧ b ≠ w.heap.size + 1) (fun b hb q => ⟨q, by omega, by omega⟩)).keep T0.below
    obtain ⟨v0, hv0⟩ : ∃ u, u = (w.alloc (.cells (wc s) 34)).alloc (.cells (wc wz) 34) := ⟨_, rfl⟩
    rw [← hv0] at T0 AQ
    have x0 := T0.X.cells
    have z0 := T0.X.frozen
    have HP' : ∀ b, w.heap.size + 1 + 1 ≤ b → (P b ∧ b ≠ w.heap.size ∧ b ≠ w.heap.size + 1) := fun b hb => ⟨hP b (by omega), by omega, by omega⟩
    have lt9 := T0.lt
    have HC := Lib.hid (fAt (P := fun b => P b ∧ b ≠ w.heap.size ∧ b ≠ w.heap.size + 1) (fun b hb => HP' b (by omega)) AQ 42)
    go_enter Tryz.func110, Tryz.ntmps110
    go_wp2_with (first | ((with_reducible refine wpList_alloc_wz rfl rfl ?_); rw [← hv0]; clear hv0) | (refine wpList_load_row rfl 34 _ rfl (w.heap.size) rfl _ (wc s) (0, 0) _ (by exact T0.X) Tryz.underlying34 rfl (by kernel_rfl) ?_))
    refine HC.out.mono ?_
    rintro e w9 ⟨s9, rfl, A9, hb9⟩
    have T9 := T0.keep hb9
    go_wp2_with (first | (refine wpList_store_row rfl 34 _ _ rfl (w.heap.size + 1) (wc s9) rfl rfl _ _ (by exact T9.Z) (by kernel_rfl) (by kernel_rfl) (by kernel_rfl) ?_))
    have ZF := T9.rowZ s9
    refine bodyPost_ret (v := wv s9) ?_ rfl ⟨s9, rfl, ((A9.row (g := w.heap.size + 1) (fun q => q.2.2 rfl) _).mono (fun b _ q => q.1)), ZF.below⟩
    exact results_cell_row (p := 2) (ty := 34) Tryz.results110 _ _ (w.heap.size + 1) 34 _ (0, 0) _ rfl ZF.Z Tryz.underlying34 rfl (by kernel_rfl)
  rw [if_neg h4]
  have t4 : (k0 == 4) = false := by simp [h4]
  by_cases h5 : k0 = 5
  · subst h5
    rw [if_pos rfl]
    have T0 := Two.start w s
    have AQ := (A.mono (Q := fun b => P b ∧ b ≠ w.heap.size ∧ b ≠ w.heap.size + 1) (fun b hb q => ⟨q, by omega, by omega⟩)).keep T0.below
    obtain ⟨v0, hv0⟩ : ∃ u, u = (w.alloc (.cells (wc s) 34)).alloc (.cells (wc wz) 34) := ⟨_, rfl⟩
    rw [← hv0] at T0 AQ
    have x0 := T0.X.cells
    have z0 := T0.X.frozen
    have HP' : ∀ b, w.heap.size + 1 + 1 ≤ b → (P b ∧ b ≠ w.heap.size ∧ b ≠ w.heap.size + 1) := fun b hb => ⟨hP b (by omega), by omega, by omega⟩
    have lt9 := T0.lt
    have HC := Lib.hid (fAt (P := fun b => P b ∧ b ≠ w.heap.size ∧ b ≠ w.heap.size + 1) (fun b hb => HP' b (by omega)) AQ 46)
    go_enter Tryz.func110, Tryz.ntmps110
    go_wp2_with (first | ((with_reducible refine wpList_alloc_wz rfl rfl ?_); rw [← hv0]; clear hv0) | (refine wpList_load_row rfl 34 _ rfl (w.heap.size) rfl _ (wc s) (0, 0) _ (by exact T0.X) Tryz.underlying34 rfl (by kernel_rfl) ?_))
    refine HC.out.mono ?_
    rintro e w9 ⟨s9, rfl, A9, hb9⟩
    have T9 := T0.keep hb9
    go_wp2_with (first | (refine wpList_store_row rfl 34 _ _ rfl (w.heap.size + 1) (wc s9) rfl rfl _ _ (by exact T9.Z) (by kernel_rfl) (by kernel_rfl) (by kernel_rfl) ?_))
    have ZF := T9.rowZ s9
    refine bodyPost_ret (v := wv s9) ?_ rfl ⟨s9, rfl, ((A9.row (g := w.heap.size + 1) (fun q => q.2.2 rfl) _).mono (fun b _ q => q.1)), ZF.below⟩
    exact results_cell_row (p := 2) (ty := 34) Tryz.results110 _ _ (w.heap.size + 1) 34 _ (0, 0) _ rfl ZF.Z Tryz.underlying34 rfl (by kernel_rfl)
  rw [if_neg h5]
  have t5 : (k0 == 5) = false := by simp [h5]
  by_cases h6 : k0 = 6
  · subst h6
    rw [if_pos rfl]
    have T0 := Two.start w s
    have AQ := (A.mono (Q := fun b => P b ∧ b ≠ w.heap.size ∧ b ≠ w.heap.size + 1) (fun b hb q => ⟨q, by omega, by omega⟩)).keep T0.below
    obtain ⟨v0, hv0⟩ : ∃ u, u = (w.alloc (.cells (wc s) 34)).alloc (.cells (wc wz) 34) := ⟨_, rfl⟩
    rw [← hv0] at T0 AQ
    have x0 := T0.X.cells
    have z0 := T0.X.frozen
    have HP' : ∀ b, w.heap.size + 1 + 1 ≤ b → (P b ∧ b ≠ w.heap.size ∧ b ≠ w.heap.size + 1) := fun b hb => ⟨hP b (by omega), by omega, by omega⟩
    have lt9 := T0.lt
    have HC := Lib.hid (fAt (P := fun b => P b ∧ b ≠ w.heap.size ∧ b ≠ w.heap.size + 1) (fun b hb => HP' b (by omega)) AQ 60)
    go_enter Tryz.func110, Tryz.ntmps110
    go_wp2_with (first | ((with_reducible refine wpList_alloc_wz rfl rfl ?_); rw [← hv0]; clear hv0) | (refine wpList_load_row rfl 34 _ rfl (w.heap.size) rfl _ (wc s) (0, 0) _ (by exact T0.X) Tryz.underlying34 rfl (by kernel_rfl) ?_))
    refine HC.out.mono ?_
    rintro e w9 ⟨s9, rfl, A9, hb9⟩
    have T9 := T0.keep hb9
    go_wp2_with (first | (refine wpList_store_row rfl 34 _ _ rfl (w.heap.size + 1) (wc s9) rfl rfl _ _ (by exact T9.Z) (by kernel_rfl) (by kernel_rfl) (by kernel_rfl) ?_))
    have ZF := T9.rowZ s9
    refine bodyPost_ret (v := wv s9) ?_ rfl ⟨s9, rfl, ((A9.row (g := w.heap.size + 1) (fun q => q.2.2 rfl) _).mono (fun b _ q => q.1)), ZF.below⟩
    exact results_cell_row (p := 2) (ty := 34) Tryz.results110 _ _ (w.heap.size + 1) 34 _ (0, 0) _ rfl ZF.Z Tryz.underlying34 rfl (by kernel_rfl)
  rw [if_neg h6]
  have t6 : (k0 == 6) = false := by simp [h6]
  clear h4 h5 h6
  have T0 := Two.start w s
  have AQ := (A.mono (Q := fun b => P b ∧ b ≠ w.heap.size ∧ b ≠ w.heap.size + 1) (fun b hb q => ⟨q, by omega, by omega⟩)).keep T0.below
  obtain ⟨v0, hv0⟩ : ∃ u, u = (w.alloc (.cells (wc s) 34)).alloc (.cells (wc wz) 34) := ⟨_, rfl⟩
  rw [← hv0] at T0 AQ
  have x0 := T0.X.cells
  have z0 := T0.X.frozen
  have HP' : ∀ b, w.heap.size + 1 + 1 ≤ b → (P b ∧ b ≠ w.heap.size ∧ b ≠ w.heap.size + 1) := fun b hb => ⟨hP b (by omega), by omega, by omega⟩
  have lt9 := T0.lt
  have HC := Lib.hid (fTake (P := fun b => P b ∧ b ≠ w.heap.size ∧ b ≠ w.heap.size + 1) (fun b hb => HP' b (by omega)) AQ hx)
  go_enter Tryz.func110, Tryz.ntmps110
  go_wp2_with (first | ((with_reducible refine wpList_alloc_wz rfl rfl ?_); rw [← hv0]; clear hv0) | (refine wpList_load_row rfl 34 _ rfl (w.heap.size) rfl _ (wc s) (0, 0) _ (by exact T0.X) Tryz.underlying34 rfl (by kernel_rfl) ?_))
  refine HC.out.mono ?_
  rintro e w9 ⟨s9, rfl, A9, hb9⟩
  have T9 := T0.keep hb9
  go_wp2_with (first | (refine wpList_store_row rfl 34 _ _ rfl (w.heap.size + 1) (wc s9) rfl rfl _ _ (by exact T9.Z) (by kernel_rfl) (by kernel_rfl) (by kernel_rfl) ?_))
  have ZF := T9.rowZ s9
  refine bodyPost_ret (v := wv s9) ?_ rfl ⟨s9, rfl, ((A9.row (g := w.heap.size + 1) (fun q => q.2.2 rfl) _).mono (fun b _ q => q.1)), ZF.below⟩
  exact results_cell_row (p := 2) (ty := 34) Tryz.results110 _ _ (w.heap.size + 1) 34 _ (0, 0) _ rfl ZF.Z Tryz.underlying34 rfl (by kernel_rfl)
set_option maxRecDepth 100000 in
set_option maxHeartbeats 8000000 in
theorem fInside (c : Cfg) {P : Nat → Prop} {w : World} {s : Wk} {x : St} (hP : ∀ b, w.heap.size ≤ b → P b) (A : LiesP P w s x) (hx : Few 900 x) :
    Calls Tryz.prog 126 #[cv c, wv s] w (FW P w (insideS x)) := by
  unfold insideS
  obtain ⟨k0, hk0⟩ : ∃ k, x.p.o0 = k := ⟨_, rfl⟩
  have q1 : (wc s)[1]? = some (.int .i64 k0) := by rw [show (wc s)[1]? = some (.int .i64 s.p.o0) from rfl, A.p, hk0]
  rw [hk0]
  clear hk0
  by_cases h1 : k0 = 1
  · subst h1
    rw [if_pos rfl]
    have f8 : ∀ s : Wk, (wc s)[8]? = some (.bool s.p.pn) := fun _ => rfl
    have f22 : ∀ s : Wk, (wc s)[22]? = some (.int .i64 s.p.br) := fun _ => rfl
    have hbc : Below w.heap.size w (w.alloc (.cells (ccM c) 24)) := (Below.refl _ _).alloc (Nat.le_refl _) _
    have hszc : (w.alloc (.cells (ccM c) 24)).heap.size = w.heap.size + 1 := by simp
    have T0 := Two.startAt hbc s
    rw [hszc] at T0
    have AQ := (A.mono (Q := fun b => P b ∧ b ≠ w.heap.size + 1 ∧ b ≠ w.heap.size + 1 + 1) (fun b hb q => ⟨q, by omega, by omega⟩)).keep T0.below
    obtain ⟨v0, hv0⟩ : ∃ u, u = ((w.alloc (.cells (ccM c) 24)).alloc (.cells (wc s) 34)).alloc (.cells (wc wz) 34) := ⟨_, rfl⟩
    rw [← hv0] at T0 AQ
    have x0 := T0.X.cells
    have z0 := T0.X.frozen
    have e101 := by have h := T0.X.cells 8; exact congrArg Option.isSome (h.trans (f8 _))
    simp only [Option.isSome_some] at e101
    have T1 := T0.setX 8 (.bool true) ({ s with p := { s.p with pn := true } } : Wk) rfl
    have AQ10 := AQ.cell (g := w.heap.size + 1) (fun q => q.2.1 rfl) 8 (.bool true)
    have e102 := by have h := T1.X.cells 22; exact congrArg Option.isSome (h.trans (f22 _))
    simp only [Option.isSome_some] at e102
    have T2 := T1.setX 22 (.int .i64 0) ({ s with p := { s.p with pn := true, br := 0 } } : Wk) rfl
    have AQ20 := AQ10.cell (g := w.heap.size + 1) (fun q => q.2.1 rfl) 22 (.int .i64 0)
    have HP' : ∀ b, w.heap.size + 1 + 1 + 1 ≤ b → (P b ∧ b ≠ w.heap.size + 1 ∧ b ≠ w.heap.size + 1 + 1) := fun b hb => ⟨hP b (by omega), by omega, by omega⟩
    have lt9 := T2.lt
    have HC := Lib.hid (fAt (P := fun b => P b ∧ b ≠ w.heap.size + 1 ∧ b ≠ w.heap.size + 1 + 1) (fun b hb => HP' b (by omega)) (AQ20.pl (p := { s.p with pn := true, br := 0 }) (p' := { x.p with pn := true, br := 0 }) (by rw [AQ20.p])) 0)
    go_enter Tryz.func126, Tryz.ntmps126
    go_wp2_with (first | ((with_reducible refine wpList_alloc_wz rfl rfl ?_); rw [← hv0]; clear hv0) | (refine wpList_load_row rfl 34 _ rfl (w.heap.size + 1) rfl _ (wc ({ s with p := { s.p with pn := true, br := 0 } } : Wk)) (0, 0) _ (by exact T2.X) Tryz.underlying34 rfl (by kernel_rfl) ?_))
    refine HC.out.mono ?_
    rintro e w9 ⟨s9, rfl, A9, hb9⟩
    have T9 := T2.keep hb9
    go_wp2_with (first | (refine wpList_store_row rfl 34 _ _ rfl (w.heap.size + 1 + 1) (wc s9) rfl rfl _ _ (by exact T9.Z) (by kernel_rfl) (by kernel_rfl) (by kernel_rfl) ?_))
    have ZF := T9.rowZ s9
    refine bodyPost_ret (v := wv s9) ?_ rfl ⟨s9, rfl, ((A9.row (g := w.heap.size + 1 + 1) (fun q => q.2.2 rfl) _).mono (fun b _ q => q.1)), ZF.below⟩
    exact results_cell_row (p := 4) (ty := 34) Tryz.results126 _ _ (w.heap.size + 1 + 1) 34 _ (0, 0) _ rfl ZF.Z Tryz.underlying34 rfl (by kernel_rfl)
  rw [if_neg h1]
  have t1 : (k0 != 1) = true := by simp [h1]
  clear h1
  have hbc : Below w.heap.size w (w.alloc (.cells (ccM c) 24)) := (Below.refl _ _).alloc (Nat.le_refl _) _
  have hszc : (w.alloc (.cells (ccM c) 24)).heap.size = w.heap.size + 1 := by simp
  have T0 := Two.startAt hbc s
  rw [hszc] at T0
  have AQ := (A.mono (Q := fun b => P b ∧ b ≠ w.heap.size + 1 ∧ b ≠ w.heap.size + 1 + 1) (fun b hb q => ⟨q, by omega, by omega⟩)).keep T0.below
  obtain ⟨v0, hv0⟩ : ∃ u, u = ((w.alloc (.cells (ccM c) 24)).alloc (.cells (wc s) 34)).alloc (.cells (wc wz) 34) := ⟨_, rfl⟩
  rw [← hv0] at T0 AQ
  have x0 := T0.X.cells
  have z0 := T0.X.frozen
  have HP' : ∀ b, w.heap.size + 1 + 1 + 1 ≤ b → (P b ∧ b ≠ w.heap.size + 1 ∧ b ≠ w.heap.size + 1 + 1) := fun b hb => ⟨hP b (by omega), by omega, by omega⟩
  have lt9 := T0.lt
  have HC := Lib.hid (fBody (P := fun b => P b ∧ b ≠ w.heap.size + 1 ∧ b ≠ w.heap.size + 1 + 1) (fun b hb => HP' b (by omega)) AQ hx)
  go_enter Tryz.func126, Tryz.ntmps126
  go_wp2_with (first | ((with_reducible refine wpList_alloc_wz rfl rfl ?_); rw [← hv0]; clear hv0) | (refine wpList_load_row rfl 34 _ rfl (w.heap.size + 1) rfl _ (wc s) (0, 0) _ (by exact T0.X) Tryz.underlying34 rfl (by kernel_rfl) ?_))
  refine HC.out.mono ?_
  rintro e w9 ⟨s9, rfl, A9, hb9⟩
  have T9 := T0.keep hb9
  go_wp2_with (first | (refine wpList_store_row rfl 34 _ _ rfl (w.heap.size + 1 + 1) (wc s9) rfl rfl _ _ (by exact T9.Z) (by kernel_rfl) (by kernel_rfl) (by kernel_rfl) ?_))
  have ZF := T9.rowZ s9
  refine bodyPost_ret (v := wv s9) ?_ rfl ⟨s9, rfl, ((A9.row (g := w.heap.size + 1 + 1) (fun q => q.2.2 rfl) _).mono (fun b _ q => q.1)), ZF.below⟩
  exact results_cell_row (p := 4) (ty := 34) Tryz.results126 _ _ (w.heap.size + 1 + 1) 34 _ (0, 0) _ rfl ZF.Z Tryz.underlying34 rfl (by kernel_rfl)
set_option maxRecDepth 100000 in
set_option maxHeartbeats 8000000 in
theorem fOutside (c : Cfg) {P : Nat → Prop} {w : World} {s : Wk} {x : St} (hP : ∀ b, w.heap.size ≤ b → P b) (A : LiesP P w s x) :
    Calls Tryz.prog 127 #[cv c, wv s] w (FW P w (outsideS x)) := by
  unfold outsideS
  obtain ⟨k0, hk0⟩ : ∃ k, x.p.o0 = k := ⟨_, rfl⟩
  have q1 : (wc s)[1]? = some (.int .i64 k0) := by rw [show (wc s)[1]? = some (.int .i64 s.p.o0) from rfl, A.p, hk0]
  rw [hk0]
  clear hk0
  by_cases h1 : k0 = 2
  · subst h1
    rw [if_pos rfl]
    have f8 : ∀ s : Wk, (wc s)[8]? = some (.bool s.p.pn) := fun _ => rfl
    have f22 : ∀ s : Wk, (wc s)[22]? = some (.int .i64 s.p.br) := fun _ => rfl
    have hbc : Below w.heap.size w (w.alloc (.cells (ccM c) 24)) := (Below.refl _ _).alloc (Nat.le_refl _) _
    have hszc : (w.alloc (.cells (ccM c) 24)).heap.size = w.heap.size + 1 := by simp
    have T0 := Two.startAt hbc s
    rw [hszc] at T0
    have AQ := (A.mono (Q := fun b => P b ∧ b ≠ w.heap.size + 1 ∧ b ≠ w.heap.size + 1 + 1) (fun b hb q => ⟨q, by omega, by omega⟩)).keep T0.below
    obtain ⟨v0, hv0⟩ : ∃ u, u = ((w.alloc (.cells (ccM c) 24)).alloc (.cells (wc s) 34)).alloc (.cells (wc wz) 34) := ⟨_, rfl⟩
    rw [← hv0] at T0 AQ
    have x0 := T0.X.cells
    have z0 := T0.X.frozen
    have e101 := by have h := T0.X.cells 8; exact congrArg Option.isSome (h.trans (f8 _))
    simp only [Option.isSome_some] at e101
    have T1 := T0.setX 8 (.bool false) ({ s with p := { s.p with pn := false } } : Wk) rfl
    have AQ10 := AQ.cell (g := w.heap.size + 1) (fun q => q.2.1 rfl) 8 (.bool false)
    have e102 := by have h := T1.X.cells 22; exact congrArg Option.isSome (h.trans (f22 _))
    simp only [Option.isSome_some] at e102
    have T2 := T1.setX 22 (.int .i64 0) ({ s with p := { s.p with pn := false, br := 0 } } : Wk) rfl
    have AQ20 := AQ10.cell (g := w.heap.size + 1) (fun q => q.2.1 rfl) 22 (.int .i64 0)
    have HP' : ∀ b, w.heap.size + 1 + 1 + 1 ≤ b → (P b ∧ b ≠ w.heap.size + 1 ∧ b ≠ w.heap.size + 1 + 1) := fun b hb => ⟨hP b (by omega), by omega, by omega⟩
    have lt9 := T2.lt
    have HC := Lib.hid (fAt (P := fun b => P b ∧ b ≠ w.heap.size + 1 ∧ b ≠ w.heap.size + 1 + 1) (fun b hb => HP' b (by omega)) (AQ20.pl (p := { s.p with pn := false, br := 0 }) (p' := { x.p with pn := false, br := 0 }) (by rw [AQ20.p])) 0)
    go_enter Tryz.func127, Tryz.ntmps127
    go_wp2_with (first | ((with_reducible refine wpList_alloc_wz rfl rfl ?_); rw [← hv0]; clear hv0) | (refine wpList_load_row rfl 34 _ rfl (w.heap.size + 1) rfl _ (wc ({ s with p := { s.p with pn := false, br := 0 } } : Wk)) (0, 0) _ (by exact T2.X) Tryz.underlying34 rfl (by kernel_rfl) ?_))
    refine HC.out.mono ?_
    rintro e w9 ⟨s9, rfl, A9, hb9⟩
    have T9 := T2.keep hb9
    go_wp2_with (first | (refine wpList_store_row rfl 34 _ _ rfl (w.heap.size + 1 + 1) (wc s9) rfl rfl _ _ (by exact T9.Z) (by kernel_rfl) (by kernel_rfl) (by kernel_rfl) ?_))
    have ZF := T9.rowZ s9
    refine bodyPost_ret (v := wv s9) ?_ rfl ⟨s9, rfl, ((A9.row (g := w.heap.size + 1 + 1) (fun q => q.2.2 rfl) _).mono (fun b _ q => q.1)), ZF.below⟩
    exact results_cell_row (p := 4) (ty := 34) Tryz.results127 _ _ (w.heap.size + 1 + 1) 34 _ (0, 0) _ rfl ZF.Z Tryz.underlying34 rfl (by kernel_rfl)
  rw [if_neg h1]
  have t1 : (k0 == 2) = false := by simp [h1]
  clear h1
  have hbc : Below w.heap.size w (w.alloc (.cells (ccM c) 24)) := (Below.refl _ _).alloc (Nat.le_refl _) _
  have hszc : (w.alloc (.cells (ccM c) 24)).heap.size = w.heap.size + 1 := by simp
  have T0 := Two.startAt hbc s
  rw [hszc] at T0
  have AQ := (A.mono (Q := fun b => P b ∧ b ≠ w.heap.size + 1 ∧ b ≠ w.heap.size + 1 + 1) (fun b hb q => ⟨q, by omega, by omega⟩)).keep T0.below
  obtain ⟨v0, hv0⟩ : ∃ u, u = ((w.alloc (.cells (ccM c) 24)).alloc (.cells (wc s) 34)).alloc (.cells (wc wz) 34) := ⟨_, rfl⟩
  rw [← hv0] at T0 AQ
  have x0 := T0.X.cells
  have z0 := T0.X.frozen
  have HP' : ∀ b, w.heap.size + 1 + 1 + 1 ≤ b → (P b ∧ b ≠ w.heap.size + 1 ∧ b ≠ w.heap.size + 1 + 1) := fun b hb => ⟨hP b (by omega), by omega, by omega⟩
  have lt9 := T0.lt
  have HC := Lib.hid (fAt (P := fun b => P b ∧ b ≠ w.heap.size + 1 ∧ b ≠ w.heap.size + 1 + 1) (fun b hb => HP' b (by omega)) AQ 0)
  go_enter Tryz.func127, Tryz.ntmps127
  go_wp2_with (first | ((with_reducible refine wpList_alloc_wz rfl rfl ?_); rw [← hv0]; clear hv0) | (refine wpList_load_row rfl 34 _ rfl (w.heap.size + 1) rfl _ (wc s) (0, 0) _ (by exact T0.X) Tryz.underlying34 rfl (by kernel_rfl) ?_))
  refine HC.out.mono ?_
  rintro e w9 ⟨s9, rfl, A9, hb9⟩
  have T9 := T0.keep hb9
  go_wp2_with (first | (refine wpList_store_row rfl 34 _ _ rfl (w.heap.size + 1 + 1) (wc s9) rfl rfl _ _ (by exact T9.Z) (by kernel_rfl) (by kernel_rfl) (by kernel_rfl) ?_))
  have ZF := T9.rowZ s9
  refine bodyPost_ret (v := wv s9) ?_ rfl ⟨s9, rfl, ((A9.row (g := w.heap.size + 1 + 1) (fun q => q.2.2 rfl) _).mono (fun b _ q => q.1)), ZF.below⟩
  exact results_cell_row (p := 4) (ty := 34) Tryz.results127 _ _ (w.heap.size + 1 + 1) 34 _ (0, 0) _ rfl ZF.Z Tryz.underlying34 rfl (by kernel_rfl)
set_option maxRecDepth 100000 in
set_option maxHeartbeats 8000000 in
theorem fFilled (c : Cfg) {P : Nat → Prop} {w : World} {s : Wk} {x : St} (hP : ∀ b, w.heap.size ≤ b → P b) (A : LiesP P w s x) :
    Calls Tryz.prog 147 #[cv c, wv s] w (FW P w (filledS x)) := by
  unfold filledS
  obtain ⟨k0, hk0⟩ : ∃ k, x.p.o0 = k := ⟨_, rfl⟩
  have q1 : (wc s)[1]? = some (.int .i64 k0) := by rw [show (wc s)[1]? = some (.int .i64 s.p.o0) from rfl, A.p, hk0]
  rw [hk0]
  clear hk0
  by_cases h1 : k0 = 5
  · subst h1
    rw [if_pos rfl]
    have hbc : Below w.heap.size w (w.alloc (.cells (ccM c) 24)) := (Below.refl _ _).alloc (Nat.le_refl _) _
    have hszc : (w.alloc (.cells (ccM c) 24)).heap.size = w.heap.size + 1 := by simp
    have T0 := Two.startAt hbc s
    rw [hszc] at T0
    have AQ := (A.mono (Q := fun b => P b ∧ b ≠ w.heap.size + 1 ∧ b ≠ w.heap.size + 1 + 1) (fun b hb q => ⟨q, by omega, by omega⟩)).keep T0.below
    obtain ⟨v0, hv0⟩ : ∃ u, u = ((w.alloc (.cells (ccM c) 24)).alloc (.cells (wc s) 34)).alloc (.cells (wc wz) 34) := ⟨_, rfl⟩
    rw [← hv0] at T0 AQ
    have x0 := T0.X.cells
    have z0 := T0.X.frozen
    have HP' : ∀ b, w.heap.size + 1 + 1 + 1 ≤ b → (P b ∧ b ≠ w.heap.size + 1 ∧ b ≠ w.heap.size + 1 + 1) := fun b hb => ⟨hP b (by omega), by omega, by omega⟩
    have lt9 := T0.lt
    have HC := Lib.hid (fAt (P := fun b => P b ∧ b ≠ w.heap.size + 1 ∧ b ≠ w.heap.size + 1 + 1) (fun b hb => HP' b (by omega)) AQ 44)
    go_enter Tryz.func147, Tryz.ntmps147
    go_wp2_with (first | ((with_reducible refine wpList_alloc_wz rfl rfl ?_); rw [← hv0]; clear hv0) | (refine wpList_load_row rfl 34 _ rfl (w.heap.size + 1) rfl _ (wc s) (0, 0) _ (by exact T0.X) Tryz.underlying34 rfl (by kernel_rfl) ?_))
    refine HC.out.mono ?_
    rintro e w9 ⟨s9, rfl, A9, hb9⟩
    have T9 := T0.keep hb9
    go_wp2_with (first | (refine wpList_store_row rfl 34 _ _ rfl (w.heap.size + 1 + 1) (wc s9) rfl rfl _ _ (by exact T9.Z) (by kernel_rfl) (by kernel_rfl) (by kernel_rfl) ?_))
    have ZF := T9.rowZ s9
    refine bodyPost_ret (v := wv s9) ?_ rfl ⟨s9, rfl, ((A9.row (g := w.heap.size + 1 + 1) (fun q => q.2.2 rfl) _).mono (fun b _ q => q.1)), ZF.below⟩
    exact results_cell_row (p := 4) (ty := 34) Tryz.results147 _ _ (w.heap.size + 1 + 1) 34 _ (0, 0) _ rfl ZF.Z Tryz.underlying34 rfl (by kernel_rfl)
  rw [if_neg h1]
  have t1 : (k0 == 5) = false := by simp [h1]
  clear h1
  have hbc : Below w.heap.size w (w.alloc (.cells (ccM c) 24)) := (Below.refl _ _).alloc (Nat.le_refl _) _
  have hszc : (w.alloc (.cells (ccM c) 24)).heap.size = w.heap.size + 1 := by simp
  have T0 := Two.startAt hbc s
  rw [hszc] at T0
  have AQ := (A.mono (Q := fun b => P b ∧ b ≠ w.heap.size + 1 ∧ b ≠ w.heap.size + 1 + 1) (fun b hb q => ⟨q, by omega, by omega⟩)).keep T0.below
  obtain ⟨v0, hv0⟩ : ∃ u, u = ((w.alloc (.cells (ccM c) 24)).alloc (.cells (wc s) 34)).alloc (.cells (wc wz) 34) := ⟨_, rfl⟩
  rw [← hv0] at T0 AQ
  have x0 := T0.X.cells
  have z0 := T0.X.frozen
  have HP' : ∀ b, w.heap.size + 1 + 1 + 1 ≤ b → (P b ∧ b ≠ w.heap.size + 1 ∧ b ≠ w.heap.size + 1 + 1) := fun b hb => ⟨hP b (by omega), by omega, by omega⟩
  have lt9 := T0.lt
  have HC := Lib.hid (fAt (P := fun b => P b ∧ b ≠ w.heap.size + 1 ∧ b ≠ w.heap.size + 1 + 1) (fun b hb => HP' b (by omega)) AQ 20)
  go_enter Tryz.func147, Tryz.ntmps147
  go_wp2_with (first | ((with_reducible refine wpList_alloc_wz rfl rfl ?_); rw [← hv0]; clear hv0) | (refine wpList_load_row rfl 34 _ rfl (w.heap.size + 1) rfl _ (wc s) (0, 0) _ (by exact T0.X) Tryz.underlying34 rfl (by kernel_rfl) ?_))
  refine HC.out.mono ?_
  rintro e w9 ⟨s9, rfl, A9, hb9⟩
  have T9 := T0.keep hb9
  go_wp2_with (first | (refine wpList_store_row rfl 34 _ _ rfl (w.heap.size + 1 + 1) (wc s9) rfl rfl _ _ (by exact T9.Z) (by kernel_rfl) (by kernel_rfl) (by kernel_rfl) ?_))
  have ZF := T9.rowZ s9
  refine bodyPost_ret (v := wv s9) ?_ rfl ⟨s9, rfl, ((A9.row (g := w.heap.size + 1 + 1) (fun q => q.2.2 rfl) _).mono (fun b _ q => q.1)), ZF.below⟩
  exact results_cell_row (p := 4) (ty := 34) Tryz.results147 _ _ (w.heap.size + 1 + 1) 34 _ (0, 0) _ rfl ZF.Z Tryz.underlying34 rfl (by kernel_rfl)
set_option maxRecDepth 100000 in
set_option maxHeartbeats 8000000 in
theorem fFirst (c : Cfg) {P : Nat → Prop} {w : World} {s : Wk} {x : St} (hP : ∀ b, w.heap.size ≤ b → P b) (A : LiesP P w s x) {a : Nat} {n : Int} (K : Bk w a #[.int .i64 n] 3) :
    Calls Tryz.prog 162 #[cv c, wv s, .pointer (some ⟨a, 0, none⟩)] w (FW P w (firstS n x)) := by
  have la := K.lt
  have f28 : ∀ s : Wk, (wc s)[28]? = some (.int .i64 s.p.j) := fun _ => rfl
  have hbc : Below w.heap.size w (w.alloc (.cells (ccM c) 24)) := (Below.refl _ _).alloc (Nat.le_refl _) _
  have hszc : (w.alloc (.cells (ccM c) 24)).heap.size = w.heap.size + 1 := by simp
  have T0 := Two.startAt hbc s
  rw [hszc] at T0
  have AQ := (A.mono (Q := fun b => P b ∧ b ≠ w.heap.size + 1 ∧ b ≠ w.heap.size + 1 + 1) (fun b hb q => ⟨q, by omega, by omega⟩)).keep T0.below
  obtain ⟨v0, hv0⟩ : ∃ u, u = ((w.alloc (.cells (ccM c) 24)).alloc (.cells (wc s) 34)).alloc (.cells (wc wz) 34) := ⟨_, rfl⟩
  rw [← hv0] at T0 AQ
  have x0 := T0.X.cells
  have z0 := T0.X.frozen
  have e101 := by have h := T0.X.cells 28; exact congrArg Option.isSome (h.trans (f28 _))
  simp only [Option.isSome_some] at e101
  have T1 := T0.setX 28 (.int .i64 0) ({ s with p := { s.p with j := 0 } } : Wk) rfl
  have AQ10 := AQ.cell (g := w.heap.size + 1) (fun q => q.2.1 rfl) 28 (.int .i64 0)
  have ka := (K.keep T1.below).cells
  have HP' : ∀ b, w.heap.size + 1 + 1 + 1 ≤ b → (P b ∧ b ≠ w.heap.size + 1 ∧ b ≠ w.heap.size + 1 + 1) := fun b hb => ⟨hP b (by omega), by omega, by omega⟩
  have lt9 := T1.lt
  have HC := Lib.hid (fAt (P := fun b => P b ∧ b ≠ w.heap.size + 1 ∧ b ≠ w.heap.size + 1 + 1) (fun b hb => HP' b (by omega)) (AQ10.pl (p := { s.p with j := 0 }) (p' := { x.p with j := 0 }) (by rw [AQ10.p])) n)
  go_enter Tryz.func162, Tryz.ntmps162
  go_wp2_with (first | ((with_reducible refine wpList_alloc_wz rfl rfl ?_); rw [← hv0]; clear hv0) | (refine wpList_load_row rfl 34 _ rfl (w.heap.size + 1) rfl _ (wc ({ s with p := { s.p with j := 0 } } : Wk)) (0, 0) _ (by exact T1.X) Tryz.underlying34 rfl (by kernel_rfl) ?_))
  refine HC.out.mono ?_
  rintro e w9 ⟨s9, rfl, A9, hb9⟩
  have T9 := T1.keep hb9
  go_wp2_with (first | (refine wpList_store_row rfl 34 _ _ rfl (w.heap.size + 1 + 1) (wc s9) rfl rfl _ _ (by exact T9.Z) (by kernel_rfl) (by kernel_rfl) (by kernel_rfl) ?_))
  have ZF := T9.rowZ s9
  refine bodyPost_ret (v := wv s9) ?_ rfl ⟨s9, rfl, ((A9.row (g := w.heap.size + 1 + 1) (fun q => q.2.2 rfl) _).mono (fun b _ q => q.1)), ZF.below⟩
  exact results_cell_row (p := 5) (ty := 34) Tryz.results162 _ _ (w.heap.size + 1 + 1) 34 _ (0, 0) _ rfl ZF.Z Tryz.underlying34 rfl (by kernel_rfl)
end Go.Proofs.YtgpdkagmacpghaaGreat.Me

/- oper.shapes, Asks and Shares (made by genshapes.py). -/
namespace Go.Proofs.YtgpdkagmacpghaaGreat.Me
open Go Go.RowKit Go.ChangeMaps Go.Proofs.YtgpdkagmacpghaaGreat.Gro Go.Proofs.YtgpdkagmacpghaaGreat.Own Go.Proofs.YtgpdkagmacpghaaGreat.Wd Go.Proofs.YtgpdkagmacpghaaGreat.Ap Go.Proofs.YtgpdkagmacpghaaGreat.Pl Go.Proofs.YtgpdkagmacpghaaGreat.Wo Go.Proofs.YtgpdkagmacpghaaGreat.Mr
set_option linter.unusedVariables false
set_option linter.unusedSimpArgs false
section
variable {κ : Type} [DecidableEq κ]
variable {P : Program} {ops : Array Oper} {rest : List Oper} {o : Oper} {a : Act} {w : World} {Q : Exit → Act → World → Prop} {t kt et : TypeId} {val : κ → Value} {b : Nat} {L : List (κ × Value)}
theorem wpList_ins (hw : Region.wanted o (yielded ops a.tmps) = true) (m x v : Operand) (ho : o.op = .insert t m x v) (K : Keys P kt val) (ht : P.underlying t = some (.map kt et))
    (b : Nat) (L : List (κ × Value)) (hm : a.eval m = .map (some b)) (k : κ) (hx : a.eval x = val k) (y : Value) (hv : a.eval v = y) (h : MapAt w b val L)
    (hn : ∀ w', MapAt w' b val (upd k y L) → Only b w w' → wpList P ops Q rest (a.put o.dst undef) w') : wpList P ops Q (o :: rest) a w :=
  wpList_step fun Kc hK => by
    rw [if_pos hw]
    obtain ⟨es', c', hr, hL⟩ := run_upd K ht h k y
    unfold Oper.wp
    simp [execOp, ho, hm, hx, hv, hr, Result.andThen]
    have h1 := mapAt_set (c' := c') h hL
    obtain ⟨es, clock, hb, _⟩ := h
    exact hK _ _ (hn _ h1 (Only.of_set hb _))
end
def shV (n : ByteArray) (t nu sl sr : Bool) : Value := .agg #[.string n, .bool t, .bool nu, .bool sl, .bool sr]
def shapesL : List (Int × Value) := [(1, shV ⟨#[112, 105, 110]⟩ false false false false), (2, shV ⟨#[117, 110, 112, 105, 110]⟩ false false false false), (7, shV ⟨#[112, 101, 101, 107]⟩ false false false false), (8, shV ⟨#[99, 111, 108, 108, 101, 99, 116]⟩ false false false false), (3, shV ⟨#[97, 108, 108, 111, 99]⟩ false true false true), (4, shV ⟨#[102, 114, 101, 101]⟩ true false false true), (6, shV ⟨#[100, 101, 114, 101, 102]⟩ true false false true), (5, shV ⟨#[119, 114, 105, 116, 101]⟩ true true false true), (9, shV ⟨#[100, 114, 97, 105, 110]⟩ false false true false)]
theorem b_pin (w : World) : (Instr.build 133 #[(0, .string ⟨#[112, 105, 110]⟩)]).run Tryz.prog w = .ok (shV ⟨#[112, 105, 110]⟩ false false false false) w := run_build w _ _ _ (by kernel_rfl)
theorem b_unpin (w : World) : (Instr.build 133 #[(0, .string ⟨#[117, 110, 112, 105, 110]⟩)]).run Tryz.prog w = .ok (shV ⟨#[117, 110, 112, 105, 110]⟩ false false false false) w := run_build w _ _ _ (by kernel_rfl)
theorem b_peek (w : World) : (Instr.build 133 #[(0, .string ⟨#[112, 101, 101, 107]⟩)]).run Tryz.prog w = .ok (shV ⟨#[112, 101, 101, 107]⟩ false false false false) w := run_build w _ _ _ (by kernel_rfl)
theorem b_collect (w : World) : (Instr.build 133 #[(0, .string ⟨#[99, 111, 108, 108, 101, 99, 116]⟩)]).run Tryz.prog w = .ok (shV ⟨#[99, 111, 108, 108, 101, 99, 116]⟩ false false false false) w := run_build w _ _ _ (by kernel_rfl)
theorem b_alloc (w : World) : (Instr.build 133 #[(0, .string ⟨#[97, 108, 108, 111, 99]⟩), (2, .bool true), (4, .bool true)]).run Tryz.prog w = .ok (shV ⟨#[97, 108, 108, 111, 99]⟩ false true false true) w := run_build w _ _ _ (by kernel_rfl)
theorem b_free (w : World) : (Instr.build 133 #[(0, .string ⟨#[102, 114, 101, 101]⟩), (1, .bool true), (4, .bool true)]).run Tryz.prog w = .ok (shV ⟨#[102, 114, 101, 101]⟩ true false false true) w := run_build w _ _ _ (by kernel_rfl)
theorem b_deref (w : World) : (Instr.build 133 #[(0, .string ⟨#[100, 101, 114, 101, 102]⟩), (1, .bool true), (4, .bool true)]).run Tryz.prog w = .ok (shV ⟨#[100, 101, 114, 101, 102]⟩ true false false true) w := run_build w _ _ _ (by kernel_rfl)
theorem b_write (w : World) : (Instr.build 133 #[(0, .string ⟨#[119, 114, 105, 116, 101]⟩), (1, .bool true), (2, .bool true), (4, .bool true)]).run Tryz.prog w = .ok (shV ⟨#[119, 114, 105, 116, 101]⟩ true true false true) w := run_build w _ _ _ (by kernel_rfl)
theorem b_drain (w : World) : (Instr.build 133 #[(0, .string ⟨#[100, 114, 97, 105, 110]⟩), (3, .bool true)]).run Tryz.prog w = .ok (shV ⟨#[100, 114, 97, 105, 110]⟩ false false true false) w := run_build w _ _ _ (by kernel_rfl)
set_option maxRecDepth 100000 in
set_option maxHeartbeats 8000000 in
theorem shapes (w : World) : Calls Tryz.prog 79 #[] w fun e w' => ∃ b, e = .returned (.map (some b)) ∧ MapAt w' b iV shapesL ∧ w.heap.size ≤ b ∧ Below w.heap.size w w' := by
  have hmm := @run_makeMap Tryz.prog
  have M0 : MapAt (w.alloc (.map #[] 0)) w.heap.size iV [] := (MapB.new w).at
  have hb0 : Below w.heap.size w (w.alloc (.map #[] 0)) := (Below.refl _ _).alloc (Nat.le_refl _) _
  have h_pin := b_pin
  have h_unpin := b_unpin
  have h_peek := b_peek
  have h_collect := b_collect
  have h_alloc := b_alloc
  have h_free := b_free
  have h_deref := b_deref
  have h_write := b_write
  have h_drain := b_drain
  go_enter Tryz.func79, Tryz.ntmps79
  go_wp2_with (first | (refine wpList_ins rfl _ _ _ rfl keysI Tryz.underlying134 w.heap.size ([]) rfl (1 : Int) rfl (shV ⟨#[112, 105, 110]⟩ false false false false) rfl (by exact M0) ?_; intro w1 M1 O1; have hb1 := hb0.trans ((O1.below (B := w.heap.size) (Nat.le_refl _))); clear M0 O1 hb0) | (refine wpList_ins rfl _ _ _ rfl keysI Tryz.underlying134 w.heap.size ([(1, shV ⟨#[112, 105, 110]⟩ false false false false)]) rfl (2 : Int) rfl (shV ⟨#[117, 110, 112, 105, 110]⟩ false false false false) rfl (by exact M1) ?_; intro w2 M2 O2; have hb2 := hb1.trans ((O2.below (B := w.heap.size) (Nat.le_refl _))); clear M1 O2 hb1) | (refine wpList_ins rfl _ _ _ rfl keysI Tryz.underlying134 w.heap.size ([(1, shV ⟨#[112, 105, 110]⟩ false false false false), (2, shV ⟨#[117, 110, 112, 105, 110]⟩ false false false false)]) rfl (7 : Int) rfl (shV ⟨#[112, 101, 101, 107]⟩ false false false false) rfl (by exact M2) ?_; intro w3 M3 O3; have hb3 := hb2.trans ((O3.below (B := w.heap.size) (Nat.le_refl _))); clear M2 O3 hb2) | (refine wpList_ins rfl _ _ _ rfl keysI Tryz.underlying134 w.heap.size ([(1, shV ⟨#[112, 105, 110]⟩ false false false false), (2, shV ⟨#[117, 110, 112, 105, 110]⟩ false false false false), (7, shV ⟨#[112, 101, 101, 107]⟩ false false false false)]) rfl (8 : Int) rfl (shV ⟨#[99, 111, 108, 108, 101, 99, 116]⟩ false false false false) rfl (by exact M3) ?_; intro w4 M4 O4; have hb4 := hb3.trans ((O4.below (B := w.heap.size) (Nat.le_refl _))); clear M3 O4 hb3) | (refine wpList_ins rfl _ _ _ rfl keysI Tryz.underlying134 w.heap.size ([(1, shV ⟨#[112, 105, 110]⟩ false false false false), (2, shV ⟨#[117, 110, 112, 105, 110]⟩ false false false false), (7, shV ⟨#[112, 101, 101, 107]⟩ false false false false), (8, shV ⟨#[99, 111, 108, 108, 101, 99, 116]⟩ false false false false)]) rfl (3 : Int) rfl (shV ⟨#[97, 108, 108, 111, 99]⟩ false true false true) rfl (by exact M4) ?_; intro w5 M5 O5; have hb5 := hb4.trans ((O5.below (B := w.heap.size) (Nat.le_refl _))); clear M4 O5 hb4) | (refine wpList_ins rfl _ _ _ rfl keysI Tryz.underlying134 w.heap.size ([(1, shV ⟨#[112, 105, 110]⟩ false false false false), (2, shV ⟨#[117, 110, 112, 105, 110]⟩ false false false false), (7, shV ⟨#[112, 101, 101, 107]⟩ false false false false), (8, shV ⟨#[99, 111, 108, 108, 101, 99, 116]⟩ false false false false), (3, shV ⟨#[97, 108, 108, 111, 99]⟩ false true false true)]) rfl (4 : Int) rfl (shV ⟨#[102, 114, 101, 101]⟩ true false false true) rfl (by exact M5) ?_; intro w6 M6 O6; have hb6 := hb5.trans ((O6.below (B := w.heap.size) (Nat.le_refl _))); clear M5 O6 hb5) | (refine wpList_ins rfl _ _ _ rfl keysI Tryz.underlying134 w.heap.size ([(1, shV ⟨#[112, 105, 110]⟩ false false false false), (2, shV ⟨#[117, 110, 112, 105, 110]⟩ false false false false), (7, shV ⟨#[112, 101, 101, 107]⟩ false false false false), (8, shV ⟨#[99, 111, 108, 108, 101, 99, 116]⟩ false false false false), (3, shV ⟨#[97, 108, 108, 111, 99]⟩ false true false true), (4, shV ⟨#[102, 114, 101, 101]⟩ true false false true)]) rfl (6 : Int) rfl (shV ⟨#[100, 101, 114, 101, 102]⟩ true false false true) rfl (by exact M6) ?_; intro w7 M7 O7; have hb7 := hb6.trans ((O7.below (B := w.heap.size) (Nat.le_refl _))); clear M6 O7 hb6) | (refine wpList_ins rfl _ _ _ rfl keysI Tryz.underlying134 w.heap.size ([(1, shV ⟨#[112, 105, 110]⟩ false false false false), (2, shV ⟨#[117, 110, 112, 105, 110]⟩ false false false false), (7, shV ⟨#[112, 101, 101, 107]⟩ false false false false), (8, shV ⟨#[99, 111, 108, 108, 101, 99, 116]⟩ false false false false), (3, shV ⟨#[97, 108, 108, 111, 99]⟩ false true false true), (4, shV ⟨#[102, 114, 101, 101]⟩ true false false true), (6, shV ⟨#[100, 101, 114, 101, 102]⟩ true false false true)]) rfl (5 : Int) rfl (shV ⟨#[119, 114, 105, 116, 101]⟩ true true false true) rfl (by exact M7) ?_; intro w8 M8 O8; have hb8 := hb7.trans ((O8.below (B := w.heap.size) (Nat.le_refl _))); clear M7 O8 hb7) | (refine wpList_ins rfl _ _ _ rfl keysI Tryz.underlying134 w.heap.size ([(1, shV ⟨#[112, 105, 110]⟩ false false false false), (2, shV ⟨#[117, 110, 112, 105, 110]⟩ false false false false), (7, shV ⟨#[112, 101, 101, 107]⟩ false false false false), (8, shV ⟨#[99, 111, 108, 108, 101, 99, 116]⟩ false false false false), (3, shV ⟨#[97, 108, 108, 111, 99]⟩ false true false true), (4, shV ⟨#[102, 114, 101, 101]⟩ true false false true), (6, shV ⟨#[100, 101, 114, 101, 102]⟩ true false false true), (5, shV ⟨#[119, 114, 105, 116, 101]⟩ true true false true)]) rfl (9 : Int) rfl (shV ⟨#[100, 114, 97, 105, 110]⟩ false false true false) rfl (by exact M8) ?_; intro w9 M9 O9; have hb9 := hb8.trans ((O9.below (B := w.heap.size) (Nat.le_refl _))); clear M8 O9 hb8))
  go_ret
  exact ⟨_, rfl, M9, Nat.le_refl _, hb9⟩
theorem zero_sh (w : World) : (zeroValue 133).run Tryz.prog w = .ok (shV ⟨#[]⟩ false false false false) w := by kernel_rfl
theorem shapes_look (k : Int) : ∃ n nu sl, (Mr.look k shapesL).getD (shV ⟨#[]⟩ false false false false) = shV n (asksB k) nu sl (sharesB k) := by
  unfold shapesL asksB sharesB
  simp only [Mr.look]
  by_cases h1 : k = 1
  · subst h1
    exact ⟨_, _, _, rfl⟩
  rw [if_neg h1]
  by_cases h2 : k = 2
  · subst h2
    exact ⟨_, _, _, rfl⟩
  rw [if_neg h2]
  by_cases h7 : k = 7
  · subst h7
    exact ⟨_, _, _, rfl⟩
  rw [if_neg h7]
  by_cases h8 : k = 8
  · subst h8
    exact ⟨_, _, _, rfl⟩
  rw [if_neg h8]
  by_cases h3 : k = 3
  · subst h3
    exact ⟨_, _, _, rfl⟩
  rw [if_neg h3]
  by_cases h4 : k = 4
  · subst h4
    exact ⟨_, _, _, rfl⟩
  rw [if_neg h4]
  by_cases h6 : k = 6
  · subst h6
    exact ⟨_, _, _, rfl⟩
  rw [if_neg h6]
  by_cases h5 : k = 5
  · subst h5
    exact ⟨_, _, _, rfl⟩
  rw [if_neg h5]
  by_cases h9 : k = 9
  · subst h9
    exact ⟨_, _, _, rfl⟩
  rw [if_neg h9]
  have t3 : (k == 3) = false := by simp [h3]
  have t4 : (k == 4) = false := by simp [h4]
  have t5 : (k == 5) = false := by simp [h5]
  have t6 : (k == 6) = false := by simp [h6]
  rw [t3, t4, t5, t6]
  exact ⟨_, _, _, rfl⟩
theorem shapes_run {w : World} {b : Nat} (hm : MapAt w b iV shapesL) (k : Int) : ∃ n nu sl, (Instr.lookup 134 (.map (some b)) (.int .i64 k) false).run Tryz.prog w = .ok (shV n (asksB k) nu sl (sharesB k)) w := by
  obtain ⟨n, nu, sl, h⟩ := shapes_look k
  have := run_look keysI Tryz.underlying134 (zero_sh w) hm k false
  rw [h] at this
  exact ⟨n, nu, sl, this⟩
abbrev opV (k a b c : Int) (d : Bool) (e f : Int) : Value := .agg #[.int .i64 k, .int .u64 a, .int .u64 b, .int .i64 c, .bool d, .int .i64 e, .int .i64 f]
theorem fld1 (n : ByteArray) (a b c d : Bool) (w : World) : (Instr.field 133 (.agg #[.string n, .bool a, .bool b, .bool c, .bool d]) 1).run Tryz.prog w = .ok (.bool a) w := by kernel_rfl
theorem fld4 (n : ByteArray) (a b c d : Bool) (w : World) : (Instr.field 133 (.agg #[.string n, .bool a, .bool b, .bool c, .bool d]) 4).run Tryz.prog w = .ok (.bool d) w := by kernel_rfl
set_option maxRecDepth 100000 in
set_option maxHeartbeats 8000000 in
theorem operAsks (k a b c : Int) (d : Bool) (e f : Int) (w : World) : Calls Tryz.prog 43 #[opV k a b c d e f] w fun en w' => en = .returned (.bool (asksB k)) ∧ Below w.heap.size w w' := by
  have hfd := fld1
  have K0 := Bk.new w #[.int .i64 k, .int .u64 a, .int .u64 b, .int .i64 c, .bool d, .int .i64 e, .int .i64 f] 26
  have hb0 : Below w.heap.size w (w.alloc (.cells #[.int .i64 k, .int .u64 a, .int .u64 b, .int .i64 c, .bool d, .int .i64 e, .int .i64 f] 26)) := (Below.refl _ _).alloc (Nat.le_refl _) _
  obtain ⟨bb, hbb⟩ : ∃ bb, bb = asksB k := ⟨_, rfl⟩
  rw [← hbb]
  have HBB := Lib.hid hbb
  clear hbb
  go_enter Tryz.func43, Tryz.ntmps43
  go_wp2
  obtain ⟨w1, hw1⟩ : ∃ u, u = w.alloc (.cells #[.int .i64 k, .int .u64 a, .int .u64 b, .int .i64 c, .bool d, .int .i64 e, .int .i64 f] 26) := ⟨_, rfl⟩
  rw [← hw1] at K0 hb0 ⊢
  clear hw1
  have hS0 : Below w1.heap.size w1 w1.drew := Below.drew (Below.refl _ _)
  refine wp_region_held_drew (S := fun w' => Below w1.heap.size w1 w') (by kernel_rfl) hS0 (fun hHeld => ?_)
  clear hS0
  generalize w1.drew = z0 at *
  refine wpAnyH_take (i := 1) (oi := _) (v := .pointer (some ⟨w.heap.size, 0, none⟩)) rfl (by kernel_rfl) (by kernel_rfl) (by kernel_rfl) (fun _ _ _ h => h) (Or.inl ⟨by rfl, fun w' hSw => by go_simp⟩) hHeld ?_
  try simp only [Act.put, List.getElem_toArray, List.getElem_cons_succ, List.getElem_cons_zero, List.setIfInBounds_toArray, List.set_cons_succ, List.set_cons_zero]
  refine wpAnyH_take (i := 2) (oi := _) (v := .int .i64 k) rfl (by kernel_rfl) (by kernel_rfl) (by kernel_rfl) (fun _ _ _ h => h) (Or.inl ⟨by rfl, fun w' hSw => by have xx := (K0.keep hSw).cells; go_simp⟩) hHeld ?_
  try simp only [Act.put, List.getElem_toArray, List.getElem_cons_succ, List.getElem_cons_zero, List.setIfInBounds_toArray, List.set_cons_succ, List.set_cons_zero]
  refine wpAnyH_ready (rs := [0]) (by kernel_rfl) (by simp) ?_
  refine AllReadyH.cons (o := _) rfl (fun K hK => ?_) AllReadyH.nil
  go_simp
  refine (shapes _).mono ?_
  rintro en z1 ⟨b9, rfl, MM, hb9, hb⟩
  have hHeld' := hHeld.trans (hb.mono hHeld.size)
  refine hK.out _ _ hHeld' (fun hHeld => ?_)
  clear hK K hHeld'
  try simp only [Act.put, List.getElem_toArray, List.getElem_cons_succ, List.getElem_cons_zero, List.setIfInBounds_toArray, List.set_cons_succ, List.set_cons_zero]
  refine wpAnyH_ready (rs := [3]) (by kernel_rfl) (by simp) ?_
  refine AllReadyH.cons (o := _) rfl (fun K hK => ?_) AllReadyH.nil
  obtain ⟨n, nu, sl, hlk⟩ := shapes_run MM k
  rw [← HBB.out] at hlk
  unfold shV at hlk
  go_simp
  refine hK.out _ _ hHeld (fun hHeld => ?_)
  clear hK K hlk MM
  try simp only [Act.put, List.getElem_toArray, List.getElem_cons_succ, List.getElem_cons_zero, List.setIfInBounds_toArray, List.set_cons_succ, List.set_cons_zero]
  refine wpAnyH_take (i := 4) (oi := _) (v := .bool bb) rfl (by kernel_rfl) (by kernel_rfl) (by kernel_rfl) (fun _ _ _ h => h) (Or.inl ⟨by rfl, fun w' hSw => by go_simp⟩) hHeld ?_
  try simp only [Act.put, List.getElem_toArray, List.getElem_cons_succ, List.getElem_cons_zero, List.setIfInBounds_toArray, List.set_cons_succ, List.set_cons_zero]
  refine wpAnyH_take (i := 5) (oi := _) (v := .bool bb) rfl (by kernel_rfl) (by kernel_rfl) (by kernel_rfl) (fun _ _ _ h => h) (Or.inl ⟨by rfl, fun w' hSw => by go_simp⟩) hHeld ?_
  try simp only [Act.put, List.getElem_toArray, List.getElem_cons_succ, List.getElem_cons_zero, List.setIfInBounds_toArray, List.set_cons_succ, List.set_cons_zero]
  refine wpAnyH_done (by kernel_rfl) ?_ _
  have hb8 := hb0.trans (hHeld.mono hb0.size)
  go_wp2
  go_ret
  exact ⟨rfl, hb8⟩
set_option maxRecDepth 100000 in
set_option maxHeartbeats 8000000 in
theorem operShares (k a b c : Int) (d : Bool) (e f : Int) (w : World) : Calls Tryz.prog 159 #[opV k a b c d e f] w fun en w' => en = .returned (.bool (sharesB k)) ∧ Below w.heap.size w w' := by
  have hfd := fld4
  have K0 := Bk.new w #[.int .i64 k, .int .u64 a, .int .u64 b, .int .i64 c, .bool d, .int .i64 e, .int .i64 f] 26
  have hb0 : Below w.heap.size w (w.alloc (.cells #[.int .i64 k, .int .u64 a, .int .u64 b, .int .i64 c, .bool d, .int .i64 e, .int .i64 f] 26)) := (Below.refl _ _).alloc (Nat.le_refl _) _
  obtain ⟨bb, hbb⟩ : ∃ bb, bb = sharesB k := ⟨_, rfl⟩
  rw [← hbb]
  have HBB := Lib.hid hbb
  clear hbb
  go_enter Tryz.func159, Tryz.ntmps159
  go_wp2
  obtain ⟨w1, hw1⟩ : ∃ u, u = w.alloc (.cells #[.int .i64 k, .int .u64 a, .int .u64 b, .int .i64 c, .bool d, .int .i64 e, .int .i64 f] 26) := ⟨_, rfl⟩
  rw [← hw1] at K0 hb0 ⊢
  clear hw1
  have hS0 : Below w1.heap.size w1 w1.drew := Below.drew (Below.refl _ _)
  refine wp_region_held_drew (S := fun w' => Below w1.heap.size w1 w') (by kernel_rfl) hS0 (fun hHeld => ?_)
  clear hS0
  generalize w1.drew = z0 at *
  refine wpAnyH_take (i := 1) (oi := _) (v := .pointer (some ⟨w.heap.size, 0, none⟩)) rfl (by kernel_rfl) (by kernel_rfl) (by kernel_rfl) (fun _ _ _ h => h) (Or.inl ⟨by rfl, fun w' hSw => by go_simp⟩) hHeld ?_
  try simp only [Act.put, List.getElem_toArray, List.getElem_cons_succ, List.getElem_cons_zero, List.setIfInBounds_toArray, List.set_cons_succ, List.set_cons_zero]
  refine wpAnyH_take (i := 2) (oi := _) (v := .int .i64 k) rfl (by kernel_rfl) (by kernel_rfl) (by kernel_rfl) (fun _ _ _ h => h) (Or.inl ⟨by rfl, fun w' hSw => by have xx := (K0.keep hSw).cells; go_simp⟩) hHeld ?_
  try simp only [Act.put, List.getElem_toArray, List.getElem_cons_succ, List.getElem_cons_zero, List.setIfInBounds_toArray, List.set_cons_succ, List.set_cons_zero]
  refine wpAnyH_ready (rs := [0]) (by kernel_rfl) (by simp) ?_
  refine AllReadyH.cons (o := _) rfl (fun K hK => ?_) AllReadyH.nil
  go_simp
  refine (shapes _).mono ?_
  rintro en z1 ⟨b9, rfl, MM, hb9, hb⟩
  have hHeld' := hHeld.trans (hb.mono hHeld.size)
  refine hK.out _ _ hHeld' (fun hHeld => ?_)
  clear hK K hHeld'
  try simp only [Act.put, List.getElem_toArray, List.getElem_cons_succ, List.getElem_cons_zero, List.setIfInBounds_toArray, List.set_cons_succ, List.set_cons_zero]
  refine wpAnyH_ready (rs := [3]) (by kernel_rfl) (by simp) ?_
  refine AllReadyH.cons (o := _) rfl (fun K hK => ?_) AllReadyH.nil
  obtain ⟨n, nu, sl, hlk⟩ := shapes_run MM k
  rw [← HBB.out] at hlk
  unfold shV at hlk
  go_simp
  refine hK.out _ _ hHeld (fun hHeld => ?_)
  clear hK K hlk MM
  try simp only [Act.put, List.getElem_toArray, List.getElem_cons_succ, List.getElem_cons_zero, List.setIfInBounds_toArray, List.set_cons_succ, List.set_cons_zero]
  refine wpAnyH_take (i := 4) (oi := _) (v := .bool bb) rfl (by kernel_rfl) (by kernel_rfl) (by kernel_rfl) (fun _ _ _ h => h) (Or.inl ⟨by rfl, fun w' hSw => by go_simp⟩) hHeld ?_
  try simp only [Act.put, List.getElem_toArray, List.getElem_cons_succ, List.getElem_cons_zero, List.setIfInBounds_toArray, List.set_cons_succ, List.set_cons_zero]
  refine wpAnyH_take (i := 5) (oi := _) (v := .bool bb) rfl (by kernel_rfl) (by kernel_rfl) (by kernel_rfl) (fun _ _ _ h => h) (Or.inl ⟨by rfl, fun w' hSw => by go_simp⟩) hHeld ?_
  try simp only [Act.put, List.getElem_toArray, List.getElem_cons_succ, List.getElem_cons_zero, List.setIfInBounds_toArray, List.set_cons_succ, List.set_cons_zero]
  refine wpAnyH_done (by kernel_rfl) ?_ _
  have hb8 := hb0.trans (hHeld.mono hb0.size)
  go_wp2
  go_ret
  exact ⟨rfl, hb8⟩
end Go.Proofs.YtgpdkagmacpghaaGreat.Me

/- released, release and what releases (made by genrel.py). -/
namespace Go.Proofs.YtgpdkagmacpghaaGreat.Me
open Go Go.RowKit Go.ChangeMaps Go.Proofs.YtgpdkagmacpghaaGreat.Gro Go.Proofs.YtgpdkagmacpghaaGreat.Own Go.Proofs.YtgpdkagmacpghaaGreat.Wd Go.Proofs.YtgpdkagmacpghaaGreat.Ap Go.Proofs.YtgpdkagmacpghaaGreat.Pl Go.Proofs.YtgpdkagmacpghaaGreat.Wo Go.Proofs.YtgpdkagmacpghaaGreat.Mr
set_option linter.unusedVariables false
set_option linter.unusedSimpArgs false
set_option maxRecDepth 100000 in
set_option maxHeartbeats 8000000 in
theorem fReleased {P : Nat → Prop} {w : World} {s : Wk} {x : St} (hP : ∀ b, w.heap.size ≤ b → P b) (A : LiesP P w s x) :
    Calls Tryz.prog 135 #[wv s] w (FW P w (releasedS x)) := by
  unfold releasedS
  have eo : s.p.o0 = x.p.o0 := by rw [A.p]
  have ep : s.p.pn = x.p.pn := by rw [A.p]
  rw [← eo, ← ep]
  clear eo ep
  cases hs : sharesB s.p.o0 with
  | false =>
    rw [if_neg (by simp)]
    have f32 : ∀ s : Wk, (wc s)[32]? = some (.bool s.p.gv) := fun _ => rfl
    have f8 : ∀ s : Wk, (wc s)[8]? = some (.bool s.p.pn) := fun _ => rfl
    have f1 : ∀ s : Wk, (wc s)[1]? = some (.int .i64 s.p.o0) := fun _ => rfl
    have f2 : ∀ s : Wk, (wc s)[2]? = some (.int .u64 s.p.o1) := fun _ => rfl
    have f3 : ∀ s : Wk, (wc s)[3]? = some (.int .u64 s.p.o2) := fun _ => rfl
    have f4 : ∀ s : Wk, (wc s)[4]? = some (.int .i64 s.p.o3) := fun _ => rfl
    have f5 : ∀ s : Wk, (wc s)[5]? = some (.bool s.p.o4) := fun _ => rfl
    have f6 : ∀ s : Wk, (wc s)[6]? = some (.int .i64 s.p.o5) := fun _ => rfl
    have f7 : ∀ s : Wk, (wc s)[7]? = some (.int .i64 s.p.o6) := fun _ => rfl
    have T0 := Two.start w s
    have AQ := (A.mono (Q := fun b => P b ∧ b ≠ w.heap.size ∧ b ≠ w.heap.size + 1) (fun b hb q => ⟨q, by omega, by omega⟩)).keep T0.below
    obtain ⟨v0, hv0⟩ : ∃ u, u = (w.alloc (.cells (wc s) 34)).alloc (.cells (wc wz) 34) := ⟨_, rfl⟩
    rw [← hv0] at T0 AQ
    have x0 := T0.X.cells
    have z0 := T0.X.frozen
    have e101 := by have h := T0.X.cells 32; exact congrArg Option.isSome (h.trans (f32 _))
    simp only [Option.isSome_some] at e101
    have T1 := T0.setX 32 (.bool false) ({ s with p := { s.p with gv := false } } : Wk) rfl
    have AQ10 := AQ.cell (g := w.heap.size) (fun q => q.2.1 rfl) 32 (.bool false)
    have lt9 := T1.lt
    have HSH := Lib.hid (operShares s.p.o0 s.p.o1 s.p.o2 s.p.o3 s.p.o4 s.p.o5 s.p.o6 (v0.setCell ⟨w.heap.size, 32, none⟩ (.bool false)))
    have xx9 := T1.X.cells
    go_enter Tryz.func135, Tryz.ntmps135
    go_wp2_with (first | ((with_reducible refine wpList_alloc_wz rfl rfl ?_); rw [← hv0]; clear hv0))
    rw [hs] at HSH
    refine HSH.out.mono ?_
    rintro en w5 ⟨rfl, hb5⟩
    have T5 := T1.keep hb5
    have A5 := (AQ10.pl (p := { s.p with gv := false }) (p' := { x.p with gv := false }) (by rw [AQ10.p])).keep hb5
    have x5 := T5.X.cells
    have l5 := T5.lt
    have l6 := T5.below.size
    have HP' : ∀ b, w5.heap.size ≤ b → (P b ∧ b ≠ w.heap.size ∧ b ≠ w.heap.size + 1) := fun b hb => ⟨hP b (by omega), by omega, by omega⟩
    have HC := Lib.hid (fAt (P := fun b => P b ∧ b ≠ w.heap.size ∧ b ≠ w.heap.size + 1) (fun b hb => HP' b hb) A5 0)
    clear xx9 x0 z0
    go_wp2_with (first | (refine wpList_load_row rfl 34 _ rfl (w.heap.size) rfl _ (wc ({ s with p := { s.p with gv := false } } : Wk)) (0, 0) _ (by exact T5.X) Tryz.underlying34 rfl (by kernel_rfl) ?_))
    refine HC.out.mono ?_
    rintro e w9 ⟨s9, rfl, A9, hb9⟩
    have T9 := T5.keep hb9
    go_wp2_with (first | (refine wpList_store_row rfl 34 _ _ rfl (w.heap.size + 1) (wc s9) rfl rfl _ _ (by exact T9.Z) (by kernel_rfl) (by kernel_rfl) (by kernel_rfl) ?_))
    have ZF := T9.rowZ s9
    refine bodyPost_ret (v := wv s9) ?_ rfl ⟨s9, rfl, ((A9.row (g := w.heap.size + 1) (fun q => q.2.2 rfl) _).mono (fun b _ q => q.1)), ZF.below⟩
    exact results_cell_row (p := 2) (ty := 34) Tryz.results135 _ _ (w.heap.size + 1) 34 _ (0, 0) _ rfl ZF.Z Tryz.underlying34 rfl (by kernel_rfl)
  | true =>
    cases hpn : s.p.pn with
    | true =>
      rw [if_neg (by simp)]
      have f32 : ∀ s : Wk, (wc s)[32]? = some (.bool s.p.gv) := fun _ => rfl
      have f8 : ∀ s : Wk, (wc s)[8]? = some (.bool s.p.pn) := fun _ => rfl
      have f1 : ∀ s : Wk, (wc s)[1]? = some (.int .i64 s.p.o0) := fun _ => rfl
      have f2 : ∀ s : Wk, (wc s)[2]? = some (.int .u64 s.p.o1) := fun _ => rfl
      have f3 : ∀ s : Wk, (wc s)[3]? = some (.int .u64 s.p.o2) := fun _ => rfl
      have f4 : ∀ s : Wk, (wc s)[4]? = some (.int .i64 s.p.o3) := fun _ => rfl
      have f5 : ∀ s : Wk, (wc s)[5]? = some (.bool s.p.o4) := fun _ => rfl
      have f6 : ∀ s : Wk, (wc s)[6]? = some (.int .i64 s.p.o5) := fun _ => rfl
      have f7 : ∀ s : Wk, (wc s)[7]? = some (.int .i64 s.p.o6) := fun _ => rfl
      have T0 := Two.start w s
      have AQ := (A.mono (Q := fun b => P b ∧ b ≠ w.heap.size ∧ b ≠ w.heap.size + 1) (fun b hb q => ⟨q, by omega, by omega⟩)).keep T0.below
      obtain ⟨v0, hv0⟩ : ∃ u, u = (w.alloc (.cells (wc s) 34)).alloc (.cells (wc wz) 34) := ⟨_, rfl⟩
      rw [← hv0] at T0 AQ
      have x0 := T0.X.cells
      have z0 := T0.X.frozen
      have e101 := by have h := T0.X.cells 32; exact congrArg Option.isSome (h.trans (f32 _))
      simp only [Option.isSome_some] at e101
      have T1 := T0.setX 32 (.bool false) ({ s with p := { s.p with gv := false } } : Wk) rfl
      have AQ10 := AQ.cell (g := w.heap.size) (fun q => q.2.1 rfl) 32 (.bool false)
      have lt9 := T1.lt
      have HSH := Lib.hid (operShares s.p.o0 s.p.o1 s.p.o2 s.p.o3 s.p.o4 s.p.o5 s.p.o6 (v0.setCell ⟨w.heap.size, 32, none⟩ (.bool false)))
      have xx9 := T1.X.cells
      go_enter Tryz.func135, Tryz.ntmps135
      go_wp2_with (first | ((with_reducible refine wpList_alloc_wz rfl rfl ?_); rw [← hv0]; clear hv0))
      rw [hs] at HSH
      refine HSH.out.mono ?_
      rintro en w5 ⟨rfl, hb5⟩
      have T5 := T1.keep hb5
      have A5 := (AQ10.pl (p := { s.p with gv := false }) (p' := { x.p with gv := false }) (by rw [AQ10.p])).keep hb5
      have x5 := T5.X.cells
      have l5 := T5.lt
      have l6 := T5.below.size
      have q8 : (wc ({ s with p := { s.p with gv := false } } : Wk))[8]? = some (.bool true) := (f8 _).trans (congrArg (fun z => some (Value.bool z)) hpn)
      have lx8 := l5.1
      clear f8 hpn
      have HP' : ∀ b, w5.heap.size ≤ b → (P b ∧ b ≠ w.heap.size ∧ b ≠ w.heap.size + 1) := fun b hb => ⟨hP b (by omega), by omega, by omega⟩
      have HC := Lib.hid (fAt (P := fun b => P b ∧ b ≠ w.heap.size ∧ b ≠ w.heap.size + 1) (fun b hb => HP' b hb) A5 0)
      clear xx9 x0 z0
      go_wp2_with (first | (refine wpList_load_row rfl 34 _ rfl (w.heap.size) rfl _ (wc ({ s with p := { s.p with gv := false } } : Wk)) (0, 0) _ (by exact T5.X) Tryz.underlying34 rfl (by kernel_rfl) ?_))
      refine HC.out.mono ?_
      rintro e w9 ⟨s9, rfl, A9, hb9⟩
      have T9 := T5.keep hb9
      go_wp2_with (first | (refine wpList_store_row rfl 34 _ _ rfl (w.heap.size + 1) (wc s9) rfl rfl _ _ (by exact T9.Z) (by kernel_rfl) (by kernel_rfl) (by kernel_rfl) ?_))
      have ZF := T9.rowZ s9
      refine bodyPost_ret (v := wv s9) ?_ rfl ⟨s9, rfl, ((A9.row (g := w.heap.size + 1) (fun q => q.2.2 rfl) _).mono (fun b _ q => q.1)), ZF.below⟩
      exact results_cell_row (p := 2) (ty := 34) Tryz.results135 _ _ (w.heap.size + 1) 34 _ (0, 0) _ rfl ZF.Z Tryz.underlying34 rfl (by kernel_rfl)
    | false =>
      rw [if_pos ⟨rfl, rfl⟩]
      have f32 : ∀ s : Wk, (wc s)[32]? = some (.bool s.p.gv) := fun _ => rfl
      have f8 : ∀ s : Wk, (wc s)[8]? = some (.bool s.p.pn) := fun _ => rfl
      have f1 : ∀ s : Wk, (wc s)[1]? = some (.int .i64 s.p.o0) := fun _ => rfl
      have f2 : ∀ s : Wk, (wc s)[2]? = some (.int .u64 s.p.o1) := fun _ => rfl
      have f3 : ∀ s : Wk, (wc s)[3]? = some (.int .u64 s.p.o2) := fun _ => rfl
      have f4 : ∀ s : Wk, (wc s)[4]? = some (.int .i64 s.p.o3) := fun _ => rfl
      have f5 : ∀ s : Wk, (wc s)[5]? = some (.bool s.p.o4) := fun _ => rfl
      have f6 : ∀ s : Wk, (wc s)[6]? = some (.int .i64 s.p.o5) := fun _ => rfl
      have f7 : ∀ s : Wk, (wc s)[7]? = some (.int .i64 s.p.o6) := fun _ => rfl
      have T0 := Two.start w s
      have AQ := (A.mono (Q := fun b => P b ∧ b ≠ w.heap.size ∧ b ≠ w.heap.size + 1) (fun b hb q => ⟨q, by omega, by omega⟩)).keep T0.below
      obtain ⟨v0, hv0⟩ : ∃ u, u = (w.alloc (.cells (wc s) 34)).alloc (.cells (wc wz) 34) := ⟨_, rfl⟩
      rw [← hv0] at T0 AQ
      have x0 := T0.X.cells
      have z0 := T0.X.frozen
      have e101 := by have h := T0.X.cells 32; exact congrArg Option.isSome (h.trans (f32 _))
      simp only [Option.isSome_some] at e101
      have T1 := T0.setX 32 (.bool false) ({ s with p := { s.p with gv := false } } : Wk) rfl
      have AQ10 := AQ.cell (g := w.heap.size) (fun q => q.2.1 rfl) 32 (.bool false)
      have lt9 := T1.lt
      have HSH := Lib.hid (operShares s.p.o0 s.p.o1 s.p.o2 s.p.o3 s.p.o4 s.p.o5 s.p.o6 (v0.setCell ⟨w.heap.size, 32, none⟩ (.bool false)))
      have xx9 := T1.X.cells
      go_enter Tryz.func135, Tryz.ntmps135
      go_wp2_with (first | ((with_reducible refine wpList_alloc_wz rfl rfl ?_); rw [← hv0]; clear hv0))
      rw [hs] at HSH
      refine HSH.out.mono ?_
      rintro en w5 ⟨rfl, hb5⟩
      have T5 := T1.keep hb5
      have A5 := (AQ10.pl (p := { s.p with gv := false }) (p' := { x.p with gv := false }) (by rw [AQ10.p])).keep hb5
      have x5 := T5.X.cells
      have l5 := T5.lt
      have l6 := T5.below.size
      have q8 : (wc ({ s with p := { s.p with gv := false } } : Wk))[8]? = some (.bool false) := (f8 _).trans (congrArg (fun z => some (Value.bool z)) hpn)
      have lx8 := l5.1
      clear f8 hpn
      have HP' : ∀ b, w5.heap.size ≤ b → (P b ∧ b ≠ w.heap.size ∧ b ≠ w.heap.size + 1) := fun b hb => ⟨hP b (by omega), by omega, by omega⟩
      have HC := Lib.hid (fAt (P := fun b => P b ∧ b ≠ w.heap.size ∧ b ≠ w.heap.size + 1) (fun b hb => HP' b hb) A5 90)
      clear xx9 x0 z0
      go_wp2_with (first | (refine wpList_load_row rfl 34 _ rfl (w.heap.size) rfl _ (wc ({ s with p := { s.p with gv := false } } : Wk)) (0, 0) _ (by exact T5.X) Tryz.underlying34 rfl (by kernel_rfl) ?_))
      refine HC.out.mono ?_
      rintro e w9 ⟨s9, rfl, A9, hb9⟩
      have T9 := T5.keep hb9
      go_wp2_with (first | (refine wpList_store_row rfl 34 _ _ rfl (w.heap.size + 1) (wc s9) rfl rfl _ _ (by exact T9.Z) (by kernel_rfl) (by kernel_rfl) (by kernel_rfl) ?_))
      have ZF := T9.rowZ s9
      refine bodyPost_ret (v := wv s9) ?_ rfl ⟨s9, rfl, ((A9.row (g := w.heap.size + 1) (fun q => q.2.2 rfl) _).mono (fun b _ q => q.1)), ZF.below⟩
      exact results_cell_row (p := 2) (ty := 34) Tryz.results135 _ _ (w.heap.size + 1) 34 _ (0, 0) _ rfl ZF.Z Tryz.underlying34 rfl (by kernel_rfl)
set_option maxRecDepth 100000 in
set_option maxHeartbeats 8000000 in
theorem fRelease {P : Nat → Prop} {w : World} {s : Wk} {x : St} (hP : ∀ b, w.heap.size ≤ b → P b) (A : LiesP P w s x) (hx : Few 900 x) :
    Calls Tryz.prog 155 #[wv s] w (FW P w (releaseS x)) := by
  unfold releaseS
  by_cases hm : x.hl = []
  · rw [if_pos hm]
    have f32 : ∀ s : Wk, (wc s)[32]? = some (.bool s.p.gv) := fun _ => rfl
    have T0 := Two.start w s
    have AQ := (A.mono (Q := fun b => P b ∧ b ≠ w.heap.size ∧ b ≠ w.heap.size + 1) (fun b hb q => ⟨q, by omega, by omega⟩)).keep T0.below
    obtain ⟨v0, hv0⟩ : ∃ u, u = (w.alloc (.cells (wc s) 34)).alloc (.cells (wc wz) 34) := ⟨_, rfl⟩
    rw [← hv0] at T0 AQ
    have x0 := T0.X.cells
    have z0 := T0.X.frozen
    have e101 := by have h := T0.X.cells 32; exact congrArg Option.isSome (h.trans (f32 _))
    simp only [Option.isSome_some] at e101
    have T1 := T0.setX 32 (.bool true) ({ s with p := { s.p with gv := true } } : Wk) rfl
    have AQ10 := AQ.cell (g := w.heap.size) (fun q => q.2.1 rfl) 32 (.bool true)
    have lt9 := T1.lt
    have l0 := T1.below.size
    have HGB := Lib.hid (giveBegin ({ s with p := { s.p with gv := true } } : Wk) ({ x with p := { x.p with gv := true } } : St) ⟨hx.rk, hx.l0, hx.l1, hx.l2, hx.hl, hx.rd⟩ _ (AQ10.pl (p := { s.p with gv := true }) (p' := { x.p with gv := true }) (by rw [AQ10.p])).lies)
    have ew : gvW ({ x with p := { x.p with gv := true } } : St) = 1 := if_pos hm
    rw [ew] at HGB
    clear ew
    clear hm
    go_enter Tryz.func155, Tryz.ntmps155
    go_wp2_with (first | ((with_reducible refine wpList_alloc_wz rfl rfl ?_); rw [← hv0]; clear hv0) | (refine wpList_load_row rfl 34 _ rfl (w.heap.size) rfl _ (wc ({ s with p := { s.p with gv := true } } : Wk)) (0, 0) _ (by exact T1.X) Tryz.underlying34 rfl (by kernel_rfl) ?_))
    refine HGB.out.mono ?_
    rintro en w5 ⟨s5, rfl, A5, hb5⟩
    have T5 := T1.keep hb5
    have l5 := T5.lt
    have l6 := T5.below.size
    have l7 := hb5.size
    have T6 := T5.rowX s5
    have A6 := (LiesP.of (P := fun b => P b ∧ b ≠ w.heap.size ∧ b ≠ w.heap.size + 1) A5 (fun b _ q => ⟨hP b (by omega), by omega, by omega⟩)).row (g := w.heap.size) (fun q => q.2.1 rfl) (wc s5)
    obtain ⟨w6, hw6⟩ : ∃ u, u = w5.setRow w.heap.size (wc s5) := ⟨_, rfl⟩
    have l8 : w6.heap.size = w5.heap.size := by rw [hw6]; simp
    rw [← hw6] at T6 A6
    clear A5 hb5 HGB
    have HP' : ∀ b, w6.heap.size ≤ b → (P b ∧ b ≠ w.heap.size ∧ b ≠ w.heap.size + 1) := fun b hb => ⟨hP b (by omega), by omega, by omega⟩
    have HC := Lib.hid (fReleased HP' A6)
    go_wp2_with (first | (refine wpList_store_row rfl 34 _ _ rfl (w.heap.size) (wc s5) rfl rfl _ _ (by exact T5.X) (by kernel_rfl) (by kernel_rfl) (by kernel_rfl) ?_; rw [← hw6]; clear hw6 T5) | (refine wpList_load_row rfl 34 _ rfl (w.heap.size) rfl _ (wc s5) (0, 0) _ (by exact T6.X) Tryz.underlying34 rfl (by kernel_rfl) ?_))
    refine HC.out.mono ?_
    rintro e w9 ⟨s9, rfl, A9, hb9⟩
    have T9 := T6.keep hb9
    go_wp2_with (first | (refine wpList_store_row rfl 34 _ _ rfl (w.heap.size + 1) (wc s9) rfl rfl _ _ (by exact T9.Z) (by kernel_rfl) (by kernel_rfl) (by kernel_rfl) ?_))
    have ZF := T9.rowZ s9
    refine bodyPost_ret (v := wv s9) ?_ rfl ⟨s9, rfl, ((A9.row (g := w.heap.size + 1) (fun q => q.2.2 rfl) _).mono (fun b _ q => q.1)), ZF.below⟩
    exact results_cell_row (p := 2) (ty := 34) Tryz.results155 _ _ (w.heap.size + 1) 34 _ (0, 0) _ rfl ZF.Z Tryz.underlying34 rfl (by kernel_rfl)
  rw [if_neg hm]
  have f32 : ∀ s : Wk, (wc s)[32]? = some (.bool s.p.gv) := fun _ => rfl
  have T0 := Two.start w s
  have AQ := (A.mono (Q := fun b => P b ∧ b ≠ w.heap.size ∧ b ≠ w.heap.size + 1) (fun b hb q => ⟨q, by omega, by omega⟩)).keep T0.below
  obtain ⟨v0, hv0⟩ : ∃ u, u = (w.alloc (.cells (wc s) 34)).alloc (.cells (wc wz) 34) := ⟨_, rfl⟩
  rw [← hv0] at T0 AQ
  have x0 := T0.X.cells
  have z0 := T0.X.frozen
  have e101 := by have h := T0.X.cells 32; exact congrArg Option.isSome (h.trans (f32 _))
  simp only [Option.isSome_some] at e101
  have T1 := T0.setX 32 (.bool true) ({ s with p := { s.p with gv := true } } : Wk) rfl
  have AQ10 := AQ.cell (g := w.heap.size) (fun q => q.2.1 rfl) 32 (.bool true)
  have lt9 := T1.lt
  have l0 := T1.below.size
  have HGB := Lib.hid (giveBegin ({ s with p := { s.p with gv := true } } : Wk) ({ x with p := { x.p with gv := true } } : St) ⟨hx.rk, hx.l0, hx.l1, hx.l2, hx.hl, hx.rd⟩ _ (AQ10.pl (p := { s.p with gv := true }) (p' := { x.p with gv := true }) (by rw [AQ10.p])).lies)
  have ew : gvW ({ x with p := { x.p with gv := true } } : St) = 0 := if_neg hm
  rw [ew] at HGB
  clear ew
  clear hm
  go_enter Tryz.func155, Tryz.ntmps155
  go_wp2_with (first | ((with_reducible refine wpList_alloc_wz rfl rfl ?_); rw [← hv0]; clear hv0) | (refine wpList_load_row rfl 34 _ rfl (w.heap.size) rfl _ (wc ({ s with p := { s.p with gv := true } } : Wk)) (0, 0) _ (by exact T1.X) Tryz.underlying34 rfl (by kernel_rfl) ?_))
  refine HGB.out.mono ?_
  rintro en w5 ⟨s5, rfl, A5, hb5⟩
  have T5 := T1.keep hb5
  have l5 := T5.lt
  have l6 := T5.below.size
  have l7 := hb5.size
  have T6 := T5.rowX s5
  have A6 := (LiesP.of (P := fun b => P b ∧ b ≠ w.heap.size ∧ b ≠ w.heap.size + 1) A5 (fun b _ q => ⟨hP b (by omega), by omega, by omega⟩)).row (g := w.heap.size) (fun q => q.2.1 rfl) (wc s5)
  obtain ⟨w6, hw6⟩ : ∃ u, u = w5.setRow w.heap.size (wc s5) := ⟨_, rfl⟩
  have l8 : w6.heap.size = w5.heap.size := by rw [hw6]; simp
  rw [← hw6] at T6 A6
  clear A5 hb5 HGB
  go_wp2_with (first | (refine wpList_store_row rfl 34 _ _ rfl (w.heap.size) (wc s5) rfl rfl _ _ (by exact T5.X) (by kernel_rfl) (by kernel_rfl) (by kernel_rfl) ?_; rw [← hw6]; clear hw6 T5) | (refine wpList_load_row rfl 34 _ rfl (w.heap.size) rfl _ (wc s5) (0, 0) _ (by exact T6.X) Tryz.underlying34 rfl (by kernel_rfl) ?_) | (refine wpList_store_row rfl 34 _ _ rfl (w.heap.size + 1) (wc s5) rfl rfl _ _ (by exact T6.Z) (by kernel_rfl) (by kernel_rfl) (by kernel_rfl) ?_))
  have ZF := T6.rowZ s5
  refine bodyPost_ret (v := wv s5) ?_ rfl ⟨s5, rfl, ((A6.row (g := w.heap.size + 1) (fun q => q.2.2 rfl) _).mono (fun b _ q => q.1)), ZF.below⟩
  exact results_cell_row (p := 2) (ty := 34) Tryz.results155 _ _ (w.heap.size + 1) 34 _ (0, 0) _ rfl ZF.Z Tryz.underlying34 rfl (by kernel_rfl)
set_option maxRecDepth 100000 in
set_option maxHeartbeats 8000000 in
theorem fThen (c : Cfg) {P : Nat → Prop} {w : World} {s : Wk} {x : St} (hP : ∀ b, w.heap.size ≤ b → P b) (A : LiesP P w s x) (hx : Few 900 x) :
    Calls Tryz.prog 130 #[cv c, wv s] w (FW P w (releaseS x)) := by
  have hbc : Below w.heap.size w (w.alloc (.cells (ccM c) 24)) := (Below.refl _ _).alloc (Nat.le_refl _) _
  have hszc : (w.alloc (.cells (ccM c) 24)).heap.size = w.heap.size + 1 := by simp
  have T0 := Two.startAt hbc s
  rw [hszc] at T0
  have AQ := (A.mono (Q := fun b => P b ∧ b ≠ w.heap.size + 1 ∧ b ≠ w.heap.size + 1 + 1) (fun b hb q => ⟨q, by omega, by omega⟩)).keep T0.below
  obtain ⟨v0, hv0⟩ : ∃ u, u = ((w.alloc (.cells (ccM c) 24)).alloc (.cells (wc s) 34)).alloc (.cells (wc wz) 34) := ⟨_, rfl⟩
  rw [← hv0] at T0 AQ
  have x0 := T0.X.cells
  have z0 := T0.X.frozen
  have HP' : ∀ b, w.heap.size + 1 + 1 + 1 ≤ b → (P b ∧ b ≠ w.heap.size + 1 ∧ b ≠ w.heap.size + 1 + 1) := fun b hb => ⟨hP b (by omega), by omega, by omega⟩
  have lt9 := T0.lt
  have HC := Lib.hid (fRelease (P := fun b => P b ∧ b ≠ w.heap.size + 1 ∧ b ≠ w.heap.size + 1 + 1) (fun b hb => HP' b (by omega)) AQ hx)
  go_enter Tryz.func130, Tryz.ntmps130
  go_wp2_with (first | ((with_reducible refine wpList_alloc_wz rfl rfl ?_); rw [← hv0]; clear hv0) | (refine wpList_load_row rfl 34 _ rfl (w.heap.size + 1) rfl _ (wc s) (0, 0) _ (by exact T0.X) Tryz.underlying34 rfl (by kernel_rfl) ?_))
  refine HC.out.mono ?_
  rintro e w9 ⟨s9, rfl, A9, hb9⟩
  have T9 := T0.keep hb9
  go_wp2_with (first | (refine wpList_store_row rfl 34 _ _ rfl (w.heap.size + 1 + 1) (wc s9) rfl rfl _ _ (by exact T9.Z) (by kernel_rfl) (by kernel_rfl) (by kernel_rfl) ?_))
  have ZF := T9.rowZ s9
  refine bodyPost_ret (v := wv s9) ?_ rfl ⟨s9, rfl, ((A9.row (g := w.heap.size + 1 + 1) (fun q => q.2.2 rfl) _).mono (fun b _ q => q.1)), ZF.below⟩
  exact results_cell_row (p := 4) (ty := 34) Tryz.results130 _ _ (w.heap.size + 1 + 1) 34 _ (0, 0) _ rfl ZF.Z Tryz.underlying34 rfl (by kernel_rfl)
end Go.Proofs.YtgpdkagmacpghaaGreat.Me
