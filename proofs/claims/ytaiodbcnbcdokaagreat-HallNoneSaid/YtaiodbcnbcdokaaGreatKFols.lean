/- Part Fols. -/
import Derived.Test.YtaiodbcnbcdokaaGreatKRules13
set_option linter.unusedVariables false
set_option linter.unusedSimpArgs false
set_option linter.unusedSectionVars false
set_option maxRecDepth 100000
set_option maxHeartbeats 16000000
namespace Go.Proofs.YtaiodbcnbcdokaaGreat.Me
open Go Go.RowKit Go.ChangeMaps Gro Own Wd Ap Go.Proofs.YtaiodbcnbcdokaaGreat.Pl Wo Mr
def FW (P : Nat → Prop) (w : World) (y : St) (e : Ending) (w' : World) : Prop := ∃ s', e = .returned (wv s') ∧ aM P w' s' y ∧ Below w.heap.size w w'
def atS (x : St) (l : Int) : St := { x with p := { x.p with ln := l } }
def endS (x : St) (r : Int) : St := atS { x with p := { x.p with rt := r } } 0
def bodyS (x : St) : St := if x.p.o0 = 4 then atS x 42 else if x.p.o0 = 5 then atS x 46 else if x.p.o0 = 6 then atS x 60 else tkS x
def iO (x : St) : St := if x.p.o0 = 1 then atS { x with p := { x.p with pn := true, br := 0 } } 0 else bodyS x
def outsideS (x : St) : St := atS (if x.p.o0 = 2 then { x with p := { x.p with pn := false, br := 0 } } else x) 0
def dK (n : Int) (x : St) : St := atS { x with p := { x.p with j := 0 } } n
def filledS (x : St) : St := atS x (if x.p.o0 = 5 then 44 else 20)
def gW (k : Int) : Bool := k == 3 || k == 4 || k == 5 || k == 6
def asksB (k : Int) : Bool := k == 4 || k == 5 || k == 6
def bW (x : St) : St := atS { x with p := { x.p with gv := false } } (if gW x.p.o0 = true ∧ x.p.pn = false then 90 else 0)
def bG (x : St) : St := if x.hl = [] then bW (gvS { x with p := { x.p with gv := true } }) else gvS { x with p := { x.p with gv := true } }
theorem fAt {P : Nat → Prop} {w : World} {s : Wk} {x : St} (hP : ∀ b, w.heap.size ≤ b → P b) (A : aM P w s x) (l : Int) :
  Calls Tryz.prog 118 #[wv s, .int .i64 l] w (FW P w (atS x l)) := by
 have f0 : ∀ s : Wk, (wc s)[0]? = some (.int .i64 s.p.ln) := fun _ => rfl
 have T0 := Two.start w s
 have AQ := (A.mono (Q := fun b => P b ∧ b ≠ w.heap.size ∧ b ≠ w.heap.size + 1) (fun b hb q => ⟨q, by omega, by omega⟩)).keep T0.below
 obtain ⟨v0, hv0⟩ : ∃ u, u = (w.alloc (.cells (wc s) 46)).alloc (.cells (wc wz) 46) := ⟨_, rfl⟩
 rw [← hv0] at T0 AQ
 have x0 := T0.X.cells
 have z0 := T0.X.frozen
 have gK := by have h := T0.X.cells 0; exact congrArg Option.isSome (h.trans (f0 _))
 simp only [Option.isSome_some] at gK
 have T1 := T0.bZ 0 (.int .i64 l) ({ s with p := { s.p with ln := l } } : Wk) rfl
 have gu := AQ.cell (g := w.heap.size) (fun q => q.2.1 rfl) 0 (.int .i64 l)
 have lt9 := T1.lt
 go_enter Tryz.func118, Tryz.ntmps118
 go_wp2_with (first | ((with_reducible refine au rfl rfl ?_); rw [← hv0]; clear hv0) | (refine wpList_load_row rfl 46 _ rfl (w.heap.size) rfl _ (wc ({ s with p := { s.p with ln := l } } : Wk)) (0, 0) _ dG Tryz.underlying46 rfl ah ?_) | (refine wpList_store_row rfl 46 _ _ rfl (w.heap.size + 1) (wc ({ s with p := { s.p with ln := l } } : Wk)) rfl rfl _ _ (by exact T1.Z) ah ah ah ?_))
 have ZF := T1.bN ({ s with p := { s.p with ln := l } } : Wk)
 refine bodyPost_ret (v := wv ({ s with p := { s.p with ln := l } } : Wk)) ?_ rfl ⟨_, rfl, (((gu.pl (p := { s.p with ln := l }) (p' := { x.p with ln := l }) qa67).row (g := w.heap.size + 1) (fun q => q.2.2 rfl) _).mono (fun b _ q => q.1)), ZF.below⟩
 exact results_cell_row (p := 4) (ty := 46) Tryz.results118 _ _ (w.heap.size + 1) 46 _ (0, 0) _ rfl ZF.Z Tryz.underlying46 rfl ah
theorem fEnd {P : Nat → Prop} {w : World} {s : Wk} {x : St} (hP : ∀ b, w.heap.size ≤ b → P b) (A : aM P w s x) (r : Int) :
  Calls Tryz.prog 119 #[wv s, .int .i64 r] w (FW P w (endS x r)) := by
 have f31 : ∀ s : Wk, (wc s)[31]? = some (.int .i64 s.p.rt) := fun _ => rfl
 have T0 := Two.start w s
 have AQ := (A.mono (Q := fun b => P b ∧ b ≠ w.heap.size ∧ b ≠ w.heap.size + 1) (fun b hb q => ⟨q, by omega, by omega⟩)).keep T0.below
 obtain ⟨v0, hv0⟩ : ∃ u, u = (w.alloc (.cells (wc s) 46)).alloc (.cells (wc wz) 46) := ⟨_, rfl⟩
 rw [← hv0] at T0 AQ
 have x0 := T0.X.cells
 have z0 := T0.X.frozen
 have gK := qa68
 simp only [Option.isSome_some] at gK
 have T1 := T0.bZ 31 (.int .i64 r) ({ s with p := { s.p with rt := r } } : Wk) rfl
 have gu := AQ.cell (g := w.heap.size) (fun q => q.2.1 rfl) 31 (.int .i64 r)
 have HP' : ∀ b, w.heap.size + 1 + 1 ≤ b → (P b ∧ b ≠ w.heap.size ∧ b ≠ w.heap.size + 1) := fun b hb => ⟨hP b aj, by omega, by omega⟩
 have lt9 := T1.lt
 have HC := Lib.hid (fAt (P := fun b => P b ∧ b ≠ w.heap.size ∧ b ≠ w.heap.size + 1) (fun b hb => HP' b aj) (gu.pl (p := { s.p with rt := r }) (p' := { x.p with rt := r }) qa67) 0)
 go_enter Tryz.func119, Tryz.ntmps119
 go_wp2_with (first | ((with_reducible refine au rfl rfl ?_); rw [← hv0]; clear hv0) | (refine wpList_load_row rfl 46 _ rfl (w.heap.size) rfl _ (wc ({ s with p := { s.p with rt := r } } : Wk)) (0, 0) _ dG Tryz.underlying46 rfl ah ?_))
 refine HC.out.mono ?_
 rintro e w9 ⟨s9, rfl, A9, hb9⟩
 have T9 := T1.keep hb9
 go_wp2_with (first | (refine wpList_store_row rfl 46 _ _ rfl (w.heap.size + 1) (wc s9) rfl rfl _ _ eP ah ah ah ?_))
 have ZF := T9.bN s9
 refine bodyPost_ret (v := wv s9) ?_ rfl ⟨s9, rfl, ((A9.row (g := w.heap.size + 1) (fun q => q.2.2 rfl) _).mono (fun b _ q => q.1)), ZF.below⟩
 exact results_cell_row (p := 4) (ty := 46) Tryz.results119 _ _ (w.heap.size + 1) 46 _ (0, 0) _ rfl ZF.Z Tryz.underlying46 rfl ah
theorem fTake {P : Nat → Prop} {w : World} {s : Wk} {x : St} (hP : ∀ b, w.heap.size ≤ b → P b) (A : aM P w s x) (hx : Few 900 x) : Calls Tryz.prog 153 #[wv s] w (FW P w (tkS x)) :=
 (takeBeginAny s x hx w A.lies).mono fun e w' ⟨s2, h1, h2, h3⟩ => ⟨s2, h1, aM.of h2 (fun b _ q => hP b q), h3⟩
theorem fBody {P : Nat → Prop} {w : World} {s : Wk} {x : St} (hP : ∀ b, w.heap.size ≤ b → P b) (A : aM P w s x) (hx : Few 900 x) :
  Calls Tryz.prog 131 #[wv s] w (FW P w (bodyS x)) := by
 unfold bodyS
 obtain ⟨k0, hk0⟩ : ∃ k, x.p.o0 = k := ⟨_, rfl⟩
 rw [hk0]
 have q1 : (wc s)[1]? = some (.int .i64 k0) := by rw [show (wc s)[1]? = some (.int .i64 s.p.o0) from rfl, A.p, hk0]
 clear hk0
 by_cases h4 : k0 = 4
 ·subst h4
  rw [if_pos rfl]
  have T0 := Two.start w s
  have AQ := (A.mono (Q := fun b => P b ∧ b ≠ w.heap.size ∧ b ≠ w.heap.size + 1) (fun b hb q => ⟨q, by omega, by omega⟩)).keep T0.below
  obtain ⟨v0, hv0⟩ : ∃ u, u = (w.alloc (.cells (wc s) 46)).alloc (.cells (wc wz) 46) := ⟨_, rfl⟩
  rw [← hv0] at T0 AQ
  have x0 := T0.X.cells
  have z0 := T0.X.frozen
  have HP' : ∀ b, w.heap.size + 1 + 1 ≤ b → (P b ∧ b ≠ w.heap.size ∧ b ≠ w.heap.size + 1) := fun b hb => ⟨hP b aj, by omega, by omega⟩
  have lt9 := T0.lt
  have HC := Lib.hid (fAt (P := fun b => P b ∧ b ≠ w.heap.size ∧ b ≠ w.heap.size + 1) (fun b hb => HP' b aj) AQ 42)
  exact qaz
 rw [if_neg h4]
 have t4 : (k0 == 4) = false := by simp [h4]
 by_cases h5 : k0 = 5
 ·subst h5
  rw [if_pos rfl]
  have T0 := Two.start w s
  have AQ := (A.mono (Q := fun b => P b ∧ b ≠ w.heap.size ∧ b ≠ w.heap.size + 1) (fun b hb q => ⟨q, by omega, by omega⟩)).keep T0.below
  obtain ⟨v0, hv0⟩ : ∃ u, u = (w.alloc (.cells (wc s) 46)).alloc (.cells (wc wz) 46) := ⟨_, rfl⟩
  rw [← hv0] at T0 AQ
  have x0 := T0.X.cells
  have z0 := T0.X.frozen
  have HP' : ∀ b, w.heap.size + 1 + 1 ≤ b → (P b ∧ b ≠ w.heap.size ∧ b ≠ w.heap.size + 1) := fun b hb => ⟨hP b aj, by omega, by omega⟩
  have lt9 := T0.lt
  have HC := Lib.hid (fAt (P := fun b => P b ∧ b ≠ w.heap.size ∧ b ≠ w.heap.size + 1) (fun b hb => HP' b aj) AQ 46)
  exact qaz
 rw [if_neg h5]
 have t5 : (k0 == 5) = false := by simp [h5]
 by_cases h6 : k0 = 6
 ·subst h6
  rw [if_pos rfl]
  have T0 := Two.start w s
  have AQ := (A.mono (Q := fun b => P b ∧ b ≠ w.heap.size ∧ b ≠ w.heap.size + 1) (fun b hb q => ⟨q, by omega, by omega⟩)).keep T0.below
  obtain ⟨v0, hv0⟩ : ∃ u, u = (w.alloc (.cells (wc s) 46)).alloc (.cells (wc wz) 46) := ⟨_, rfl⟩
  rw [← hv0] at T0 AQ
  have x0 := T0.X.cells
  have z0 := T0.X.frozen
  have HP' : ∀ b, w.heap.size + 1 + 1 ≤ b → (P b ∧ b ≠ w.heap.size ∧ b ≠ w.heap.size + 1) := fun b hb => ⟨hP b aj, by omega, by omega⟩
  have lt9 := T0.lt
  have HC := Lib.hid (fAt (P := fun b => P b ∧ b ≠ w.heap.size ∧ b ≠ w.heap.size + 1) (fun b hb => HP' b aj) AQ 60)
  exact qaz
 rw [if_neg h6]
 have t6 : (k0 == 6) = false := by simp [h6]
 clear h4 h5 h6
 have T0 := Two.start w s
 have AQ := (A.mono (Q := fun b => P b ∧ b ≠ w.heap.size ∧ b ≠ w.heap.size + 1) (fun b hb q => ⟨q, by omega, by omega⟩)).keep T0.below
 obtain ⟨v0, hv0⟩ : ∃ u, u = (w.alloc (.cells (wc s) 46)).alloc (.cells (wc wz) 46) := ⟨_, rfl⟩
 rw [← hv0] at T0 AQ
 have x0 := T0.X.cells
 have z0 := T0.X.frozen
 have HP' : ∀ b, w.heap.size + 1 + 1 ≤ b → (P b ∧ b ≠ w.heap.size ∧ b ≠ w.heap.size + 1) := fun b hb => ⟨hP b aj, by omega, by omega⟩
 have lt9 := T0.lt
 have HC := Lib.hid (fTake (P := fun b => P b ∧ b ≠ w.heap.size ∧ b ≠ w.heap.size + 1) (fun b hb => HP' b aj) AQ hx)
 go_enter Tryz.func131, Tryz.ntmps131
 go_wp2_with (first | ((with_reducible refine au rfl rfl ?_); rw [← hv0]; clear hv0) | (refine wpList_load_row rfl 46 _ rfl (w.heap.size) rfl _ (wc s) (0, 0) _ bT Tryz.underlying46 rfl ah ?_))
 refine HC.out.mono ?_
 rintro e w9 ⟨s9, rfl, A9, hb9⟩
 have T9 := T0.keep hb9
 go_wp2_with (first | (refine wpList_store_row rfl 46 _ _ rfl (w.heap.size + 1) (wc s9) rfl rfl _ _ eP ah ah ah ?_))
 have ZF := T9.bN s9
 refine bodyPost_ret (v := wv s9) ?_ rfl ⟨s9, rfl, ((A9.row (g := w.heap.size + 1) (fun q => q.2.2 rfl) _).mono (fun b _ q => q.1)), ZF.below⟩
 exact results_cell_row (p := 2) (ty := 46) Tryz.results131 _ _ (w.heap.size + 1) 46 _ (0, 0) _ rfl ZF.Z Tryz.underlying46 rfl ah
theorem fInside (c : Cfg) {P : Nat → Prop} {w : World} {s : Wk} {x : St} (hP : ∀ b, w.heap.size ≤ b → P b) (A : aM P w s x) (hx : Few 900 x) :
  Calls Tryz.prog 134 #[cv c, wv s] w (FW P w (iO x)) := by
 unfold iO
 obtain ⟨k0, hk0⟩ : ∃ k, x.p.o0 = k := ⟨_, rfl⟩
 have q1 : (wc s)[1]? = some (.int .i64 k0) := by rw [show (wc s)[1]? = some (.int .i64 s.p.o0) from rfl, A.p, hk0]
 rw [hk0]
 clear hk0
 by_cases h1 : k0 = 1
 ·subst h1
  rw [if_pos rfl]
  have f8 : ∀ s : Wk, (wc s)[8]? = some (.bool s.p.pn) := fun _ => rfl
  have f22 : ∀ s : Wk, (wc s)[22]? = some (.int .i64 s.p.br) := fun _ => rfl
  have hbc : Below w.heap.size w (w.alloc (.cells (ccM c) 24)) := (Below.refl _ _).alloc (Nat.le_refl _) _
  have cO : (w.alloc (.cells (ccM c) 24)).heap.size = w.heap.size + 1 := aF
  have T0 := Two.aY hbc s
  rw [cO] at T0
  have AQ := (A.mono (Q := fun b => P b ∧ b ≠ w.heap.size + 1 ∧ b ≠ w.heap.size + 1 + 1) (fun b hb q => ⟨q, by omega, by omega⟩)).keep T0.below
  obtain ⟨v0, hv0⟩ : ∃ u, u = ((w.alloc (.cells (ccM c) 24)).alloc (.cells (wc s) 46)).alloc (.cells (wc wz) 46) := ⟨_, rfl⟩
  rw [← hv0] at T0 AQ
  have x0 := T0.X.cells
  have z0 := T0.X.frozen
  have gK := qa6a
  simp only [Option.isSome_some] at gK
  have T1 := T0.bZ 8 (.bool true) ({ s with p := { s.p with pn := true } } : Wk) rfl
  have gu := AQ.cell (g := w.heap.size + 1) (fun q => q.2.1 rfl) 8 (.bool true)
  have e102 := qa6b
  simp only [Option.isSome_some] at e102
  have T2 := T1.bZ 22 (.int .i64 0) ({ s with p := { s.p with pn := true, br := 0 } } : Wk) rfl
  have AQ20 := gu.cell (g := w.heap.size + 1) (fun q => q.2.1 rfl) 22 (.int .i64 0)
  have HP' : ∀ b, w.heap.size + 1 + 1 + 1 ≤ b → (P b ∧ b ≠ w.heap.size + 1 ∧ b ≠ w.heap.size + 1 + 1) := fun b hb => ⟨hP b aj, by omega, by omega⟩
  have lt9 := T2.lt
  have HC := Lib.hid (fAt (P := fun b => P b ∧ b ≠ w.heap.size + 1 ∧ b ≠ w.heap.size + 1 + 1) (fun b hb => HP' b aj) (AQ20.pl (p := { s.p with pn := true, br := 0 }) (p' := { x.p with pn := true, br := 0 }) (by rw [AQ20.p])) 0)
  go_enter Tryz.func134, Tryz.ntmps134
  go_wp2_with (first | ((with_reducible refine au rfl rfl ?_); rw [← hv0]; clear hv0) | (refine wpList_load_row rfl 46 _ rfl (w.heap.size + 1) rfl _ (wc ({ s with p := { s.p with pn := true, br := 0 } } : Wk)) (0, 0) _ qa51 Tryz.underlying46 rfl ah ?_))
  refine HC.out.mono ?_
  rintro e w9 ⟨s9, rfl, A9, hb9⟩
  have T9 := T2.keep hb9
  go_wp2_with (first | (refine wpList_store_row rfl 46 _ _ rfl (w.heap.size + 1 + 1) (wc s9) rfl rfl _ _ eP ah ah ah ?_))
  have ZF := T9.bN s9
  refine bodyPost_ret (v := wv s9) ?_ rfl ⟨s9, rfl, ((A9.row (g := w.heap.size + 1 + 1) (fun q => q.2.2 rfl) _).mono (fun b _ q => q.1)), ZF.below⟩
  exact results_cell_row (p := 4) (ty := 46) Tryz.results134 _ _ (w.heap.size + 1 + 1) 46 _ (0, 0) _ rfl ZF.Z Tryz.underlying46 rfl ah
 rw [if_neg h1]
 have t1 : (k0 != 1) = true := qa6c
 clear h1
 have hbc : Below w.heap.size w (w.alloc (.cells (ccM c) 24)) := (Below.refl _ _).alloc (Nat.le_refl _) _
 have cO : (w.alloc (.cells (ccM c) 24)).heap.size = w.heap.size + 1 := aF
 have T0 := Two.aY hbc s
 rw [cO] at T0
 have AQ := (A.mono (Q := fun b => P b ∧ b ≠ w.heap.size + 1 ∧ b ≠ w.heap.size + 1 + 1) (fun b hb q => ⟨q, by omega, by omega⟩)).keep T0.below
 obtain ⟨v0, hv0⟩ : ∃ u, u = ((w.alloc (.cells (ccM c) 24)).alloc (.cells (wc s) 46)).alloc (.cells (wc wz) 46) := ⟨_, rfl⟩
 rw [← hv0] at T0 AQ
 have x0 := T0.X.cells
 have z0 := T0.X.frozen
 have HP' : ∀ b, w.heap.size + 1 + 1 + 1 ≤ b → (P b ∧ b ≠ w.heap.size + 1 ∧ b ≠ w.heap.size + 1 + 1) := fun b hb => ⟨hP b aj, by omega, by omega⟩
 have lt9 := T0.lt
 have HC := Lib.hid (fBody (P := fun b => P b ∧ b ≠ w.heap.size + 1 ∧ b ≠ w.heap.size + 1 + 1) (fun b hb => HP' b aj) AQ hx)
 go_enter Tryz.func134, Tryz.ntmps134
 go_wp2_with (first | ((with_reducible refine au rfl rfl ?_); rw [← hv0]; clear hv0) | (refine wpList_load_row rfl 46 _ rfl (w.heap.size + 1) rfl _ (wc s) (0, 0) _ bT Tryz.underlying46 rfl ah ?_))
 refine HC.out.mono ?_
 rintro e w9 ⟨s9, rfl, A9, hb9⟩
 have T9 := T0.keep hb9
 go_wp2_with (first | (refine wpList_store_row rfl 46 _ _ rfl (w.heap.size + 1 + 1) (wc s9) rfl rfl _ _ eP ah ah ah ?_))
 have ZF := T9.bN s9
 refine bodyPost_ret (v := wv s9) ?_ rfl ⟨s9, rfl, ((A9.row (g := w.heap.size + 1 + 1) (fun q => q.2.2 rfl) _).mono (fun b _ q => q.1)), ZF.below⟩
 exact results_cell_row (p := 4) (ty := 46) Tryz.results134 _ _ (w.heap.size + 1 + 1) 46 _ (0, 0) _ rfl ZF.Z Tryz.underlying46 rfl ah
theorem fOutside (c : Cfg) {P : Nat → Prop} {w : World} {s : Wk} {x : St} (hP : ∀ b, w.heap.size ≤ b → P b) (A : aM P w s x) :
  Calls Tryz.prog 135 #[cv c, wv s] w (FW P w (outsideS x)) := by
 unfold outsideS
 obtain ⟨k0, hk0⟩ : ∃ k, x.p.o0 = k := ⟨_, rfl⟩
 have q1 : (wc s)[1]? = some (.int .i64 k0) := by rw [show (wc s)[1]? = some (.int .i64 s.p.o0) from rfl, A.p, hk0]
 rw [hk0]
 clear hk0
 by_cases h1 : k0 = 2
 ·subst h1
  rw [if_pos rfl]
  have f8 : ∀ s : Wk, (wc s)[8]? = some (.bool s.p.pn) := fun _ => rfl
  have f22 : ∀ s : Wk, (wc s)[22]? = some (.int .i64 s.p.br) := fun _ => rfl
  have hbc : Below w.heap.size w (w.alloc (.cells (ccM c) 24)) := (Below.refl _ _).alloc (Nat.le_refl _) _
  have cO : (w.alloc (.cells (ccM c) 24)).heap.size = w.heap.size + 1 := aF
  have T0 := Two.aY hbc s
  rw [cO] at T0
  have AQ := (A.mono (Q := fun b => P b ∧ b ≠ w.heap.size + 1 ∧ b ≠ w.heap.size + 1 + 1) (fun b hb q => ⟨q, by omega, by omega⟩)).keep T0.below
  obtain ⟨v0, hv0⟩ : ∃ u, u = ((w.alloc (.cells (ccM c) 24)).alloc (.cells (wc s) 46)).alloc (.cells (wc wz) 46) := ⟨_, rfl⟩
  rw [← hv0] at T0 AQ
  have x0 := T0.X.cells
  have z0 := T0.X.frozen
  have gK := qa6a
  simp only [Option.isSome_some] at gK
  have T1 := T0.bZ 8 (.bool false) ({ s with p := { s.p with pn := false } } : Wk) rfl
  have gu := AQ.cell (g := w.heap.size + 1) (fun q => q.2.1 rfl) 8 (.bool false)
  have e102 := qa6b
  simp only [Option.isSome_some] at e102
  have T2 := T1.bZ 22 (.int .i64 0) ({ s with p := { s.p with pn := false, br := 0 } } : Wk) rfl
  have AQ20 := gu.cell (g := w.heap.size + 1) (fun q => q.2.1 rfl) 22 (.int .i64 0)
  have HP' : ∀ b, w.heap.size + 1 + 1 + 1 ≤ b → (P b ∧ b ≠ w.heap.size + 1 ∧ b ≠ w.heap.size + 1 + 1) := fun b hb => ⟨hP b aj, by omega, by omega⟩
  have lt9 := T2.lt
  have HC := Lib.hid (fAt (P := fun b => P b ∧ b ≠ w.heap.size + 1 ∧ b ≠ w.heap.size + 1 + 1) (fun b hb => HP' b aj) (AQ20.pl (p := { s.p with pn := false, br := 0 }) (p' := { x.p with pn := false, br := 0 }) (by rw [AQ20.p])) 0)
  go_enter Tryz.func135, Tryz.ntmps135
  go_wp2_with (first | ((with_reducible refine au rfl rfl ?_); rw [← hv0]; clear hv0) | (refine wpList_load_row rfl 46 _ rfl (w.heap.size + 1) rfl _ (wc ({ s with p := { s.p with pn := false, br := 0 } } : Wk)) (0, 0) _ qa51 Tryz.underlying46 rfl ah ?_))
  refine HC.out.mono ?_
  rintro e w9 ⟨s9, rfl, A9, hb9⟩
  have T9 := T2.keep hb9
  go_wp2_with (first | (refine wpList_store_row rfl 46 _ _ rfl (w.heap.size + 1 + 1) (wc s9) rfl rfl _ _ eP ah ah ah ?_))
  have ZF := T9.bN s9
  refine bodyPost_ret (v := wv s9) ?_ rfl ⟨s9, rfl, ((A9.row (g := w.heap.size + 1 + 1) (fun q => q.2.2 rfl) _).mono (fun b _ q => q.1)), ZF.below⟩
  exact results_cell_row (p := 4) (ty := 46) Tryz.results135 _ _ (w.heap.size + 1 + 1) 46 _ (0, 0) _ rfl ZF.Z Tryz.underlying46 rfl ah
 rw [if_neg h1]
 have t1 : (k0 == 2) = false := qa6c
 clear h1
 have hbc : Below w.heap.size w (w.alloc (.cells (ccM c) 24)) := (Below.refl _ _).alloc (Nat.le_refl _) _
 have cO : (w.alloc (.cells (ccM c) 24)).heap.size = w.heap.size + 1 := aF
 have T0 := Two.aY hbc s
 rw [cO] at T0
 have AQ := (A.mono (Q := fun b => P b ∧ b ≠ w.heap.size + 1 ∧ b ≠ w.heap.size + 1 + 1) (fun b hb q => ⟨q, by omega, by omega⟩)).keep T0.below
 obtain ⟨v0, hv0⟩ : ∃ u, u = ((w.alloc (.cells (ccM c) 24)).alloc (.cells (wc s) 46)).alloc (.cells (wc wz) 46) := ⟨_, rfl⟩
 rw [← hv0] at T0 AQ
 have x0 := T0.X.cells
 have z0 := T0.X.frozen
 have HP' : ∀ b, w.heap.size + 1 + 1 + 1 ≤ b → (P b ∧ b ≠ w.heap.size + 1 ∧ b ≠ w.heap.size + 1 + 1) := fun b hb => ⟨hP b aj, by omega, by omega⟩
 have lt9 := T0.lt
 have HC := Lib.hid (fAt (P := fun b => P b ∧ b ≠ w.heap.size + 1 ∧ b ≠ w.heap.size + 1 + 1) (fun b hb => HP' b aj) AQ 0)
 go_enter Tryz.func135, Tryz.ntmps135
 go_wp2_with (first | ((with_reducible refine au rfl rfl ?_); rw [← hv0]; clear hv0) | (refine wpList_load_row rfl 46 _ rfl (w.heap.size + 1) rfl _ (wc s) (0, 0) _ bT Tryz.underlying46 rfl ah ?_))
 refine HC.out.mono ?_
 rintro e w9 ⟨s9, rfl, A9, hb9⟩
 have T9 := T0.keep hb9
 go_wp2_with (first | (refine wpList_store_row rfl 46 _ _ rfl (w.heap.size + 1 + 1) (wc s9) rfl rfl _ _ eP ah ah ah ?_))
 have ZF := T9.bN s9
 refine bodyPost_ret (v := wv s9) ?_ rfl ⟨s9, rfl, ((A9.row (g := w.heap.size + 1 + 1) (fun q => q.2.2 rfl) _).mono (fun b _ q => q.1)), ZF.below⟩
 exact results_cell_row (p := 4) (ty := 46) Tryz.results135 _ _ (w.heap.size + 1 + 1) 46 _ (0, 0) _ rfl ZF.Z Tryz.underlying46 rfl ah
theorem fFilled (c : Cfg) {P : Nat → Prop} {w : World} {s : Wk} {x : St} (hP : ∀ b, w.heap.size ≤ b → P b) (A : aM P w s x) :
  Calls Tryz.prog 155 #[cv c, wv s] w (FW P w (filledS x)) := by
 unfold filledS
 obtain ⟨k0, hk0⟩ : ∃ k, x.p.o0 = k := ⟨_, rfl⟩
 have q1 : (wc s)[1]? = some (.int .i64 k0) := by rw [show (wc s)[1]? = some (.int .i64 s.p.o0) from rfl, A.p, hk0]
 rw [hk0]
 clear hk0
 by_cases h1 : k0 = 5
 ·subst h1
  rw [if_pos rfl]
  have hbc : Below w.heap.size w (w.alloc (.cells (ccM c) 24)) := (Below.refl _ _).alloc (Nat.le_refl _) _
  have cO : (w.alloc (.cells (ccM c) 24)).heap.size = w.heap.size + 1 := aF
  have T0 := Two.aY hbc s
  rw [cO] at T0
  have AQ := (A.mono (Q := fun b => P b ∧ b ≠ w.heap.size + 1 ∧ b ≠ w.heap.size + 1 + 1) (fun b hb q => ⟨q, by omega, by omega⟩)).keep T0.below
  obtain ⟨v0, hv0⟩ : ∃ u, u = ((w.alloc (.cells (ccM c) 24)).alloc (.cells (wc s) 46)).alloc (.cells (wc wz) 46) := ⟨_, rfl⟩
  rw [← hv0] at T0 AQ
  have x0 := T0.X.cells
  have z0 := T0.X.frozen
  have HP' : ∀ b, w.heap.size + 1 + 1 + 1 ≤ b → (P b ∧ b ≠ w.heap.size + 1 ∧ b ≠ w.heap.size + 1 + 1) := fun b hb => ⟨hP b aj, by omega, by omega⟩
  have lt9 := T0.lt
  have HC := Lib.hid (fAt (P := fun b => P b ∧ b ≠ w.heap.size + 1 ∧ b ≠ w.heap.size + 1 + 1) (fun b hb => HP' b aj) AQ 44)
  go_enter Tryz.func155, Tryz.ntmps155
  go_wp2_with (first | ((with_reducible refine au rfl rfl ?_); rw [← hv0]; clear hv0) | (refine wpList_load_row rfl 46 _ rfl (w.heap.size + 1) rfl _ (wc s) (0, 0) _ bT Tryz.underlying46 rfl ah ?_))
  refine HC.out.mono ?_
  rintro e w9 ⟨s9, rfl, A9, hb9⟩
  have T9 := T0.keep hb9
  go_wp2_with (first | (refine wpList_store_row rfl 46 _ _ rfl (w.heap.size + 1 + 1) (wc s9) rfl rfl _ _ eP ah ah ah ?_))
  have ZF := T9.bN s9
  refine bodyPost_ret (v := wv s9) ?_ rfl ⟨s9, rfl, ((A9.row (g := w.heap.size + 1 + 1) (fun q => q.2.2 rfl) _).mono (fun b _ q => q.1)), ZF.below⟩
  exact results_cell_row (p := 4) (ty := 46) Tryz.results155 _ _ (w.heap.size + 1 + 1) 46 _ (0, 0) _ rfl ZF.Z Tryz.underlying46 rfl ah
 rw [if_neg h1]
 have t1 : (k0 == 5) = false := qa6c
 clear h1
 have hbc : Below w.heap.size w (w.alloc (.cells (ccM c) 24)) := (Below.refl _ _).alloc (Nat.le_refl _) _
 have cO : (w.alloc (.cells (ccM c) 24)).heap.size = w.heap.size + 1 := aF
 have T0 := Two.aY hbc s
 rw [cO] at T0
 have AQ := (A.mono (Q := fun b => P b ∧ b ≠ w.heap.size + 1 ∧ b ≠ w.heap.size + 1 + 1) (fun b hb q => ⟨q, by omega, by omega⟩)).keep T0.below
 obtain ⟨v0, hv0⟩ : ∃ u, u = ((w.alloc (.cells (ccM c) 24)).alloc (.cells (wc s) 46)).alloc (.cells (wc wz) 46) := ⟨_, rfl⟩
 rw [← hv0] at T0 AQ
 have x0 := T0.X.cells
 have z0 := T0.X.frozen
 have HP' : ∀ b, w.heap.size + 1 + 1 + 1 ≤ b → (P b ∧ b ≠ w.heap.size + 1 ∧ b ≠ w.heap.size + 1 + 1) := fun b hb => ⟨hP b aj, by omega, by omega⟩
 have lt9 := T0.lt
 have HC := Lib.hid (fAt (P := fun b => P b ∧ b ≠ w.heap.size + 1 ∧ b ≠ w.heap.size + 1 + 1) (fun b hb => HP' b aj) AQ 20)
 go_enter Tryz.func155, Tryz.ntmps155
 go_wp2_with (first | ((with_reducible refine au rfl rfl ?_); rw [← hv0]; clear hv0) | (refine wpList_load_row rfl 46 _ rfl (w.heap.size + 1) rfl _ (wc s) (0, 0) _ bT Tryz.underlying46 rfl ah ?_))
 refine HC.out.mono ?_
 rintro e w9 ⟨s9, rfl, A9, hb9⟩
 have T9 := T0.keep hb9
 go_wp2_with (first | (refine wpList_store_row rfl 46 _ _ rfl (w.heap.size + 1 + 1) (wc s9) rfl rfl _ _ eP ah ah ah ?_))
 have ZF := T9.bN s9
 refine bodyPost_ret (v := wv s9) ?_ rfl ⟨s9, rfl, ((A9.row (g := w.heap.size + 1 + 1) (fun q => q.2.2 rfl) _).mono (fun b _ q => q.1)), ZF.below⟩
 exact results_cell_row (p := 4) (ty := 46) Tryz.results155 _ _ (w.heap.size + 1 + 1) 46 _ (0, 0) _ rfl ZF.Z Tryz.underlying46 rfl ah
theorem fFirst (c : Cfg) {P : Nat → Prop} {w : World} {s : Wk} {x : St} (hP : ∀ b, w.heap.size ≤ b → P b) (A : aM P w s x) {a : Nat} {n : Int} (K : Bk w a #[.int .i64 n] 3) :
  Calls Tryz.prog 169 #[cv c, wv s, .pointer (some ⟨a, 0, none⟩)] w (FW P w (dK n x)) := by
 have la := K.lt
 have f28 : ∀ s : Wk, (wc s)[28]? = some (.int .i64 s.p.j) := fun _ => rfl
 have hbc : Below w.heap.size w (w.alloc (.cells (ccM c) 24)) := (Below.refl _ _).alloc (Nat.le_refl _) _
 have cO : (w.alloc (.cells (ccM c) 24)).heap.size = w.heap.size + 1 := aF
 have T0 := Two.aY hbc s
 rw [cO] at T0
 have AQ := (A.mono (Q := fun b => P b ∧ b ≠ w.heap.size + 1 ∧ b ≠ w.heap.size + 1 + 1) (fun b hb q => ⟨q, by omega, by omega⟩)).keep T0.below
 obtain ⟨v0, hv0⟩ : ∃ u, u = ((w.alloc (.cells (ccM c) 24)).alloc (.cells (wc s) 46)).alloc (.cells (wc wz) 46) := ⟨_, rfl⟩
 rw [← hv0] at T0 AQ
 have x0 := T0.X.cells
 have z0 := T0.X.frozen
 have gK := qa6d
 simp only [Option.isSome_some] at gK
 have T1 := T0.bZ 28 (.int .i64 0) ({ s with p := { s.p with j := 0 } } : Wk) rfl
 have gu := AQ.cell (g := w.heap.size + 1) (fun q => q.2.1 rfl) 28 (.int .i64 0)
 have ka := (K.keep T1.below).cells
 have HP' : ∀ b, w.heap.size + 1 + 1 + 1 ≤ b → (P b ∧ b ≠ w.heap.size + 1 ∧ b ≠ w.heap.size + 1 + 1) := fun b hb => ⟨hP b aj, by omega, by omega⟩
 have lt9 := T1.lt
 have HC := Lib.hid (fAt (P := fun b => P b ∧ b ≠ w.heap.size + 1 ∧ b ≠ w.heap.size + 1 + 1) (fun b hb => HP' b aj) (gu.pl (p := { s.p with j := 0 }) (p' := { x.p with j := 0 }) qa67) n)
 go_enter Tryz.func169, Tryz.ntmps169
 go_wp2_with (first | ((with_reducible refine au rfl rfl ?_); rw [← hv0]; clear hv0) | (refine wpList_load_row rfl 46 _ rfl (w.heap.size + 1) rfl _ (wc ({ s with p := { s.p with j := 0 } } : Wk)) (0, 0) _ dG Tryz.underlying46 rfl ah ?_))
 refine HC.out.mono ?_
 rintro e w9 ⟨s9, rfl, A9, hb9⟩
 have T9 := T1.keep hb9
 go_wp2_with (first | (refine wpList_store_row rfl 46 _ _ rfl (w.heap.size + 1 + 1) (wc s9) rfl rfl _ _ eP ah ah ah ?_))
 have ZF := T9.bN s9
 refine bodyPost_ret (v := wv s9) ?_ rfl ⟨s9, rfl, ((A9.row (g := w.heap.size + 1 + 1) (fun q => q.2.2 rfl) _).mono (fun b _ q => q.1)), ZF.below⟩
 exact results_cell_row (p := 5) (ty := 46) Tryz.results169 _ _ (w.heap.size + 1 + 1) 46 _ (0, 0) _ rfl ZF.Z Tryz.underlying46 rfl ah
end Go.Proofs.YtaiodbcnbcdokaaGreat.Me
namespace Go.Proofs.YtaiodbcnbcdokaaGreat.Me
open Go Go.RowKit Go.ChangeMaps Gro Own Wd Ap Go.Proofs.YtaiodbcnbcdokaaGreat.Pl Wo Mr
section
variable {κ : Type} [DecidableEq κ]
variable {P : Program} {ops : Array Oper} {rest : List Oper} {o : Oper} {a : Act} {w : World} {Q : Exit → Act → World → Prop} {t kt et : TypeId} {val : κ → Value} {b : Nat} {L : List (κ × Value)}
theorem eF (hw : Region.wanted o (yielded ops a.tmps) = true) (m x v : Operand) (ho : o.op = .insert t m x v) (K : Keys P kt val) (ht : P.underlying t = some (.map kt et))
  (b : Nat) (L : List (κ × Value)) (hm : a.eval m = .map (some b)) (k : κ) (hx : a.eval x = val k) (y : Value) (hv : a.eval v = y) (h : MapAt w b val L)
  (hn : ∀ w', MapAt w' b val (upd k y L) → Only b w w' → wpList P ops Q rest (a.put o.dst undef) w') : wpList P ops Q (o :: rest) a w :=
 wpList_step fun Kc hK => qa10
end
def shV (n : ByteArray) (t nu sl sr : Bool) : Value := .agg #[.string n, .bool t, .bool nu, .bool sl, .bool sr]
def gX : List (Int × Value) := [(1, shV ⟨#[112, 105, 110]⟩ false false false false), (2, shV ⟨#[117, 110, 112, 105, 110]⟩ false false false false), (7, shV ⟨#[112, 101, 101, 107]⟩ false false false false), (8, shV ⟨#[99, 111, 108, 108, 101, 99, 116]⟩ false false false false), (3, shV ⟨#[97, 108, 108, 111, 99]⟩ false true false true), (4, shV ⟨#[102, 114, 101, 101]⟩ true false false true), (6, shV ⟨#[100, 101, 114, 101, 102]⟩ true false false true), (5, shV ⟨#[119, 114, 105, 116, 101]⟩ true true false true), (9, shV ⟨#[100, 114, 97, 105, 110]⟩ false false true false)]
theorem b_pin (w : World) : (Instr.build 167 #[(0, .string ⟨#[112, 105, 110]⟩)]).run Tryz.prog w = .ok (shV ⟨#[112, 105, 110]⟩ false false false false) w := run_build w _ _ _ ah
theorem b_unpin (w : World) : (Instr.build 167 #[(0, .string ⟨#[117, 110, 112, 105, 110]⟩)]).run Tryz.prog w = .ok (shV ⟨#[117, 110, 112, 105, 110]⟩ false false false false) w := run_build w _ _ _ ah
theorem b_peek (w : World) : (Instr.build 167 #[(0, .string ⟨#[112, 101, 101, 107]⟩)]).run Tryz.prog w = .ok (shV ⟨#[112, 101, 101, 107]⟩ false false false false) w := run_build w _ _ _ ah
theorem b_collect (w : World) : (Instr.build 167 #[(0, .string ⟨#[99, 111, 108, 108, 101, 99, 116]⟩)]).run Tryz.prog w = .ok (shV ⟨#[99, 111, 108, 108, 101, 99, 116]⟩ false false false false) w := run_build w _ _ _ ah
theorem b_alloc (w : World) : (Instr.build 167 #[(0, .string ⟨#[97, 108, 108, 111, 99]⟩), (2, .bool true), (4, .bool true)]).run Tryz.prog w = .ok (shV ⟨#[97, 108, 108, 111, 99]⟩ false true false true) w := run_build w _ _ _ ah
theorem b_free (w : World) : (Instr.build 167 #[(0, .string ⟨#[102, 114, 101, 101]⟩), (1, .bool true), (4, .bool true)]).run Tryz.prog w = .ok (shV ⟨#[102, 114, 101, 101]⟩ true false false true) w := run_build w _ _ _ ah
theorem b_deref (w : World) : (Instr.build 167 #[(0, .string ⟨#[100, 101, 114, 101, 102]⟩), (1, .bool true), (4, .bool true)]).run Tryz.prog w = .ok (shV ⟨#[100, 101, 114, 101, 102]⟩ true false false true) w := run_build w _ _ _ ah
theorem b_write (w : World) : (Instr.build 167 #[(0, .string ⟨#[119, 114, 105, 116, 101]⟩), (1, .bool true), (2, .bool true), (4, .bool true)]).run Tryz.prog w = .ok (shV ⟨#[119, 114, 105, 116, 101]⟩ true true false true) w := run_build w _ _ _ ah
theorem b_drain (w : World) : (Instr.build 167 #[(0, .string ⟨#[100, 114, 97, 105, 110]⟩), (3, .bool true)]).run Tryz.prog w = .ok (shV ⟨#[100, 114, 97, 105, 110]⟩ false false true false) w := run_build w _ _ _ ah
theorem shapes (w : World) : Calls Tryz.prog 116 #[] w fun e w' => ∃ b, e = .returned (.map (some b)) ∧ MapAt w' b iV gX ∧ w.heap.size ≤ b ∧ Below w.heap.size w w' := by
 have hmm := @run_makeMap Tryz.prog
 have M0 : MapAt (w.alloc (.map #[] 0)) w.heap.size iV [] := (jU.new w).at
 have hb0 : Below w.heap.size w (w.alloc (.map #[] 0)) := (Below.refl _ _).alloc (Nat.le_refl _) _
 have h_pin := b_pin
 have h_unpin := b_unpin
 have h_peek := b_peek
 have h_collect := b_collect
 have h_alloc := b_alloc
 have h_free := b_free
 have h_deref := b_deref
 have h_write := b_write
 have h_drain := b_drain
 go_enter Tryz.func116, Tryz.ntmps116
 go_wp2_with (first | (refine eF rfl _ _ _ rfl fJ Tryz.underlying168 w.heap.size ([]) rfl (1 : Int) rfl (shV ⟨#[112, 105, 110]⟩ false false false false) rfl (by exact M0) ?_; intro w1 M1 O1; have hb1 := hb0.trans ((O1.below (B := w.heap.size) (Nat.le_refl _))); clear M0 O1 hb0) | (refine eF rfl _ _ _ rfl fJ Tryz.underlying168 w.heap.size ([(1, shV ⟨#[112, 105, 110]⟩ false false false false)]) rfl (2 : Int) rfl (shV ⟨#[117, 110, 112, 105, 110]⟩ false false false false) rfl (by exact M1) ?_; intro w2 M2 O2; have hb2 := hb1.trans ((O2.below (B := w.heap.size) (Nat.le_refl _))); clear M1 O2 hb1) | (refine eF rfl _ _ _ rfl fJ Tryz.underlying168 w.heap.size ([(1, shV ⟨#[112, 105, 110]⟩ false false false false), (2, shV ⟨#[117, 110, 112, 105, 110]⟩ false false false false)]) rfl (7 : Int) rfl (shV ⟨#[112, 101, 101, 107]⟩ false false false false) rfl (by exact M2) ?_; intro w3 M3 O3; have hb3 := hb2.trans ((O3.below (B := w.heap.size) (Nat.le_refl _))); clear M2 O3 hb2) | (refine eF rfl _ _ _ rfl fJ Tryz.underlying168 w.heap.size ([(1, shV ⟨#[112, 105, 110]⟩ false false false false), (2, shV ⟨#[117, 110, 112, 105, 110]⟩ false false false false), (7, shV ⟨#[112, 101, 101, 107]⟩ false false false false)]) rfl (8 : Int) rfl (shV ⟨#[99, 111, 108, 108, 101, 99, 116]⟩ false false false false) rfl (by exact M3) ?_; intro w4 M4 O4; have hb4 := hb3.trans ((O4.below (B := w.heap.size) (Nat.le_refl _))); clear M3 O4 hb3) | (refine eF rfl _ _ _ rfl fJ Tryz.underlying168 w.heap.size ([(1, shV ⟨#[112, 105, 110]⟩ false false false false), (2, shV ⟨#[117, 110, 112, 105, 110]⟩ false false false false), (7, shV ⟨#[112, 101, 101, 107]⟩ false false false false), (8, shV ⟨#[99, 111, 108, 108, 101, 99, 116]⟩ false false false false)]) rfl (3 : Int) rfl (shV ⟨#[97, 108, 108, 111, 99]⟩ false true false true) rfl (by exact M4) ?_; intro w5 M5 O5; have hb5 := hb4.trans ((O5.below (B := w.heap.size) (Nat.le_refl _))); clear M4 O5 hb4) | (refine eF rfl _ _ _ rfl fJ Tryz.underlying168 w.heap.size ([(1, shV ⟨#[112, 105, 110]⟩ false false false false), (2, shV ⟨#[117, 110, 112, 105, 110]⟩ false false false false), (7, shV ⟨#[112, 101, 101, 107]⟩ false false false false), (8, shV ⟨#[99, 111, 108, 108, 101, 99, 116]⟩ false false false false), (3, shV ⟨#[97, 108, 108, 111, 99]⟩ false true false true)]) rfl (4 : Int) rfl (shV ⟨#[102, 114, 101, 101]⟩ true false false true) rfl (by exact M5) ?_; intro w6 M6 O6; have hb6 := hb5.trans ((O6.below (B := w.heap.size) (Nat.le_refl _))); clear M5 O6 hb5) | (refine eF rfl _ _ _ rfl fJ Tryz.underlying168 w.heap.size ([(1, shV ⟨#[112, 105, 110]⟩ false false false false), (2, shV ⟨#[117, 110, 112, 105, 110]⟩ false false false false), (7, shV ⟨#[112, 101, 101, 107]⟩ false false false false), (8, shV ⟨#[99, 111, 108, 108, 101, 99, 116]⟩ false false false false), (3, shV ⟨#[97, 108, 108, 111, 99]⟩ false true false true), (4, shV ⟨#[102, 114, 101, 101]⟩ true false false true)]) rfl (6 : Int) rfl (shV ⟨#[100, 101, 114, 101, 102]⟩ true false false true) rfl (by exact M6) ?_; intro w7 M7 O7; have hb7 := hb6.trans ((O7.below (B := w.heap.size) (Nat.le_refl _))); clear M6 O7 hb6) | (refine eF rfl _ _ _ rfl fJ Tryz.underlying168 w.heap.size ([(1, shV ⟨#[112, 105, 110]⟩ false false false false), (2, shV ⟨#[117, 110, 112, 105, 110]⟩ false false false false), (7, shV ⟨#[112, 101, 101, 107]⟩ false false false false), (8, shV ⟨#[99, 111, 108, 108, 101, 99, 116]⟩ false false false false), (3, shV ⟨#[97, 108, 108, 111, 99]⟩ false true false true), (4, shV ⟨#[102, 114, 101, 101]⟩ true false false true), (6, shV ⟨#[100, 101, 114, 101, 102]⟩ true false false true)]) rfl (5 : Int) rfl (shV ⟨#[119, 114, 105, 116, 101]⟩ true true false true) rfl (by exact M7) ?_; intro w8 M8 O8; have hb8 := hb7.trans ((O8.below (B := w.heap.size) (Nat.le_refl _))); clear M7 O8 hb7) | (refine eF rfl _ _ _ rfl fJ Tryz.underlying168 w.heap.size ([(1, shV ⟨#[112, 105, 110]⟩ false false false false), (2, shV ⟨#[117, 110, 112, 105, 110]⟩ false false false false), (7, shV ⟨#[112, 101, 101, 107]⟩ false false false false), (8, shV ⟨#[99, 111, 108, 108, 101, 99, 116]⟩ false false false false), (3, shV ⟨#[97, 108, 108, 111, 99]⟩ false true false true), (4, shV ⟨#[102, 114, 101, 101]⟩ true false false true), (6, shV ⟨#[100, 101, 114, 101, 102]⟩ true false false true), (5, shV ⟨#[119, 114, 105, 116, 101]⟩ true true false true)]) rfl (9 : Int) rfl (shV ⟨#[100, 114, 97, 105, 110]⟩ false false true false) rfl (by exact M8) ?_; intro w9 M9 O9; have hb9 := hb8.trans ((O9.below (B := w.heap.size) (Nat.le_refl _))); clear M8 O9 hb8))
 go_ret
 exact ⟨_, rfl, M9, Nat.le_refl _, hb9⟩
theorem zero_sh (w : World) : (zeroValue 167).run Tryz.prog w = .ok (shV ⟨#[]⟩ false false false false) w := ah
theorem jm (k : Int) : ∃ n nu sl, (Mr.look k gX).getD (shV ⟨#[]⟩ false false false false) = shV n (asksB k) nu sl (gW k) := by
 unfold gX asksB gW
 simp only [Mr.look]
 by_cases h1 : k = 1
 ·subst h1
  exact ⟨_, _, _, rfl⟩
 rw [if_neg h1]
 by_cases h2 : k = 2
 ·subst h2
  exact ⟨_, _, _, rfl⟩
 rw [if_neg h2]
 by_cases h7 : k = 7
 ·subst h7
  exact ⟨_, _, _, rfl⟩
 rw [if_neg h7]
 by_cases h8 : k = 8
 ·subst h8
  exact ⟨_, _, _, rfl⟩
 rw [if_neg h8]
 by_cases h3 : k = 3
 ·subst h3
  exact ⟨_, _, _, rfl⟩
 rw [if_neg h3]
 by_cases h4 : k = 4
 ·subst h4
  exact ⟨_, _, _, rfl⟩
 rw [if_neg h4]
 by_cases h6 : k = 6
 ·subst h6
  exact ⟨_, _, _, rfl⟩
 rw [if_neg h6]
 by_cases h5 : k = 5
 ·subst h5
  exact ⟨_, _, _, rfl⟩
 rw [if_neg h5]
 by_cases h9 : k = 9
 ·subst h9
  exact ⟨_, _, _, rfl⟩
 rw [if_neg h9]
 have t3 : (k == 3) = false := qa5w
 have t4 : (k == 4) = false := by simp [h4]
 have t5 : (k == 5) = false := by simp [h5]
 have t6 : (k == 6) = false := by simp [h6]
 rw [t3, t4, t5, t6]
 exact ⟨_, _, _, rfl⟩
theorem iY {w : World} {b : Nat} (hm : MapAt w b iV gX) (k : Int) : ∃ n nu sl, (Instr.lookup 168 (.map (some b)) (.int .i64 k) false).run Tryz.prog w = .ok (shV n (asksB k) nu sl (gW k)) w := by
 obtain ⟨n, nu, sl, h⟩ := jm k
 have := run_look fJ Tryz.underlying168 (zero_sh w) hm k false
 rw [h] at this
 exact ⟨n, nu, sl, this⟩
abbrev opV (k a b c : Int) (d : Bool) (e f : Int) : Value := .agg #[.int .i64 k, .int .u64 a, .int .u64 b, .int .i64 c, .bool d, .int .i64 e, .int .i64 f]
theorem fld1 (n : ByteArray) (a b c d : Bool) (w : World) : (Instr.field 167 (.agg #[.string n, .bool a, .bool b, .bool c, .bool d]) 1).run Tryz.prog w = .ok (.bool a) w := ah
theorem fld4 (n : ByteArray) (a b c d : Bool) (w : World) : (Instr.field 167 (.agg #[.string n, .bool a, .bool b, .bool c, .bool d]) 4).run Tryz.prog w = .ok (.bool d) w := ah
theorem operAsks (k a b c : Int) (d : Bool) (e f : Int) (w : World) : Calls Tryz.prog 92 #[opV k a b c d e f] w fun en w' => en = .returned (.bool (asksB k)) ∧ Below w.heap.size w w' := by
 have hfd := fld1
 have K0 := Bk.new w #[.int .i64 k, .int .u64 a, .int .u64 b, .int .i64 c, .bool d, .int .i64 e, .int .i64 f] 30
 have hb0 : Below w.heap.size w (w.alloc (.cells #[.int .i64 k, .int .u64 a, .int .u64 b, .int .i64 c, .bool d, .int .i64 e, .int .i64 f] 30)) := (Below.refl _ _).alloc (Nat.le_refl _) _
 obtain ⟨bb, hbb⟩ : ∃ bb, bb = asksB k := ⟨_, rfl⟩
 rw [← hbb]
 have HBB := Lib.hid hbb
 clear hbb
 go_enter Tryz.func92, Tryz.ntmps92
 exact qa11
theorem operShares (k a b c : Int) (d : Bool) (e f : Int) (w : World) : Calls Tryz.prog 166 #[opV k a b c d e f] w fun en w' => en = .returned (.bool (gW k)) ∧ Below w.heap.size w w' := by
 have hfd := fld4
 have K0 := Bk.new w #[.int .i64 k, .int .u64 a, .int .u64 b, .int .i64 c, .bool d, .int .i64 e, .int .i64 f] 30
 have hb0 : Below w.heap.size w (w.alloc (.cells #[.int .i64 k, .int .u64 a, .int .u64 b, .int .i64 c, .bool d, .int .i64 e, .int .i64 f] 30)) := (Below.refl _ _).alloc (Nat.le_refl _) _
 obtain ⟨bb, hbb⟩ : ∃ bb, bb = gW k := ⟨_, rfl⟩
 rw [← hbb]
 have HBB := Lib.hid hbb
 clear hbb
 go_enter Tryz.func166, Tryz.ntmps166
 exact qa11
end Go.Proofs.YtaiodbcnbcdokaaGreat.Me
namespace Go.Proofs.YtaiodbcnbcdokaaGreat.Me
open Go Go.RowKit Go.ChangeMaps Gro Own Wd Ap Go.Proofs.YtaiodbcnbcdokaaGreat.Pl Wo Mr
theorem fReleased {P : Nat → Prop} {w : World} {s : Wk} {x : St} (hP : ∀ b, w.heap.size ≤ b → P b) (A : aM P w s x) :
  Calls Tryz.prog 143 #[wv s] w (FW P w (bW x)) := by
 unfold bW
 have eo : s.p.o0 = x.p.o0 := by rw [A.p]
 have ep : s.p.pn = x.p.pn := by rw [A.p]
 rw [← eo, ← ep]
 clear eo ep
 cases hs : gW s.p.o0 with
 | false =>
  rw [if_neg aF]
  have f32 : ∀ s : Wk, (wc s)[32]? = some (.bool s.p.gv) := fun _ => rfl
  have f8 : ∀ s : Wk, (wc s)[8]? = some (.bool s.p.pn) := fun _ => rfl
  have f1 : ∀ s : Wk, (wc s)[1]? = some (.int .i64 s.p.o0) := fun _ => rfl
  have f2 : ∀ s : Wk, (wc s)[2]? = some (.int .u64 s.p.o1) := fun _ => rfl
  have f3 : ∀ s : Wk, (wc s)[3]? = some (.int .u64 s.p.o2) := fun _ => rfl
  have f4 : ∀ s : Wk, (wc s)[4]? = some (.int .i64 s.p.o3) := fun _ => rfl
  have f5 : ∀ s : Wk, (wc s)[5]? = some (.bool s.p.o4) := fun _ => rfl
  have f6 : ∀ s : Wk, (wc s)[6]? = some (.int .i64 s.p.o5) := fun _ => rfl
  have f7 : ∀ s : Wk, (wc s)[7]? = some (.int .i64 s.p.o6) := fun _ => rfl
  have T0 := Two.start w s
  have AQ := (A.mono (Q := fun b => P b ∧ b ≠ w.heap.size ∧ b ≠ w.heap.size + 1) (fun b hb q => ⟨q, by omega, by omega⟩)).keep T0.below
  obtain ⟨v0, hv0⟩ : ∃ u, u = (w.alloc (.cells (wc s) 46)).alloc (.cells (wc wz) 46) := ⟨_, rfl⟩
  rw [← hv0] at T0 AQ
  have x0 := T0.X.cells
  have z0 := T0.X.frozen
  have gK := qa6e
  simp only [Option.isSome_some] at gK
  have T1 := T0.bZ 32 (.bool false) ({ s with p := { s.p with gv := false } } : Wk) rfl
  have gu := AQ.cell (g := w.heap.size) (fun q => q.2.1 rfl) 32 (.bool false)
  have lt9 := T1.lt
  have HSH := Lib.hid (operShares s.p.o0 s.p.o1 s.p.o2 s.p.o3 s.p.o4 s.p.o5 s.p.o6 (v0.setCell ⟨w.heap.size, 32, none⟩ (.bool false)))
  have xx9 := T1.X.cells
  go_enter Tryz.func143, Tryz.ntmps143
  go_wp2_with (first | ((with_reducible refine au rfl rfl ?_); rw [← hv0]; clear hv0))
  rw [hs] at HSH
  refine HSH.out.mono ?_
  rintro en w5 ⟨rfl, hb5⟩
  have T5 := T1.keep hb5
  have A5 := (gu.pl (p := { s.p with gv := false }) (p' := { x.p with gv := false }) qa67).keep hb5
  have x5 := T5.X.cells
  have l5 := T5.lt
  have l6 := T5.below.size
  have HP' : ∀ b, w5.heap.size ≤ b → (P b ∧ b ≠ w.heap.size ∧ b ≠ w.heap.size + 1) := fun b hb => ⟨hP b aj, by omega, by omega⟩
  have HC := Lib.hid (fAt (P := fun b => P b ∧ b ≠ w.heap.size ∧ b ≠ w.heap.size + 1) (fun b hb => HP' b hb) A5 0)
  clear xx9 x0 z0
  go_wp2_with (first | (refine wpList_load_row rfl 46 _ rfl (w.heap.size) rfl _ (wc ({ s with p := { s.p with gv := false } } : Wk)) (0, 0) _ qa6f Tryz.underlying46 rfl ah ?_))
  refine HC.out.mono ?_
  rintro e w9 ⟨s9, rfl, A9, hb9⟩
  have T9 := T5.keep hb9
  go_wp2_with (first | (refine wpList_store_row rfl 46 _ _ rfl (w.heap.size + 1) (wc s9) rfl rfl _ _ eP ah ah ah ?_))
  have ZF := T9.bN s9
  refine bodyPost_ret (v := wv s9) ?_ rfl ⟨s9, rfl, ((A9.row (g := w.heap.size + 1) (fun q => q.2.2 rfl) _).mono (fun b _ q => q.1)), ZF.below⟩
  exact results_cell_row (p := 2) (ty := 46) Tryz.results143 _ _ (w.heap.size + 1) 46 _ (0, 0) _ rfl ZF.Z Tryz.underlying46 rfl ah
 | true =>
  cases hpn : s.p.pn with
  | true =>
   rw [if_neg aF]
   have f32 : ∀ s : Wk, (wc s)[32]? = some (.bool s.p.gv) := fun _ => rfl
   have f8 : ∀ s : Wk, (wc s)[8]? = some (.bool s.p.pn) := fun _ => rfl
   have f1 : ∀ s : Wk, (wc s)[1]? = some (.int .i64 s.p.o0) := fun _ => rfl
   have f2 : ∀ s : Wk, (wc s)[2]? = some (.int .u64 s.p.o1) := fun _ => rfl
   have f3 : ∀ s : Wk, (wc s)[3]? = some (.int .u64 s.p.o2) := fun _ => rfl
   have f4 : ∀ s : Wk, (wc s)[4]? = some (.int .i64 s.p.o3) := fun _ => rfl
   have f5 : ∀ s : Wk, (wc s)[5]? = some (.bool s.p.o4) := fun _ => rfl
   have f6 : ∀ s : Wk, (wc s)[6]? = some (.int .i64 s.p.o5) := fun _ => rfl
   have f7 : ∀ s : Wk, (wc s)[7]? = some (.int .i64 s.p.o6) := fun _ => rfl
   have T0 := Two.start w s
   have AQ := (A.mono (Q := fun b => P b ∧ b ≠ w.heap.size ∧ b ≠ w.heap.size + 1) (fun b hb q => ⟨q, by omega, by omega⟩)).keep T0.below
   obtain ⟨v0, hv0⟩ : ∃ u, u = (w.alloc (.cells (wc s) 46)).alloc (.cells (wc wz) 46) := ⟨_, rfl⟩
   rw [← hv0] at T0 AQ
   have x0 := T0.X.cells
   have z0 := T0.X.frozen
   have gK := qa6e
   simp only [Option.isSome_some] at gK
   have T1 := T0.bZ 32 (.bool false) ({ s with p := { s.p with gv := false } } : Wk) rfl
   have gu := AQ.cell (g := w.heap.size) (fun q => q.2.1 rfl) 32 (.bool false)
   have lt9 := T1.lt
   have HSH := Lib.hid (operShares s.p.o0 s.p.o1 s.p.o2 s.p.o3 s.p.o4 s.p.o5 s.p.o6 (v0.setCell ⟨w.heap.size, 32, none⟩ (.bool false)))
   have xx9 := T1.X.cells
   go_enter Tryz.func143, Tryz.ntmps143
   go_wp2_with (first | ((with_reducible refine au rfl rfl ?_); rw [← hv0]; clear hv0))
   rw [hs] at HSH
   refine HSH.out.mono ?_
   rintro en w5 ⟨rfl, hb5⟩
   have T5 := T1.keep hb5
   have A5 := (gu.pl (p := { s.p with gv := false }) (p' := { x.p with gv := false }) qa67).keep hb5
   have x5 := T5.X.cells
   have l5 := T5.lt
   have l6 := T5.below.size
   have q8 : (wc ({ s with p := { s.p with gv := false } } : Wk))[8]? = some (.bool true) := (f8 _).trans (congrArg (fun z => some (Value.bool z)) hpn)
   have lx8 := l5.1
   clear f8 hpn
   have HP' : ∀ b, w5.heap.size ≤ b → (P b ∧ b ≠ w.heap.size ∧ b ≠ w.heap.size + 1) := fun b hb => ⟨hP b aj, by omega, by omega⟩
   have HC := Lib.hid (fAt (P := fun b => P b ∧ b ≠ w.heap.size ∧ b ≠ w.heap.size + 1) (fun b hb => HP' b hb) A5 0)
   clear xx9 x0 z0
   go_wp2_with (first | (refine wpList_load_row rfl 46 _ rfl (w.heap.size) rfl _ (wc ({ s with p := { s.p with gv := false } } : Wk)) (0, 0) _ qa6f Tryz.underlying46 rfl ah ?_))
   refine HC.out.mono ?_
   rintro e w9 ⟨s9, rfl, A9, hb9⟩
   have T9 := T5.keep hb9
   go_wp2_with (first | (refine wpList_store_row rfl 46 _ _ rfl (w.heap.size + 1) (wc s9) rfl rfl _ _ eP ah ah ah ?_))
   have ZF := T9.bN s9
   refine bodyPost_ret (v := wv s9) ?_ rfl ⟨s9, rfl, ((A9.row (g := w.heap.size + 1) (fun q => q.2.2 rfl) _).mono (fun b _ q => q.1)), ZF.below⟩
   exact results_cell_row (p := 2) (ty := 46) Tryz.results143 _ _ (w.heap.size + 1) 46 _ (0, 0) _ rfl ZF.Z Tryz.underlying46 rfl ah
  | false =>
   rw [if_pos ⟨rfl, rfl⟩]
   have f32 : ∀ s : Wk, (wc s)[32]? = some (.bool s.p.gv) := fun _ => rfl
   have f8 : ∀ s : Wk, (wc s)[8]? = some (.bool s.p.pn) := fun _ => rfl
   have f1 : ∀ s : Wk, (wc s)[1]? = some (.int .i64 s.p.o0) := fun _ => rfl
   have f2 : ∀ s : Wk, (wc s)[2]? = some (.int .u64 s.p.o1) := fun _ => rfl
   have f3 : ∀ s : Wk, (wc s)[3]? = some (.int .u64 s.p.o2) := fun _ => rfl
   have f4 : ∀ s : Wk, (wc s)[4]? = some (.int .i64 s.p.o3) := fun _ => rfl
   have f5 : ∀ s : Wk, (wc s)[5]? = some (.bool s.p.o4) := fun _ => rfl
   have f6 : ∀ s : Wk, (wc s)[6]? = some (.int .i64 s.p.o5) := fun _ => rfl
   have f7 : ∀ s : Wk, (wc s)[7]? = some (.int .i64 s.p.o6) := fun _ => rfl
   have T0 := Two.start w s
   have AQ := (A.mono (Q := fun b => P b ∧ b ≠ w.heap.size ∧ b ≠ w.heap.size + 1) (fun b hb q => ⟨q, by omega, by omega⟩)).keep T0.below
   obtain ⟨v0, hv0⟩ : ∃ u, u = (w.alloc (.cells (wc s) 46)).alloc (.cells (wc wz) 46) := ⟨_, rfl⟩
   rw [← hv0] at T0 AQ
   have x0 := T0.X.cells
   have z0 := T0.X.frozen
   have gK := qa6e
   simp only [Option.isSome_some] at gK
   have T1 := T0.bZ 32 (.bool false) ({ s with p := { s.p with gv := false } } : Wk) rfl
   have gu := AQ.cell (g := w.heap.size) (fun q => q.2.1 rfl) 32 (.bool false)
   have lt9 := T1.lt
   have HSH := Lib.hid (operShares s.p.o0 s.p.o1 s.p.o2 s.p.o3 s.p.o4 s.p.o5 s.p.o6 (v0.setCell ⟨w.heap.size, 32, none⟩ (.bool false)))
   have xx9 := T1.X.cells
   go_enter Tryz.func143, Tryz.ntmps143
   go_wp2_with (first | ((with_reducible refine au rfl rfl ?_); rw [← hv0]; clear hv0))
   rw [hs] at HSH
   refine HSH.out.mono ?_
   rintro en w5 ⟨rfl, hb5⟩
   have T5 := T1.keep hb5
   have A5 := (gu.pl (p := { s.p with gv := false }) (p' := { x.p with gv := false }) qa67).keep hb5
   have x5 := T5.X.cells
   have l5 := T5.lt
   have l6 := T5.below.size
   have q8 : (wc ({ s with p := { s.p with gv := false } } : Wk))[8]? = some (.bool false) := (f8 _).trans (congrArg (fun z => some (Value.bool z)) hpn)
   have lx8 := l5.1
   clear f8 hpn
   have HP' : ∀ b, w5.heap.size ≤ b → (P b ∧ b ≠ w.heap.size ∧ b ≠ w.heap.size + 1) := fun b hb => ⟨hP b aj, by omega, by omega⟩
   have HC := Lib.hid (fAt (P := fun b => P b ∧ b ≠ w.heap.size ∧ b ≠ w.heap.size + 1) (fun b hb => HP' b hb) A5 90)
   clear xx9 x0 z0
   go_wp2_with (first | (refine wpList_load_row rfl 46 _ rfl (w.heap.size) rfl _ (wc ({ s with p := { s.p with gv := false } } : Wk)) (0, 0) _ qa6f Tryz.underlying46 rfl ah ?_))
   refine HC.out.mono ?_
   rintro e w9 ⟨s9, rfl, A9, hb9⟩
   have T9 := T5.keep hb9
   go_wp2_with (first | (refine wpList_store_row rfl 46 _ _ rfl (w.heap.size + 1) (wc s9) rfl rfl _ _ eP ah ah ah ?_))
   have ZF := T9.bN s9
   refine bodyPost_ret (v := wv s9) ?_ rfl ⟨s9, rfl, ((A9.row (g := w.heap.size + 1) (fun q => q.2.2 rfl) _).mono (fun b _ q => q.1)), ZF.below⟩
   exact results_cell_row (p := 2) (ty := 46) Tryz.results143 _ _ (w.heap.size + 1) 46 _ (0, 0) _ rfl ZF.Z Tryz.underlying46 rfl ah
theorem jf {P : Nat → Prop} {w : World} {s : Wk} {x : St} (hP : ∀ b, w.heap.size ≤ b → P b) (A : aM P w s x) (hx : Few 900 x) :
  Calls Tryz.prog 162 #[wv s] w (FW P w (bG x)) := by
 unfold bG
 by_cases hm : x.hl = []
 ·rw [if_pos hm]
  have f32 : ∀ s : Wk, (wc s)[32]? = some (.bool s.p.gv) := fun _ => rfl
  have T0 := Two.start w s
  have AQ := (A.mono (Q := fun b => P b ∧ b ≠ w.heap.size ∧ b ≠ w.heap.size + 1) (fun b hb q => ⟨q, by omega, by omega⟩)).keep T0.below
  obtain ⟨v0, hv0⟩ : ∃ u, u = (w.alloc (.cells (wc s) 46)).alloc (.cells (wc wz) 46) := ⟨_, rfl⟩
  rw [← hv0] at T0 AQ
  have x0 := T0.X.cells
  have z0 := T0.X.frozen
  have gK := qa6e
  simp only [Option.isSome_some] at gK
  have T1 := T0.bZ 32 (.bool true) ({ s with p := { s.p with gv := true } } : Wk) rfl
  have gu := AQ.cell (g := w.heap.size) (fun q => q.2.1 rfl) 32 (.bool true)
  have lt9 := T1.lt
  have l0 := T1.below.size
  have HGB := Lib.hid (giveBegin ({ s with p := { s.p with gv := true } } : Wk) ({ x with p := { x.p with gv := true } } : St) ⟨hx.rk, hx.l0, hx.l1, hx.l2, hx.hl, hx.rd⟩ _ (gu.pl (p := { s.p with gv := true }) (p' := { x.p with gv := true }) qa67).lies)
  have ew : gvW ({ x with p := { x.p with gv := true } } : St) = 1 := if_pos hm
  rw [ew] at HGB
  clear ew
  clear hm
  go_enter Tryz.func162, Tryz.ntmps162
  go_wp2_with (first | ((with_reducible refine au rfl rfl ?_); rw [← hv0]; clear hv0) | (refine wpList_load_row rfl 46 _ rfl (w.heap.size) rfl _ (wc ({ s with p := { s.p with gv := true } } : Wk)) (0, 0) _ dG Tryz.underlying46 rfl ah ?_))
  refine HGB.out.mono ?_
  rintro en w5 ⟨s5, rfl, A5, hb5⟩
  have T5 := T1.keep hb5
  have l5 := T5.lt
  have l6 := T5.below.size
  have l7 := hb5.size
  have T6 := T5.bO s5
  have A6 := (aM.of (P := fun b => P b ∧ b ≠ w.heap.size ∧ b ≠ w.heap.size + 1) A5 (fun b _ q => ⟨hP b aj, by omega, by omega⟩)).row (g := w.heap.size) (fun q => q.2.1 rfl) (wc s5)
  obtain ⟨w6, hw6⟩ : ∃ u, u = w5.setRow w.heap.size (wc s5) := ⟨_, rfl⟩
  have l8 : w6.heap.size = w5.heap.size := qa6g
  rw [← hw6] at T6 A6
  clear A5 hb5 HGB
  have HP' : ∀ b, w6.heap.size ≤ b → (P b ∧ b ≠ w.heap.size ∧ b ≠ w.heap.size + 1) := fun b hb => ⟨hP b aj, by omega, by omega⟩
  have HC := Lib.hid (fReleased HP' A6)
  go_wp2_with (first | (refine wpList_store_row rfl 46 _ _ rfl (w.heap.size) (wc s5) rfl rfl _ _ qa6f ah ah ah ?_; rw [← hw6]; clear hw6 T5) | (refine wpList_load_row rfl 46 _ rfl (w.heap.size) rfl _ (wc s5) (0, 0) _ qa6h Tryz.underlying46 rfl ah ?_))
  refine HC.out.mono ?_
  rintro e w9 ⟨s9, rfl, A9, hb9⟩
  have T9 := T6.keep hb9
  go_wp2_with (first | (refine wpList_store_row rfl 46 _ _ rfl (w.heap.size + 1) (wc s9) rfl rfl _ _ eP ah ah ah ?_))
  have ZF := T9.bN s9
  refine bodyPost_ret (v := wv s9) ?_ rfl ⟨s9, rfl, ((A9.row (g := w.heap.size + 1) (fun q => q.2.2 rfl) _).mono (fun b _ q => q.1)), ZF.below⟩
  exact results_cell_row (p := 2) (ty := 46) Tryz.results162 _ _ (w.heap.size + 1) 46 _ (0, 0) _ rfl ZF.Z Tryz.underlying46 rfl ah
 rw [if_neg hm]
 have f32 : ∀ s : Wk, (wc s)[32]? = some (.bool s.p.gv) := fun _ => rfl
 have T0 := Two.start w s
 have AQ := (A.mono (Q := fun b => P b ∧ b ≠ w.heap.size ∧ b ≠ w.heap.size + 1) (fun b hb q => ⟨q, by omega, by omega⟩)).keep T0.below
 obtain ⟨v0, hv0⟩ : ∃ u, u = (w.alloc (.cells (wc s) 46)).alloc (.cells (wc wz) 46) := ⟨_, rfl⟩
 rw [← hv0] at T0 AQ
 have x0 := T0.X.cells
 have z0 := T0.X.frozen
 have gK := qa6e
 simp only [Option.isSome_some] at gK
 have T1 := T0.bZ 32 (.bool true) ({ s with p := { s.p with gv := true } } : Wk) rfl
 have gu := AQ.cell (g := w.heap.size) (fun q => q.2.1 rfl) 32 (.bool true)
 have lt9 := T1.lt
 have l0 := T1.below.size
 have HGB := Lib.hid (giveBegin ({ s with p := { s.p with gv := true } } : Wk) ({ x with p := { x.p with gv := true } } : St) ⟨hx.rk, hx.l0, hx.l1, hx.l2, hx.hl, hx.rd⟩ _ (gu.pl (p := { s.p with gv := true }) (p' := { x.p with gv := true }) qa67).lies)
 have ew : gvW ({ x with p := { x.p with gv := true } } : St) = 0 := if_neg hm
 rw [ew] at HGB
 clear ew
 clear hm
 go_enter Tryz.func162, Tryz.ntmps162
 go_wp2_with (first | ((with_reducible refine au rfl rfl ?_); rw [← hv0]; clear hv0) | (refine wpList_load_row rfl 46 _ rfl (w.heap.size) rfl _ (wc ({ s with p := { s.p with gv := true } } : Wk)) (0, 0) _ dG Tryz.underlying46 rfl ah ?_))
 refine HGB.out.mono ?_
 rintro en w5 ⟨s5, rfl, A5, hb5⟩
 have T5 := T1.keep hb5
 have l5 := T5.lt
 have l6 := T5.below.size
 have l7 := hb5.size
 have T6 := T5.bO s5
 have A6 := (aM.of (P := fun b => P b ∧ b ≠ w.heap.size ∧ b ≠ w.heap.size + 1) A5 (fun b _ q => ⟨hP b aj, by omega, by omega⟩)).row (g := w.heap.size) (fun q => q.2.1 rfl) (wc s5)
 obtain ⟨w6, hw6⟩ : ∃ u, u = w5.setRow w.heap.size (wc s5) := ⟨_, rfl⟩
 have l8 : w6.heap.size = w5.heap.size := qa6g
 rw [← hw6] at T6 A6
 clear A5 hb5 HGB
 go_wp2_with (first | (refine wpList_store_row rfl 46 _ _ rfl (w.heap.size) (wc s5) rfl rfl _ _ qa6f ah ah ah ?_; rw [← hw6]; clear hw6 T5) | (refine wpList_load_row rfl 46 _ rfl (w.heap.size) rfl _ (wc s5) (0, 0) _ qa6h Tryz.underlying46 rfl ah ?_) | (refine wpList_store_row rfl 46 _ _ rfl (w.heap.size + 1) (wc s5) rfl rfl _ _ (by exact T6.Z) ah ah ah ?_))
 have ZF := T6.bN s5
 refine bodyPost_ret (v := wv s5) ?_ rfl ⟨s5, rfl, ((A6.row (g := w.heap.size + 1) (fun q => q.2.2 rfl) _).mono (fun b _ q => q.1)), ZF.below⟩
 exact results_cell_row (p := 2) (ty := 46) Tryz.results162 _ _ (w.heap.size + 1) 46 _ (0, 0) _ rfl ZF.Z Tryz.underlying46 rfl ah
theorem fThen (c : Cfg) {P : Nat → Prop} {w : World} {s : Wk} {x : St} (hP : ∀ b, w.heap.size ≤ b → P b) (A : aM P w s x) (hx : Few 900 x) :
  Calls Tryz.prog 138 #[cv c, wv s] w (FW P w (bG x)) := by
 have hbc : Below w.heap.size w (w.alloc (.cells (ccM c) 24)) := (Below.refl _ _).alloc (Nat.le_refl _) _
 have cO : (w.alloc (.cells (ccM c) 24)).heap.size = w.heap.size + 1 := aF
 have T0 := Two.aY hbc s
 rw [cO] at T0
 have AQ := (A.mono (Q := fun b => P b ∧ b ≠ w.heap.size + 1 ∧ b ≠ w.heap.size + 1 + 1) (fun b hb q => ⟨q, by omega, by omega⟩)).keep T0.below
 obtain ⟨v0, hv0⟩ : ∃ u, u = ((w.alloc (.cells (ccM c) 24)).alloc (.cells (wc s) 46)).alloc (.cells (wc wz) 46) := ⟨_, rfl⟩
 rw [← hv0] at T0 AQ
 have x0 := T0.X.cells
 have z0 := T0.X.frozen
 have HP' : ∀ b, w.heap.size + 1 + 1 + 1 ≤ b → (P b ∧ b ≠ w.heap.size + 1 ∧ b ≠ w.heap.size + 1 + 1) := fun b hb => ⟨hP b aj, by omega, by omega⟩
 have lt9 := T0.lt
 have HC := Lib.hid (jf (P := fun b => P b ∧ b ≠ w.heap.size + 1 ∧ b ≠ w.heap.size + 1 + 1) (fun b hb => HP' b aj) AQ hx)
 go_enter Tryz.func138, Tryz.ntmps138
 go_wp2_with (first | ((with_reducible refine au rfl rfl ?_); rw [← hv0]; clear hv0) | (refine wpList_load_row rfl 46 _ rfl (w.heap.size + 1) rfl _ (wc s) (0, 0) _ bT Tryz.underlying46 rfl ah ?_))
 refine HC.out.mono ?_
 rintro e w9 ⟨s9, rfl, A9, hb9⟩
 have T9 := T0.keep hb9
 go_wp2_with (first | (refine wpList_store_row rfl 46 _ _ rfl (w.heap.size + 1 + 1) (wc s9) rfl rfl _ _ eP ah ah ah ?_))
 have ZF := T9.bN s9
 refine bodyPost_ret (v := wv s9) ?_ rfl ⟨s9, rfl, ((A9.row (g := w.heap.size + 1 + 1) (fun q => q.2.2 rfl) _).mono (fun b _ q => q.1)), ZF.below⟩
 exact results_cell_row (p := 4) (ty := 46) Tryz.results138 _ _ (w.heap.size + 1 + 1) 46 _ (0, 0) _ rfl ZF.Z Tryz.underlying46 rfl ah
end Go.Proofs.YtaiodbcnbcdokaaGreat.Me
