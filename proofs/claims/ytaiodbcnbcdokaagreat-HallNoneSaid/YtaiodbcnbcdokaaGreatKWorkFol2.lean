/- Part WorkFol2. -/
import Derived.Test.YtaiodbcnbcdokaaGreatKFols
set_option linter.unusedVariables false
set_option linter.unusedSimpArgs false
set_option linter.unusedSectionVars false
set_option maxRecDepth 100000
set_option maxHeartbeats 16000000
namespace Go.Proofs.YtaiodbcnbcdokaaGreat.Me
open Go Go.RowKit Go.ChangeMaps Gro Own Wd Ap Go.Proofs.YtaiodbcnbcdokaaGreat.Pl Wo Mr
def borrowS (x : St) : St := bG { x with p := { x.p with br := if x.p.pn = true then x.p.c else x.p.br, c := 0 } }
def bS (r : Int) (x : St) : St := if x.p.b = 0 then bG { x with p := { x.p with rt := r, c := 0 } } else bG { holdS x [wrap64 (x.p.b - 1)] with p := { x.p with rt := r, b := 0, c := 0 } }
theorem fToW (c : Cfg) {P : Nat → Prop} {w : World} {s : Wk} {x : St} (hP : ∀ b, w.heap.size ≤ b → P b) (A : aM P w s x) {a : Nat} {n : Int} (K : Bk w a #[.int .i64 n] 3) :
  Calls Tryz.prog 160 #[cv c, wv s, .pointer (some ⟨a, 0, none⟩)] w (FW P w (atS x n)) := by
 have la := K.lt
 have hbc : Below w.heap.size w (w.alloc (.cells (ccM c) 24)) := (Below.refl _ _).alloc (Nat.le_refl _) _
 have cO : (w.alloc (.cells (ccM c) 24)).heap.size = w.heap.size + 1 := aF
 have T0 := Two.aY hbc s
 rw [cO] at T0
 have AQ := (A.mono (Q := fun b => P b ∧ b ≠ w.heap.size + 1 ∧ b ≠ w.heap.size + 1 + 1) (fun b hb q => ⟨q, by omega, by omega⟩)).keep T0.below
 obtain ⟨v0, hv0⟩ : ∃ u, u = ((w.alloc (.cells (ccM c) 24)).alloc (.cells (wc s) 46)).alloc (.cells (wc wz) 46) := ⟨_, rfl⟩
 rw [← hv0] at T0 AQ
 have x0 := T0.X.cells
 have z0 := T0.X.frozen
 have ka := (K.keep T0.below).cells
 have HP' : ∀ b, w.heap.size + 1 + 1 + 1 ≤ b → (P b ∧ b ≠ w.heap.size + 1 ∧ b ≠ w.heap.size + 1 + 1) := fun b hb => ⟨hP b aj, by omega, by omega⟩
 have lt9 := T0.lt
 have HC := Lib.hid (fAt (P := fun b => P b ∧ b ≠ w.heap.size + 1 ∧ b ≠ w.heap.size + 1 + 1) (fun b hb => HP' b aj) AQ n)
 go_enter Tryz.func160, Tryz.ntmps160
 go_wp2_with (first | ((with_reducible refine au rfl rfl ?_); rw [← hv0]; clear hv0) | (refine wpList_load_row rfl 46 _ rfl (w.heap.size + 1) rfl _ (wc s) (0, 0) _ bT Tryz.underlying46 rfl ah ?_))
 refine HC.out.mono ?_
 rintro e w9 ⟨s9, rfl, A9, hb9⟩
 have T9 := T0.keep hb9
 go_wp2_with (first | (refine wpList_store_row rfl 46 _ _ rfl (w.heap.size + 1 + 1) (wc s9) rfl rfl _ _ eP ah ah ah ?_))
 have ZF := T9.bN s9
 refine bodyPost_ret (v := wv s9) ?_ rfl ⟨s9, rfl, ((A9.row (g := w.heap.size + 1 + 1) (fun q => q.2.2 rfl) _).mono (fun b _ q => q.1)), ZF.below⟩
 exact results_cell_row (p := 5) (ty := 46) Tryz.results160 _ _ (w.heap.size + 1 + 1) 46 _ (0, 0) _ rfl ZF.Z Tryz.underlying46 rfl ah
theorem fEndW (c : Cfg) {P : Nat → Prop} {w : World} {s : Wk} {x : St} (hP : ∀ b, w.heap.size ≤ b → P b) (A : aM P w s x) {a : Nat} {n : Int} (K : Bk w a #[.int .i64 n] 32) :
  Calls Tryz.prog 165 #[cv c, wv s, .pointer (some ⟨a, 0, none⟩)] w (FW P w (endS x n)) := by
 have la := K.lt
 have hbc : Below w.heap.size w (w.alloc (.cells (ccM c) 24)) := (Below.refl _ _).alloc (Nat.le_refl _) _
 have cO : (w.alloc (.cells (ccM c) 24)).heap.size = w.heap.size + 1 := aF
 have T0 := Two.aY hbc s
 rw [cO] at T0
 have AQ := (A.mono (Q := fun b => P b ∧ b ≠ w.heap.size + 1 ∧ b ≠ w.heap.size + 1 + 1) (fun b hb q => ⟨q, by omega, by omega⟩)).keep T0.below
 obtain ⟨v0, hv0⟩ : ∃ u, u = ((w.alloc (.cells (ccM c) 24)).alloc (.cells (wc s) 46)).alloc (.cells (wc wz) 46) := ⟨_, rfl⟩
 rw [← hv0] at T0 AQ
 have x0 := T0.X.cells
 have z0 := T0.X.frozen
 have ka := (K.keep T0.below).cells
 have HP' : ∀ b, w.heap.size + 1 + 1 + 1 ≤ b → (P b ∧ b ≠ w.heap.size + 1 ∧ b ≠ w.heap.size + 1 + 1) := fun b hb => ⟨hP b aj, by omega, by omega⟩
 have lt9 := T0.lt
 have HC := Lib.hid (fEnd (P := fun b => P b ∧ b ≠ w.heap.size + 1 ∧ b ≠ w.heap.size + 1 + 1) (fun b hb => HP' b aj) AQ n)
 go_enter Tryz.func165, Tryz.ntmps165
 go_wp2_with (first | ((with_reducible refine au rfl rfl ?_); rw [← hv0]; clear hv0) | (refine wpList_load_row rfl 46 _ rfl (w.heap.size + 1) rfl _ (wc s) (0, 0) _ bT Tryz.underlying46 rfl ah ?_))
 refine HC.out.mono ?_
 rintro e w9 ⟨s9, rfl, A9, hb9⟩
 have T9 := T0.keep hb9
 go_wp2_with (first | (refine wpList_store_row rfl 46 _ _ rfl (w.heap.size + 1 + 1) (wc s9) rfl rfl _ _ eP ah ah ah ?_))
 have ZF := T9.bN s9
 refine bodyPost_ret (v := wv s9) ?_ rfl ⟨s9, rfl, ((A9.row (g := w.heap.size + 1 + 1) (fun q => q.2.2 rfl) _).mono (fun b _ q => q.1)), ZF.below⟩
 exact results_cell_row (p := 5) (ty := 46) Tryz.results165 _ _ (w.heap.size + 1 + 1) 46 _ (0, 0) _ rfl ZF.Z Tryz.underlying46 rfl ah
theorem fRelW (c : Cfg) {P : Nat → Prop} {w : World} {s : Wk} {x : St} (hP : ∀ b, w.heap.size ≤ b → P b) (A : aM P w s x) :
  Calls Tryz.prog 142 #[cv c, wv s] w (FW P w (bW x)) := by
 have hbc : Below w.heap.size w (w.alloc (.cells (ccM c) 24)) := (Below.refl _ _).alloc (Nat.le_refl _) _
 have cO : (w.alloc (.cells (ccM c) 24)).heap.size = w.heap.size + 1 := aF
 have T0 := Two.aY hbc s
 rw [cO] at T0
 have AQ := (A.mono (Q := fun b => P b ∧ b ≠ w.heap.size + 1 ∧ b ≠ w.heap.size + 1 + 1) (fun b hb q => ⟨q, by omega, by omega⟩)).keep T0.below
 obtain ⟨v0, hv0⟩ : ∃ u, u = ((w.alloc (.cells (ccM c) 24)).alloc (.cells (wc s) 46)).alloc (.cells (wc wz) 46) := ⟨_, rfl⟩
 rw [← hv0] at T0 AQ
 have x0 := T0.X.cells
 have z0 := T0.X.frozen
 have HP' : ∀ b, w.heap.size + 1 + 1 + 1 ≤ b → (P b ∧ b ≠ w.heap.size + 1 ∧ b ≠ w.heap.size + 1 + 1) := fun b hb => ⟨hP b aj, by omega, by omega⟩
 have lt9 := T0.lt
 have HC := Lib.hid (fReleased (P := fun b => P b ∧ b ≠ w.heap.size + 1 ∧ b ≠ w.heap.size + 1 + 1) (fun b hb => HP' b aj) AQ)
 go_enter Tryz.func142, Tryz.ntmps142
 go_wp2_with (first | ((with_reducible refine au rfl rfl ?_); rw [← hv0]; clear hv0) | (refine wpList_load_row rfl 46 _ rfl (w.heap.size + 1) rfl _ (wc s) (0, 0) _ bT Tryz.underlying46 rfl ah ?_))
 refine HC.out.mono ?_
 rintro e w9 ⟨s9, rfl, A9, hb9⟩
 have T9 := T0.keep hb9
 go_wp2_with (first | (refine wpList_store_row rfl 46 _ _ rfl (w.heap.size + 1 + 1) (wc s9) rfl rfl _ _ eP ah ah ah ?_))
 have ZF := T9.bN s9
 refine bodyPost_ret (v := wv s9) ?_ rfl ⟨s9, rfl, ((A9.row (g := w.heap.size + 1 + 1) (fun q => q.2.2 rfl) _).mono (fun b _ q => q.1)), ZF.below⟩
 exact results_cell_row (p := 4) (ty := 46) Tryz.results142 _ _ (w.heap.size + 1 + 1) 46 _ (0, 0) _ rfl ZF.Z Tryz.underlying46 rfl ah
theorem fTakeW (c : Cfg) {P : Nat → Prop} {w : World} {s : Wk} {x : St} (hP : ∀ b, w.heap.size ≤ b → P b) (A : aM P w s x) (hx : Few 900 x) :
  Calls Tryz.prog 152 #[cv c, wv s] w (FW P w (tkS x)) := by
 have hbc : Below w.heap.size w (w.alloc (.cells (ccM c) 24)) := (Below.refl _ _).alloc (Nat.le_refl _) _
 have cO : (w.alloc (.cells (ccM c) 24)).heap.size = w.heap.size + 1 := aF
 have T0 := Two.aY hbc s
 rw [cO] at T0
 have AQ := (A.mono (Q := fun b => P b ∧ b ≠ w.heap.size + 1 ∧ b ≠ w.heap.size + 1 + 1) (fun b hb q => ⟨q, by omega, by omega⟩)).keep T0.below
 obtain ⟨v0, hv0⟩ : ∃ u, u = ((w.alloc (.cells (ccM c) 24)).alloc (.cells (wc s) 46)).alloc (.cells (wc wz) 46) := ⟨_, rfl⟩
 rw [← hv0] at T0 AQ
 have x0 := T0.X.cells
 have z0 := T0.X.frozen
 have HP' : ∀ b, w.heap.size + 1 + 1 + 1 ≤ b → (P b ∧ b ≠ w.heap.size + 1 ∧ b ≠ w.heap.size + 1 + 1) := fun b hb => ⟨hP b aj, by omega, by omega⟩
 have lt9 := T0.lt
 have HC := Lib.hid (fTake (P := fun b => P b ∧ b ≠ w.heap.size + 1 ∧ b ≠ w.heap.size + 1 + 1) (fun b hb => HP' b aj) AQ hx)
 go_enter Tryz.func152, Tryz.ntmps152
 go_wp2_with (first | ((with_reducible refine au rfl rfl ?_); rw [← hv0]; clear hv0) | (refine wpList_load_row rfl 46 _ rfl (w.heap.size + 1) rfl _ (wc s) (0, 0) _ bT Tryz.underlying46 rfl ah ?_))
 refine HC.out.mono ?_
 rintro e w9 ⟨s9, rfl, A9, hb9⟩
 have T9 := T0.keep hb9
 go_wp2_with (first | (refine wpList_store_row rfl 46 _ _ rfl (w.heap.size + 1 + 1) (wc s9) rfl rfl _ _ eP ah ah ah ?_))
 have ZF := T9.bN s9
 refine bodyPost_ret (v := wv s9) ?_ rfl ⟨s9, rfl, ((A9.row (g := w.heap.size + 1 + 1) (fun q => q.2.2 rfl) _).mono (fun b _ q => q.1)), ZF.below⟩
 exact results_cell_row (p := 4) (ty := 46) Tryz.results152 _ _ (w.heap.size + 1 + 1) 46 _ (0, 0) _ rfl ZF.Z Tryz.underlying46 rfl ah
theorem fBorrow (c : Cfg) {P : Nat → Prop} {w : World} {s : Wk} {x : St} (hP : ∀ b, w.heap.size ≤ b → P b) (A : aM P w s x) (hx : Few 900 x) :
  Calls Tryz.prog 157 #[cv c, wv s] w (FW P w (borrowS x)) := by
 unfold borrowS
 obtain ⟨pb, h_pn⟩ : ∃ k, x.p.pn = k := ⟨_, rfl⟩
 have q8 : (wc s)[8]? = some (.bool pb) := by rw [show (wc s)[8]? = some (.bool s.p.pn) from rfl, A.p, h_pn]
 obtain ⟨c0, h_c⟩ : ∃ k, x.p.c = k := ⟨_, rfl⟩
 have q21 : (wc s)[21]? = some (.int .i64 c0) := by rw [show (wc s)[21]? = some (.int .i64 s.p.c) from rfl, A.p, h_c]
 rw [h_pn, h_c]
 clear h_pn h_c
 cases pb with
 | true =>
  rw [if_pos rfl]
  have f22 : ∀ s : Wk, (wc s)[22]? = some (.int .i64 s.p.br) := fun _ => rfl
  have f21 : ∀ s : Wk, (wc s)[21]? = some (.int .i64 s.p.c) := fun _ => rfl
  have hbc : Below w.heap.size w (w.alloc (.cells (ccM c) 24)) := (Below.refl _ _).alloc (Nat.le_refl _) _
  have cO : (w.alloc (.cells (ccM c) 24)).heap.size = w.heap.size + 1 := aF
  have T0 := Two.aY hbc s
  rw [cO] at T0
  have AQ := (A.mono (Q := fun b => P b ∧ b ≠ w.heap.size + 1 ∧ b ≠ w.heap.size + 1 + 1) (fun b hb q => ⟨q, by omega, by omega⟩)).keep T0.below
  obtain ⟨v0, hv0⟩ : ∃ u, u = ((w.alloc (.cells (ccM c) 24)).alloc (.cells (wc s) 46)).alloc (.cells (wc wz) 46) := ⟨_, rfl⟩
  rw [← hv0] at T0 AQ
  have x0 := T0.X.cells
  have z0 := T0.X.frozen
  have gK := by have h := T0.X.cells 22; exact congrArg Option.isSome (h.trans (f22 _))
  simp only [Option.isSome_some] at gK
  have T1 := T0.bZ 22 (.int .i64 c0) ({ s with p := { s.p with br := c0 } } : Wk) rfl
  have gu := AQ.cell (g := w.heap.size + 1) (fun q => q.2.1 rfl) 22 (.int .i64 c0)
  have e102 := qa6j
  simp only [Option.isSome_some] at e102
  have T2 := T1.bZ 21 (.int .i64 0) ({ s with p := { s.p with br := c0, c := 0 } } : Wk) rfl
  have AQ20 := gu.cell (g := w.heap.size + 1) (fun q => q.2.1 rfl) 21 (.int .i64 0)
  have HP' : ∀ b, w.heap.size + 1 + 1 + 1 ≤ b → (P b ∧ b ≠ w.heap.size + 1 ∧ b ≠ w.heap.size + 1 + 1) := fun b hb => ⟨hP b aj, by omega, by omega⟩
  have lt9 := T2.lt
  have HC := Lib.hid (jf (P := fun b => P b ∧ b ≠ w.heap.size + 1 ∧ b ≠ w.heap.size + 1 + 1) (fun b hb => HP' b aj) (AQ20.pl (p := { s.p with br := c0, c := 0 }) (p' := { x.p with br := c0, c := 0 }) (by rw [AQ20.p])) ⟨hx.rk, hx.l0, hx.l1, hx.l2, hx.hl, hx.rd⟩)
  go_enter Tryz.func157, Tryz.ntmps157
  go_wp2_with (first | ((with_reducible refine au rfl rfl ?_); rw [← hv0]; clear hv0) | (refine wpList_load_row rfl 46 _ rfl (w.heap.size + 1) rfl _ (wc ({ s with p := { s.p with br := c0, c := 0 } } : Wk)) (0, 0) _ qa51 Tryz.underlying46 rfl ah ?_))
  refine HC.out.mono ?_
  rintro e w9 ⟨s9, rfl, A9, hb9⟩
  have T9 := T2.keep hb9
  go_wp2_with (first | (refine wpList_store_row rfl 46 _ _ rfl (w.heap.size + 1 + 1) (wc s9) rfl rfl _ _ eP ah ah ah ?_))
  have ZF := T9.bN s9
  refine bodyPost_ret (v := wv s9) ?_ rfl ⟨s9, rfl, ((A9.row (g := w.heap.size + 1 + 1) (fun q => q.2.2 rfl) _).mono (fun b _ q => q.1)), ZF.below⟩
  exact results_cell_row (p := 4) (ty := 46) Tryz.results157 _ _ (w.heap.size + 1 + 1) 46 _ (0, 0) _ rfl ZF.Z Tryz.underlying46 rfl ah
 | false =>
  rw [if_neg aL]
  have f21 : ∀ s : Wk, (wc s)[21]? = some (.int .i64 s.p.c) := fun _ => rfl
  have hbc : Below w.heap.size w (w.alloc (.cells (ccM c) 24)) := (Below.refl _ _).alloc (Nat.le_refl _) _
  have cO : (w.alloc (.cells (ccM c) 24)).heap.size = w.heap.size + 1 := aF
  have T0 := Two.aY hbc s
  rw [cO] at T0
  have AQ := (A.mono (Q := fun b => P b ∧ b ≠ w.heap.size + 1 ∧ b ≠ w.heap.size + 1 + 1) (fun b hb q => ⟨q, by omega, by omega⟩)).keep T0.below
  obtain ⟨v0, hv0⟩ : ∃ u, u = ((w.alloc (.cells (ccM c) 24)).alloc (.cells (wc s) 46)).alloc (.cells (wc wz) 46) := ⟨_, rfl⟩
  rw [← hv0] at T0 AQ
  have x0 := T0.X.cells
  have z0 := T0.X.frozen
  have gK := by have h := T0.X.cells 21; exact congrArg Option.isSome (h.trans (f21 _))
  simp only [Option.isSome_some] at gK
  have T1 := T0.bZ 21 (.int .i64 0) ({ s with p := { s.p with c := 0 } } : Wk) rfl
  have gu := AQ.cell (g := w.heap.size + 1) (fun q => q.2.1 rfl) 21 (.int .i64 0)
  have HP' : ∀ b, w.heap.size + 1 + 1 + 1 ≤ b → (P b ∧ b ≠ w.heap.size + 1 ∧ b ≠ w.heap.size + 1 + 1) := fun b hb => ⟨hP b aj, by omega, by omega⟩
  have lt9 := T1.lt
  have HC := Lib.hid (jf (P := fun b => P b ∧ b ≠ w.heap.size + 1 ∧ b ≠ w.heap.size + 1 + 1) (fun b hb => HP' b aj) (gu.pl (p := { s.p with c := 0 }) (p' := { x.p with c := 0 }) qa67) ⟨hx.rk, hx.l0, hx.l1, hx.l2, hx.hl, hx.rd⟩)
  go_enter Tryz.func157, Tryz.ntmps157
  go_wp2_with (first | ((with_reducible refine au rfl rfl ?_); rw [← hv0]; clear hv0) | (refine wpList_load_row rfl 46 _ rfl (w.heap.size + 1) rfl _ (wc ({ s with p := { s.p with c := 0 } } : Wk)) (0, 0) _ dG Tryz.underlying46 rfl ah ?_))
  refine HC.out.mono ?_
  rintro e w9 ⟨s9, rfl, A9, hb9⟩
  have T9 := T1.keep hb9
  go_wp2_with (first | (refine wpList_store_row rfl 46 _ _ rfl (w.heap.size + 1 + 1) (wc s9) rfl rfl _ _ eP ah ah ah ?_))
  have ZF := T9.bN s9
  refine bodyPost_ret (v := wv s9) ?_ rfl ⟨s9, rfl, ((A9.row (g := w.heap.size + 1 + 1) (fun q => q.2.2 rfl) _).mono (fun b _ q => q.1)), ZF.below⟩
  exact results_cell_row (p := 4) (ty := 46) Tryz.results157 _ _ (w.heap.size + 1 + 1) 46 _ (0, 0) _ rfl ZF.Z Tryz.underlying46 rfl ah
theorem fFail {P : Nat → Prop} {w : World} {s : Wk} {x : St} (hP : ∀ b, w.heap.size ≤ b → P b) (A : aM P w s x) (hx : Few 900 x) (hx2 : Few 800 x) (r : Int) :
  Calls Tryz.prog 171 #[wv s, .int .i64 r] w (FW P w (bS r x)) := by
 unfold bS
 have h_b : x.p.b = s.p.b := by rw [A.p]
 rw [h_b]
 clear h_b
 by_cases hb0 : s.p.b = 0
 ·rw [if_pos hb0]
  have tb : (s.p.b != 0) = false := by simp [hb0]
  have f18 : ∀ s : Wk, (wc s)[18]? = some (.int .i64 s.p.b) := fun _ => rfl
  clear hb0
  have f31 : ∀ s : Wk, (wc s)[31]? = some (.int .i64 s.p.rt) := fun _ => rfl
  have f21 : ∀ s : Wk, (wc s)[21]? = some (.int .i64 s.p.c) := fun _ => rfl
  have T0 := Two.start w s
  have AQ := (A.mono (Q := fun b => P b ∧ b ≠ w.heap.size ∧ b ≠ w.heap.size + 1) (fun b hb q => ⟨q, by omega, by omega⟩)).keep T0.below
  obtain ⟨v0, hv0⟩ : ∃ u, u = (w.alloc (.cells (wc s) 46)).alloc (.cells (wc wz) 46) := ⟨_, rfl⟩
  rw [← hv0] at T0 AQ
  have x0 := T0.X.cells
  have z0 := T0.X.frozen
  have gK := qa68
  simp only [Option.isSome_some] at gK
  have T1 := T0.bZ 31 (.int .i64 r) ({ s with p := { s.p with rt := r } } : Wk) rfl
  have gu := AQ.cell (g := w.heap.size) (fun q => q.2.1 rfl) 31 (.int .i64 r)
  have e102 := qa6j
  simp only [Option.isSome_some] at e102
  have T2 := T1.bZ 21 (.int .i64 0) ({ s with p := { s.p with rt := r, c := 0 } } : Wk) rfl
  have AQ20 := gu.cell (g := w.heap.size) (fun q => q.2.1 rfl) 21 (.int .i64 0)
  have HP' : ∀ b, w.heap.size + 1 + 1 ≤ b → (P b ∧ b ≠ w.heap.size ∧ b ≠ w.heap.size + 1) := fun b hb => ⟨hP b aj, by omega, by omega⟩
  have lt9 := T2.lt
  have HC := Lib.hid (jf (P := fun b => P b ∧ b ≠ w.heap.size ∧ b ≠ w.heap.size + 1) (fun b hb => HP' b aj) (AQ20.pl (p := { s.p with rt := r, c := 0 }) (p' := { x.p with rt := r, c := 0 }) (by rw [AQ20.p])) ⟨hx.rk, hx.l0, hx.l1, hx.l2, hx.hl, hx.rd⟩)
  go_enter Tryz.func171, Tryz.ntmps171
  go_wp2_with (first | ((with_reducible refine au rfl rfl ?_); rw [← hv0]; clear hv0) | (refine wpList_load_row rfl 46 _ rfl (w.heap.size) rfl _ (wc ({ s with p := { s.p with rt := r, c := 0 } } : Wk)) (0, 0) _ qa51 Tryz.underlying46 rfl ah ?_))
  refine HC.out.mono ?_
  rintro e w9 ⟨s9, rfl, A9, hb9⟩
  have T9 := T2.keep hb9
  go_wp2_with (first | (refine wpList_store_row rfl 46 _ _ rfl (w.heap.size + 1) (wc s9) rfl rfl _ _ eP ah ah ah ?_))
  have ZF := T9.bN s9
  refine bodyPost_ret (v := wv s9) ?_ rfl ⟨s9, rfl, ((A9.row (g := w.heap.size + 1) (fun q => q.2.2 rfl) _).mono (fun b _ q => q.1)), ZF.below⟩
  exact results_cell_row (p := 4) (ty := 46) Tryz.results171 _ _ (w.heap.size + 1) 46 _ (0, 0) _ rfl ZF.Z Tryz.underlying46 rfl ah
 ·rw [if_neg hb0]
  have tb : (s.p.b != 0) = true := by simp [hb0]
  clear hb0
  have f31 : ∀ s : Wk, (wc s)[31]? = some (.int .i64 s.p.rt) := fun _ => rfl
  have f18 : ∀ s : Wk, (wc s)[18]? = some (.int .i64 s.p.b) := fun _ => rfl
  have f21 : ∀ s : Wk, (wc s)[21]? = some (.int .i64 s.p.c) := fun _ => rfl
  have T0 := Two.start w s
  have AQ := (A.mono (Q := fun b => P b ∧ b ≠ w.heap.size ∧ b ≠ w.heap.size + 1) (fun b hb q => ⟨q, by omega, by omega⟩)).keep T0.below
  obtain ⟨v0, hv0⟩ : ∃ u, u = (w.alloc (.cells (wc s) 46)).alloc (.cells (wc wz) 46) := ⟨_, rfl⟩
  rw [← hv0] at T0 AQ
  have x0 := T0.X.cells
  have z0 := T0.X.frozen
  have gK := qa68
  simp only [Option.isSome_some] at gK
  have T1 := T0.bZ 31 (.int .i64 r) ({ s with p := { s.p with rt := r } } : Wk) rfl
  have gu := AQ.cell (g := w.heap.size) (fun q => q.2.1 rfl) 31 (.int .i64 r)
  obtain ⟨bv, hbv⟩ : ∃ k, k = wrap64 (s.p.b - 1) := ⟨_, rfl⟩
  have hbv' : IntKind.i64.wrap (s.p.b - 1) = bv := (IntWalk.i64_left _).trans hbv.symm
  rw [← hbv]
  clear hbv
  obtain ⟨v1, hv1⟩ : ∃ u, u = v0.setCell ⟨w.heap.size, 31, none⟩ (.int .i64 r) := ⟨_, rfl⟩
  have AL := (gu.pl (p := { s.p with rt := r }) (p' := { x.p with rt := r }) qa67)
  rw [← hv1] at T1 AL
  have ba : Below v1.heap.size v1 (v1.alloc (.cells #[.int .i64 bv] 3)) := (Below.refl _ _).alloc (Nat.le_refl _) _
  have rr : Reads (v1.alloc (.cells #[.int .i64 bv] 3)) .i64 (.slice (some ⟨v1.heap.size, 0, none⟩) 1 1) [bv] := Reads.dn (l := [bv]) (Bk.new v1 #[.int .i64 bv] 3) fZ
  have HH := Lib.hid (dF ({ s with p := { s.p with rt := r } } : Wk) ({ x with p := { x.p with rt := r } } : St) ⟨hx.rk, hx.l0, hx.l1, hx.l2, hx.hl, hx.rd⟩ ⟨some ⟨v1.heap.size, 0, none⟩, 1, 1⟩ [bv] aF _ (AL.keep ba).lies rr)
  simp only [Sl.v] at HH
  have x1 := T1.X.cells
  have lt1 := T1.lt
  have l00 := T1.below.size
  have eb : (v0.cell? ⟨w.heap.size, 31, none⟩).isSome = true := gK
  clear rr
  go_enter Tryz.func171, Tryz.ntmps171
  go_upto_region 2 with ((with_reducible refine au rfl rfl ?_); rw [← hv0]; clear hv0)
  rw [← hv1]
  clear hv1 x0 z0 eb gK
  go_wp2_with (first | (refine wpList_load_row rfl 46 _ rfl (w.heap.size) rfl _ (wc ({ s with p := { s.p with rt := r } } : Wk)) (0, 0) _ dG Tryz.underlying46 rfl ah ?_))
  refine HH.out.mono ?_
  rintro en w5 ⟨s5, rfl, ⟨L5, -⟩, hb5⟩
  have T5 := (T1.keep ba).keep hb5
  have l5 := T5.lt
  have l7 := hb5.size
  have l8 := ba.size
  have T6 := T5.bO s5
  have A6 := (aM.of (P := fun b => P b ∧ b ≠ w.heap.size ∧ b ≠ w.heap.size + 1) L5 (fun b _ q => ⟨hP b aj, by omega, by omega⟩)).row (g := w.heap.size) (fun q => q.2.1 rfl) (wc s5)
  obtain ⟨w6, hw6⟩ : ∃ u, u = w5.setRow w.heap.size (wc s5) := ⟨_, rfl⟩
  have l9 : w6.heap.size = w5.heap.size := qa6g
  rw [← hw6] at T6 A6
  clear L5 hb5 HH x1
  have x6 := T6.X.cells
  have z6 := T6.X.frozen
  have e301 : (w6.cell? ⟨w.heap.size, 18, none⟩).isSome = true := by rw [x6, f18]; rfl
  have T7 := T6.bZ 18 (.int .i64 0) ({ s5 with p := { s5.p with b := 0 } } : Wk) rfl
  have A7 := A6.cell (g := w.heap.size) (fun q => q.2.1 rfl) 18 (.int .i64 0)
  have e302 : ((w6.setCell ⟨w.heap.size, 18, none⟩ (.int .i64 0)).cell? ⟨w.heap.size, 21, none⟩).isSome = true := by rw [T7.X.cells, f21]; rfl
  have T8 := T7.bZ 21 (.int .i64 0) ({ s5 with p := { s5.p with b := 0, c := 0 } } : Wk) rfl
  have A8 := (A7.cell (g := w.heap.size) (fun q => q.2.1 rfl) 21 (.int .i64 0)).pl (p := { s5.p with b := 0, c := 0 }) (p' := { x.p with rt := r, b := 0, c := 0 }) (by rw [A6.p]; rfl)
  have lt8 := T8.lt
  have HP' : ∀ b, ((w6.setCell ⟨w.heap.size, 18, none⟩ (.int .i64 0)).setCell ⟨w.heap.size, 21, none⟩ (.int .i64 0)).heap.size ≤ b → (P b ∧ b ≠ w.heap.size ∧ b ≠ w.heap.size + 1) := fun b hb => by simp only [World.size_setCell] at hb; exact ⟨hP b aj, by omega, by omega⟩
  have HC := Lib.hid (jf HP' A8 ⟨hx.rk, hx.l0, hx.l1, hx.l2, by have := hx2.hl; simp [holdS]; omega, hx.rd⟩)
  clear A8 A7 A6
  go_wp2_with (first | (refine wpList_store_row rfl 46 _ _ rfl (w.heap.size) (wc s5) rfl rfl _ _ qa6f ah ah ah ?_; rw [← hw6]; clear hw6 T5) | (refine wpList_load_row rfl 46 _ rfl (w.heap.size) rfl _ (wc ({ s5 with p := { s5.p with b := 0, c := 0 } } : Wk)) (0, 0) _ (by exact T8.X) Tryz.underlying46 rfl ah ?_))
  refine HC.out.mono ?_
  rintro e w9 ⟨s9, rfl, A9, hb9⟩
  have T9 := T8.keep hb9
  go_wp2_with (first | (refine wpList_store_row rfl 46 _ _ rfl (w.heap.size + 1) (wc s9) rfl rfl _ _ eP ah ah ah ?_))
  have ZF := T9.bN s9
  refine bodyPost_ret (v := wv s9) ?_ rfl ⟨s9, rfl, ((A9.row (g := w.heap.size + 1) (fun q => q.2.2 rfl) _).mono (fun b _ q => q.1)), ZF.below⟩
  exact results_cell_row (p := 4) (ty := 46) Tryz.results171 _ _ (w.heap.size + 1) 46 _ (0, 0) _ rfl ZF.Z Tryz.underlying46 rfl ah
theorem fFailW (c : Cfg) {P : Nat → Prop} {w : World} {s : Wk} {x : St} (hP : ∀ b, w.heap.size ≤ b → P b) (A : aM P w s x) {a : Nat} {n : Int} (hx : Few 800 x) (K : Bk w a #[.int .i64 n] 32) :
  Calls Tryz.prog 170 #[cv c, wv s, .pointer (some ⟨a, 0, none⟩)] w (FW P w (bS n x)) := by
 have la := K.lt
 have hbc : Below w.heap.size w (w.alloc (.cells (ccM c) 24)) := (Below.refl _ _).alloc (Nat.le_refl _) _
 have cO : (w.alloc (.cells (ccM c) 24)).heap.size = w.heap.size + 1 := aF
 have T0 := Two.aY hbc s
 rw [cO] at T0
 have AQ := (A.mono (Q := fun b => P b ∧ b ≠ w.heap.size + 1 ∧ b ≠ w.heap.size + 1 + 1) (fun b hb q => ⟨q, by omega, by omega⟩)).keep T0.below
 obtain ⟨v0, hv0⟩ : ∃ u, u = ((w.alloc (.cells (ccM c) 24)).alloc (.cells (wc s) 46)).alloc (.cells (wc wz) 46) := ⟨_, rfl⟩
 rw [← hv0] at T0 AQ
 have x0 := T0.X.cells
 have z0 := T0.X.frozen
 have ka := (K.keep T0.below).cells
 have HP' : ∀ b, w.heap.size + 1 + 1 + 1 ≤ b → (P b ∧ b ≠ w.heap.size + 1 ∧ b ≠ w.heap.size + 1 + 1) := fun b hb => ⟨hP b aj, by omega, by omega⟩
 have lt9 := T0.lt
 have HC := Lib.hid (fFail (P := fun b => P b ∧ b ≠ w.heap.size + 1 ∧ b ≠ w.heap.size + 1 + 1) (fun b hb => HP' b aj) AQ (hx.mono aj) hx n)
 go_enter Tryz.func170, Tryz.ntmps170
 go_wp2_with (first | ((with_reducible refine au rfl rfl ?_); rw [← hv0]; clear hv0) | (refine wpList_load_row rfl 46 _ rfl (w.heap.size + 1) rfl _ (wc s) (0, 0) _ bT Tryz.underlying46 rfl ah ?_))
 refine HC.out.mono ?_
 rintro e w9 ⟨s9, rfl, A9, hb9⟩
 have T9 := T0.keep hb9
 go_wp2_with (first | (refine wpList_store_row rfl 46 _ _ rfl (w.heap.size + 1 + 1) (wc s9) rfl rfl _ _ eP ah ah ah ?_))
 have ZF := T9.bN s9
 refine bodyPost_ret (v := wv s9) ?_ rfl ⟨s9, rfl, ((A9.row (g := w.heap.size + 1 + 1) (fun q => q.2.2 rfl) _).mono (fun b _ q => q.1)), ZF.below⟩
 exact results_cell_row (p := 5) (ty := 46) Tryz.results170 _ _ (w.heap.size + 1 + 1) 46 _ (0, 0) _ rfl ZF.Z Tryz.underlying46 rfl ah
end Go.Proofs.YtaiodbcnbcdokaaGreat.Me
