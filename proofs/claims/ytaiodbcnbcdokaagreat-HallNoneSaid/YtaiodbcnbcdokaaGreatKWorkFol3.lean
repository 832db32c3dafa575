/- Part WorkFol3. -/
import Derived.Test.YtaiodbcnbcdokaaGreatKFols
import Derived.Test.YtaiodbcnbcdokaaGreatKBags
set_option linter.unusedVariables false
set_option linter.unusedSimpArgs false
set_option linter.unusedSectionVars false
set_option maxRecDepth 100000
set_option maxHeartbeats 16000000
namespace Go.Proofs.YtaiodbcnbcdokaaGreat.Me
open Go Go.RowKit Go.ChangeMaps Gro Own Wd Ap Go.Proofs.YtaiodbcnbcdokaaGreat.Pl Wo Mr
def fT (c : Cfg) (x : St) : St := { (putB c.bg x (wrap64 (x.p.c - 1))).1 with p := { (putB c.bg x (wrap64 (x.p.c - 1))).1.p with c := 0 } }
def freedS (c : Cfg) (x : St) : St := if (fT c x).p.i = 0 then bG (fT c x) else atS (fT c x) 23
def writtenS (c : Cfg) (x : St) : St := bG (fT c x)
theorem fRetire (c : Cfg) {P : Nat → Prop} {w : World} {s : Wk} {x : St} (hP : ∀ b, w.heap.size ≤ b → P b) (A : aM P w s x) (hx : Few 400 x) :
  Calls Tryz.prog 175 #[cv c, wv s] w (FW P w (fT c x)) := by
 have f21 : ∀ s : Wk, (wc s)[21]? = some (.int .i64 s.p.c) := fun _ => rfl
 have hbc : Below w.heap.size w (w.alloc (.cells (ccM c) 24)) := (Below.refl _ _).alloc (Nat.le_refl _) _
 have cO : (w.alloc (.cells (ccM c) 24)).heap.size = w.heap.size + 1 := aF
 have T0 := Two.aY hbc s
 rw [cO] at T0
 have AQ := (A.mono (Q := fun b => P b ∧ b ≠ w.heap.size + 1 ∧ b ≠ w.heap.size + 1 + 1) (fun b hb q => ⟨q, by omega, by omega⟩)).keep T0.below
 obtain ⟨v0, hv0⟩ : ∃ u, u = ((w.alloc (.cells (ccM c) 24)).alloc (.cells (wc s) 46)).alloc (.cells (wc wz) 46) := ⟨_, rfl⟩
 rw [← hv0] at T0 AQ
 have x0 := T0.X.cells
 have z0 := T0.X.frozen
 have C0 : Bk v0 w.heap.size (ccM c) 24 := qa6y
 have lt0 := T0.lt
 have ls0 := T0.below.size
 obtain ⟨cv0, hcv⟩ : ∃ k, k = wrap64 (x.p.c - 1) := ⟨_, rfl⟩
 have hcv' : IntKind.i64.wrap (s.p.c - 1) = cv0 := by rw [A.p]; exact (IntWalk.i64_left _).trans hcv.symm
 unfold fT
 rw [← hcv]
 clear hcv
 have HPT := Lib.hid (bagPut c s x hx cv0 _ AQ.lies)
 go_enter Tryz.func175, Tryz.ntmps175
 go_wp2_with (first | ((with_reducible refine au rfl rfl ?_); rw [← hv0]; clear hv0) | (refine wpList_load_row rfl 46 _ rfl (w.heap.size + 1) rfl _ (wc s) (0, 0) _ bT Tryz.underlying46 rfl ah ?_) | (refine wpList_load_row rfl 24 _ rfl w.heap.size rfl _ (ccM c) (0, 0) _ qa6z Tryz.underlying24 rfl ah ?_))
 refine HPT.out.mono ?_
 rintro en w5 ⟨s5, rfl, L5, hb5⟩
 have T5 := T0.keep hb5
 have l5 := T5.lt
 have l7 := hb5.size
 have T6 := T5.bO s5
 have A6 := (aM.of (P := fun b => P b ∧ b ≠ w.heap.size + 1 ∧ b ≠ w.heap.size + 1 + 1) L5 (fun b _ q => ⟨hP b aj, by omega, by omega⟩)).row (g := w.heap.size + 1) (fun q => q.2.1 rfl) (wc s5)
 obtain ⟨w6, hw6⟩ : ∃ u, u = w5.setRow (w.heap.size + 1) (wc s5) := ⟨_, rfl⟩
 rw [← hw6] at T6 A6
 clear L5 hb5 HPT x0 z0 C0
 have x6 := T6.X.cells
 have z6 := T6.X.frozen
 have e301 : (w6.cell? ⟨w.heap.size + 1, 21, none⟩).isSome = true := by rw [x6, f21]; rfl
 have T7 := T6.bZ 21 (.int .i64 0) ({ s5 with p := { s5.p with c := 0 } } : Wk) rfl
 have A7 := (A6.cell (g := w.heap.size + 1) (fun q => q.2.1 rfl) 21 (.int .i64 0)).pl (p := { s5.p with c := 0 }) (p' := { (putB c.bg x cv0).1.p with c := 0 }) (by rw [A6.p])
 go_wp2_with (first | (refine wpList_store_row rfl 46 _ _ rfl (w.heap.size + 1) (wc s5) rfl rfl _ _ qa6f ah ah ah ?_; rw [← hw6]; clear hw6 T5) | (refine wpList_load_row rfl 46 _ rfl (w.heap.size + 1) rfl _ (wc ({ s5 with p := { s5.p with c := 0 } } : Wk)) (0, 0) _ (by exact T7.X) Tryz.underlying46 rfl ah ?_) | (refine wpList_store_row rfl 46 _ _ rfl (w.heap.size + 1 + 1) (wc ({ s5 with p := { s5.p with c := 0 } } : Wk)) rfl rfl _ _ (by exact T7.Z) ah ah ah ?_))
 have ZF := T7.bN ({ s5 with p := { s5.p with c := 0 } } : Wk)
 have A9 := A7
 refine bodyPost_ret (v := wv ({ s5 with p := { s5.p with c := 0 } } : Wk)) ?_ rfl ⟨_, rfl, ((A9.row (g := w.heap.size + 1 + 1) (fun q => q.2.2 rfl) _).mono (fun b _ q => q.1)), ZF.below⟩
 exact results_cell_row (p := 4) (ty := 46) Tryz.results175 _ _ (w.heap.size + 1 + 1) 46 _ (0, 0) _ rfl ZF.Z Tryz.underlying46 rfl ah
theorem fWritten (c : Cfg) {P : Nat → Prop} {w : World} {s : Wk} {x : St} (hP : ∀ b, w.heap.size ≤ b → P b) (A : aM P w s x) (hx : Few 400 x) (hx9 : Few 900 (fT c x)) :
  Calls Tryz.prog 151 #[cv c, wv s] w (FW P w (writtenS c x)) := by
 have hbc : Below w.heap.size w (w.alloc (.cells (ccM c) 24)) := (Below.refl _ _).alloc (Nat.le_refl _) _
 have cO : (w.alloc (.cells (ccM c) 24)).heap.size = w.heap.size + 1 := aF
 have T0 := Two.aY hbc s
 rw [cO] at T0
 have AQ := (A.mono (Q := fun b => P b ∧ b ≠ w.heap.size + 1 ∧ b ≠ w.heap.size + 1 + 1) (fun b hb q => ⟨q, by omega, by omega⟩)).keep T0.below
 obtain ⟨v0, hv0⟩ : ∃ u, u = ((w.alloc (.cells (ccM c) 24)).alloc (.cells (wc s) 46)).alloc (.cells (wc wz) 46) := ⟨_, rfl⟩
 rw [← hv0] at T0 AQ
 have x0 := T0.X.cells
 have z0 := T0.X.frozen
 have C0 : Bk v0 w.heap.size (ccM c) 24 := qa6y
 have lt0 := T0.lt
 have ls0 := T0.below.size
 unfold writtenS
 have HRT := Lib.hid (fRetire c (P := (fun b => P b ∧ b ≠ w.heap.size + 1 ∧ b ≠ w.heap.size + 1 + 1)) (fun b hb => ⟨hP b aj, by omega, by omega⟩) AQ hx)
 go_enter Tryz.func151, Tryz.ntmps151
 go_wp2_with (first | ((with_reducible refine au rfl rfl ?_); rw [← hv0]; clear hv0) | (refine wpList_load_row rfl 46 _ rfl (w.heap.size + 1) rfl _ (wc s) (0, 0) _ bT Tryz.underlying46 rfl ah ?_) | (refine wpList_load_row rfl 24 _ rfl w.heap.size rfl _ (ccM c) (0, 0) _ qa6z Tryz.underlying24 rfl ah ?_))
 refine HRT.out.mono ?_
 rintro en w5 ⟨s5, rfl, A5, hb5⟩
 have T5 := T0.keep hb5
 have l5 := T5.lt
 have l7 := hb5.size
 have HRL := Lib.hid (jf (P := (fun b => P b ∧ b ≠ w.heap.size + 1 ∧ b ≠ w.heap.size + 1 + 1)) (fun b hb => ⟨hP b aj, by omega, by omega⟩) A5 hx9)
 clear A5 hb5 HRT x0 z0 C0 AQ
 go_wp2_with fail
 refine HRL.out.mono ?_
 rintro e w9 ⟨s9, rfl, A9, hb9⟩
 have T9 := T5.keep hb9
 go_wp2_with (first | (refine wpList_store_row rfl 46 _ _ rfl (w.heap.size + 1 + 1) (wc s9) rfl rfl _ _ eP ah ah ah ?_))
 have ZF := T9.bN s9
 refine bodyPost_ret (v := wv s9) ?_ rfl ⟨s9, rfl, ((A9.row (g := w.heap.size + 1 + 1) (fun q => q.2.2 rfl) _).mono (fun b _ q => q.1)), ZF.below⟩
 exact results_cell_row (p := 4) (ty := 46) Tryz.results151 _ _ (w.heap.size + 1 + 1) 46 _ (0, 0) _ rfl ZF.Z Tryz.underlying46 rfl ah
theorem fFreed (c : Cfg) {P : Nat → Prop} {w : World} {s : Wk} {x : St} (hP : ∀ b, w.heap.size ≤ b → P b) (A : aM P w s x) (hx : Few 400 x) (hx9 : Few 900 (fT c x)) :
  Calls Tryz.prog 150 #[cv c, wv s] w (FW P w (freedS c x)) := by
 unfold freedS
 by_cases hz : (fT c x).p.i = 0
 ·rw [if_pos hz]
  have f20 : ∀ s : Wk, (wc s)[20]? = some (.int .i64 s.p.i) := fun _ => rfl
  have hbc : Below w.heap.size w (w.alloc (.cells (ccM c) 24)) := (Below.refl _ _).alloc (Nat.le_refl _) _
  have cO : (w.alloc (.cells (ccM c) 24)).heap.size = w.heap.size + 1 := aF
  have T0 := Two.aY hbc s
  rw [cO] at T0
  have AQ := (A.mono (Q := fun b => P b ∧ b ≠ w.heap.size + 1 ∧ b ≠ w.heap.size + 1 + 1) (fun b hb q => ⟨q, by omega, by omega⟩)).keep T0.below
  obtain ⟨v0, hv0⟩ : ∃ u, u = ((w.alloc (.cells (ccM c) 24)).alloc (.cells (wc s) 46)).alloc (.cells (wc wz) 46) := ⟨_, rfl⟩
  rw [← hv0] at T0 AQ
  have x0 := T0.X.cells
  have z0 := T0.X.frozen
  have C0 : Bk v0 w.heap.size (ccM c) 24 := qa6y
  have lt0 := T0.lt
  have ls0 := T0.below.size
  have HRT := Lib.hid (fRetire c (P := (fun b => P b ∧ b ≠ w.heap.size + 1 ∧ b ≠ w.heap.size + 1 + 1)) (fun b hb => ⟨hP b aj, by omega, by omega⟩) AQ hx)
  obtain ⟨i0, hi0⟩ : ∃ k, k = (fT c x).p.i := ⟨_, rfl⟩
  go_enter Tryz.func150, Tryz.ntmps150
  go_wp2_with (first | ((with_reducible refine au rfl rfl ?_); rw [← hv0]; clear hv0) | (refine wpList_load_row rfl 46 _ rfl (w.heap.size + 1) rfl _ (wc s) (0, 0) _ bT Tryz.underlying46 rfl ah ?_) | (refine wpList_load_row rfl 24 _ rfl w.heap.size rfl _ (ccM c) (0, 0) _ qa6z Tryz.underlying24 rfl ah ?_))
  refine HRT.out.mono ?_
  rintro en w5 ⟨s5, rfl, A5, hb5⟩
  have T5 := T0.keep hb5
  have l5 := T5.lt
  have l7 := hb5.size
  have T6 := T5.bO s5
  have A6 := A5.row (g := w.heap.size + 1) (fun q => q.2.1 rfl) (wc s5)
  obtain ⟨w6, hw6⟩ : ∃ u, u = w5.setRow (w.heap.size + 1) (wc s5) := ⟨_, rfl⟩
  have l8 : w6.heap.size = w5.heap.size := qa6g
  rw [← hw6] at T6 A6
  have q20 : (wc s5)[20]? = some (.int .i64 i0) := by rw [f20, A5.p, hi0]
  have tq : (i0 != 0) = false := by rw [hi0]; simp [hz]
  clear A5 hb5 HRT x0 z0 C0 AQ f20 hi0 hz
  have HC := Lib.hid (jf (P := (fun b => P b ∧ b ≠ w.heap.size + 1 ∧ b ≠ w.heap.size + 1 + 1)) (fun b hb => ⟨hP b aj, by omega, by omega⟩) A6 hx9)
  have x6 := T6.X.cells
  go_wp2_with (first | (refine wpList_store_row rfl 46 _ _ rfl (w.heap.size + 1) (wc s5) rfl rfl _ _ qa6f ah ah ah ?_; rw [← hw6]; clear hw6 T5) | (refine wpList_load_row rfl 46 _ rfl (w.heap.size + 1) rfl _ (wc s5) (0, 0) _ qa6h Tryz.underlying46 rfl ah ?_))
  refine HC.out.mono ?_
  rintro e w9 ⟨s9, rfl, A9, hb9⟩
  have T9 := T6.keep hb9
  go_wp2_with (first | (refine wpList_store_row rfl 46 _ _ rfl (w.heap.size + 1 + 1) (wc s9) rfl rfl _ _ eP ah ah ah ?_))
  have ZF := T9.bN s9
  refine bodyPost_ret (v := wv s9) ?_ rfl ⟨s9, rfl, ((A9.row (g := w.heap.size + 1 + 1) (fun q => q.2.2 rfl) _).mono (fun b _ q => q.1)), ZF.below⟩
  exact results_cell_row (p := 4) (ty := 46) Tryz.results150 _ _ (w.heap.size + 1 + 1) 46 _ (0, 0) _ rfl ZF.Z Tryz.underlying46 rfl ah
 ·rw [if_neg hz]
  have f20 : ∀ s : Wk, (wc s)[20]? = some (.int .i64 s.p.i) := fun _ => rfl
  have hbc : Below w.heap.size w (w.alloc (.cells (ccM c) 24)) := (Below.refl _ _).alloc (Nat.le_refl _) _
  have cO : (w.alloc (.cells (ccM c) 24)).heap.size = w.heap.size + 1 := aF
  have T0 := Two.aY hbc s
  rw [cO] at T0
  have AQ := (A.mono (Q := fun b => P b ∧ b ≠ w.heap.size + 1 ∧ b ≠ w.heap.size + 1 + 1) (fun b hb q => ⟨q, by omega, by omega⟩)).keep T0.below
  obtain ⟨v0, hv0⟩ : ∃ u, u = ((w.alloc (.cells (ccM c) 24)).alloc (.cells (wc s) 46)).alloc (.cells (wc wz) 46) := ⟨_, rfl⟩
  rw [← hv0] at T0 AQ
  have x0 := T0.X.cells
  have z0 := T0.X.frozen
  have C0 : Bk v0 w.heap.size (ccM c) 24 := qa6y
  have lt0 := T0.lt
  have ls0 := T0.below.size
  have HRT := Lib.hid (fRetire c (P := (fun b => P b ∧ b ≠ w.heap.size + 1 ∧ b ≠ w.heap.size + 1 + 1)) (fun b hb => ⟨hP b aj, by omega, by omega⟩) AQ hx)
  obtain ⟨i0, hi0⟩ : ∃ k, k = (fT c x).p.i := ⟨_, rfl⟩
  go_enter Tryz.func150, Tryz.ntmps150
  go_wp2_with (first | ((with_reducible refine au rfl rfl ?_); rw [← hv0]; clear hv0) | (refine wpList_load_row rfl 46 _ rfl (w.heap.size + 1) rfl _ (wc s) (0, 0) _ bT Tryz.underlying46 rfl ah ?_) | (refine wpList_load_row rfl 24 _ rfl w.heap.size rfl _ (ccM c) (0, 0) _ qa6z Tryz.underlying24 rfl ah ?_))
  refine HRT.out.mono ?_
  rintro en w5 ⟨s5, rfl, A5, hb5⟩
  have T5 := T0.keep hb5
  have l5 := T5.lt
  have l7 := hb5.size
  have T6 := T5.bO s5
  have A6 := A5.row (g := w.heap.size + 1) (fun q => q.2.1 rfl) (wc s5)
  obtain ⟨w6, hw6⟩ : ∃ u, u = w5.setRow (w.heap.size + 1) (wc s5) := ⟨_, rfl⟩
  have l8 : w6.heap.size = w5.heap.size := qa6g
  rw [← hw6] at T6 A6
  have q20 : (wc s5)[20]? = some (.int .i64 i0) := by rw [f20, A5.p, hi0]
  have tq : (i0 != 0) = true := by rw [hi0]; simp [hz]
  clear A5 hb5 HRT x0 z0 C0 AQ f20 hi0 hz
  have HC := Lib.hid (fAt (P := (fun b => P b ∧ b ≠ w.heap.size + 1 ∧ b ≠ w.heap.size + 1 + 1)) (fun b hb => ⟨hP b aj, by omega, by omega⟩) A6 23)
  have x6 := T6.X.cells
  go_wp2_with (first | (refine wpList_store_row rfl 46 _ _ rfl (w.heap.size + 1) (wc s5) rfl rfl _ _ qa6f ah ah ah ?_; rw [← hw6]; clear hw6 T5) | (refine wpList_load_row rfl 46 _ rfl (w.heap.size + 1) rfl _ (wc s5) (0, 0) _ qa6h Tryz.underlying46 rfl ah ?_))
  refine HC.out.mono ?_
  rintro e w9 ⟨s9, rfl, A9, hb9⟩
  have T9 := T6.keep hb9
  go_wp2_with (first | (refine wpList_store_row rfl 46 _ _ rfl (w.heap.size + 1 + 1) (wc s9) rfl rfl _ _ eP ah ah ah ?_))
  have ZF := T9.bN s9
  refine bodyPost_ret (v := wv s9) ?_ rfl ⟨s9, rfl, ((A9.row (g := w.heap.size + 1 + 1) (fun q => q.2.2 rfl) _).mono (fun b _ q => q.1)), ZF.below⟩
  exact results_cell_row (p := 4) (ty := 46) Tryz.results150 _ _ (w.heap.size + 1 + 1) 46 _ (0, 0) _ rfl ZF.Z Tryz.underlying46 rfl ah
end Go.Proofs.YtaiodbcnbcdokaaGreat.Me
