/- Part Begins. -/
import Derived.Test.YtaiodbcnbcdokaaGreatKFols
import Derived.Test.YtaiodbcnbcdokaaGreatKEntryLive
set_option linter.unusedVariables false
set_option linter.unusedSimpArgs false
set_option linter.unusedSectionVars false
set_option maxRecDepth 100000
set_option maxHeartbeats 16000000
namespace Go.Proofs.YtaiodbcnbcdokaaGreat.Me
open Go Go.RowKit Go.ChangeMaps Gro Own Wd Ap Go.Proofs.YtaiodbcnbcdokaaGreat.Pl Wo Mr
def jl (x : St) (b : Bool) (r l : Int) : St := if b = true then endS x r else atS x l
def enterS (x : St) : St := if x.p.pn = true then bodyS x else atS x 1
def startS (c : Cfg) (x : St) : St :=
 if x.p.o0 = 1 then jl x x.p.pn 9 1 else if x.p.o0 = 2 then jl x (!x.p.pn) 9 90 else if x.p.o0 = 7 then jl x (!x.p.pn || x.p.br == 0) 9 62 else if x.p.o0 = 8 then atS x 70
 else if x.p.o0 = 9 then jl x (decide (x.p.o3 < 0) || decide (c.sl ≤ x.p.o3)) 8 36 else if x.p.o0 = 4 ∨ x.p.o0 = 5 ∨ x.p.o0 = 6 then (if goodB c x.p.t = true then enterS x else endS x 8) else if x.p.o0 = 3 then enterS x else endS x 3
theorem fUnless {P : Nat → Prop} {w : World} {s : Wk} {x : St} (hP : ∀ b, w.heap.size ≤ b → P b) (A : aM P w s x) (b : Bool) (r l : Int) :
  Calls Tryz.prog 117 #[wv s, .bool b, .int .i64 r, .int .i64 l] w (FW P w (jl x b r l)) := by
 unfold jl
 cases b with
 | true =>
  rw [if_pos rfl]
  have T0 := Two.start w s
  have AQ := (A.mono (Q := fun b => P b ∧ b ≠ w.heap.size ∧ b ≠ w.heap.size + 1) (fun b hb q => ⟨q, by omega, by omega⟩)).keep T0.below
  obtain ⟨v0, hv0⟩ : ∃ u, u = (w.alloc (.cells (wc s) 46)).alloc (.cells (wc wz) 46) := ⟨_, rfl⟩
  rw [← hv0] at T0 AQ
  have x0 := T0.X.cells
  have z0 := T0.X.frozen
  have HP' : ∀ b, w.heap.size + 1 + 1 ≤ b → (P b ∧ b ≠ w.heap.size ∧ b ≠ w.heap.size + 1) := fun b hb => ⟨hP b aj, by omega, by omega⟩
  have lt9 := T0.lt
  have HC := Lib.hid (fEnd (P := fun b => P b ∧ b ≠ w.heap.size ∧ b ≠ w.heap.size + 1) (fun b hb => HP' b aj) AQ r)
  go_enter Tryz.func117, Tryz.ntmps117
  go_wp2_with (first | ((with_reducible refine au rfl rfl ?_); rw [← hv0]; clear hv0) | (refine wpList_load_row rfl 46 _ rfl (w.heap.size) rfl _ (wc s) (0, 0) _ bT Tryz.underlying46 rfl ah ?_))
  refine HC.out.mono ?_
  rintro e w9 ⟨s9, rfl, A9, hb9⟩
  have T9 := T0.keep hb9
  go_wp2_with (first | (refine wpList_store_row rfl 46 _ _ rfl (w.heap.size + 1) (wc s9) rfl rfl _ _ eP ah ah ah ?_))
  have ZF := T9.bN s9
  refine bodyPost_ret (v := wv s9) ?_ rfl ⟨s9, rfl, ((A9.row (g := w.heap.size + 1) (fun q => q.2.2 rfl) _).mono (fun b _ q => q.1)), ZF.below⟩
  exact results_cell_row (p := 8) (ty := 46) Tryz.results117 _ _ (w.heap.size + 1) 46 _ (0, 0) _ rfl ZF.Z Tryz.underlying46 rfl ah
 | false =>
  rw [if_neg aL]
  have T0 := Two.start w s
  have AQ := (A.mono (Q := fun b => P b ∧ b ≠ w.heap.size ∧ b ≠ w.heap.size + 1) (fun b hb q => ⟨q, by omega, by omega⟩)).keep T0.below
  obtain ⟨v0, hv0⟩ : ∃ u, u = (w.alloc (.cells (wc s) 46)).alloc (.cells (wc wz) 46) := ⟨_, rfl⟩
  rw [← hv0] at T0 AQ
  have x0 := T0.X.cells
  have z0 := T0.X.frozen
  have HP' : ∀ b, w.heap.size + 1 + 1 ≤ b → (P b ∧ b ≠ w.heap.size ∧ b ≠ w.heap.size + 1) := fun b hb => ⟨hP b aj, by omega, by omega⟩
  have lt9 := T0.lt
  have HC := Lib.hid (fAt (P := fun b => P b ∧ b ≠ w.heap.size ∧ b ≠ w.heap.size + 1) (fun b hb => HP' b aj) AQ l)
  go_enter Tryz.func117, Tryz.ntmps117
  go_wp2_with (first | ((with_reducible refine au rfl rfl ?_); rw [← hv0]; clear hv0) | (refine wpList_load_row rfl 46 _ rfl (w.heap.size) rfl _ (wc s) (0, 0) _ bT Tryz.underlying46 rfl ah ?_))
  refine HC.out.mono ?_
  rintro e w9 ⟨s9, rfl, A9, hb9⟩
  have T9 := T0.keep hb9
  go_wp2_with (first | (refine wpList_store_row rfl 46 _ _ rfl (w.heap.size + 1) (wc s9) rfl rfl _ _ eP ah ah ah ?_))
  have ZF := T9.bN s9
  refine bodyPost_ret (v := wv s9) ?_ rfl ⟨s9, rfl, ((A9.row (g := w.heap.size + 1) (fun q => q.2.2 rfl) _).mono (fun b _ q => q.1)), ZF.below⟩
  exact results_cell_row (p := 8) (ty := 46) Tryz.results117 _ _ (w.heap.size + 1) 46 _ (0, 0) _ rfl ZF.Z Tryz.underlying46 rfl ah
theorem fEnter {P : Nat → Prop} {w : World} {s : Wk} {x : St} (hP : ∀ b, w.heap.size ≤ b → P b) (A : aM P w s x) (hx : Few 900 x) :
  Calls Tryz.prog 120 #[wv s] w (FW P w (enterS x)) := by
 unfold enterS
 cases h_pn : x.p.pn with
 | true =>
  rw [if_pos rfl]
  have q8 : (wc s)[8]? = some (.bool true) := by rw [show (wc s)[8]? = some (.bool s.p.pn) from rfl, A.p, h_pn]
  clear h_pn
  have T0 := Two.start w s
  have AQ := (A.mono (Q := fun b => P b ∧ b ≠ w.heap.size ∧ b ≠ w.heap.size + 1) (fun b hb q => ⟨q, by omega, by omega⟩)).keep T0.below
  obtain ⟨v0, hv0⟩ : ∃ u, u = (w.alloc (.cells (wc s) 46)).alloc (.cells (wc wz) 46) := ⟨_, rfl⟩
  rw [← hv0] at T0 AQ
  have x0 := T0.X.cells
  have z0 := T0.X.frozen
  have HP' : ∀ b, w.heap.size + 1 + 1 ≤ b → (P b ∧ b ≠ w.heap.size ∧ b ≠ w.heap.size + 1) := fun b hb => ⟨hP b aj, by omega, by omega⟩
  have lt9 := T0.lt
  have HC := Lib.hid (fBody (P := fun b => P b ∧ b ≠ w.heap.size ∧ b ≠ w.heap.size + 1) (fun b hb => HP' b aj) AQ hx)
  go_enter Tryz.func120, Tryz.ntmps120
  go_wp2_with (first | ((with_reducible refine au rfl rfl ?_); rw [← hv0]; clear hv0) | (refine wpList_load_row rfl 46 _ rfl (w.heap.size) rfl _ (wc s) (0, 0) _ bT Tryz.underlying46 rfl ah ?_))
  refine HC.out.mono ?_
  rintro e w9 ⟨s9, rfl, A9, hb9⟩
  have T9 := T0.keep hb9
  go_wp2_with (first | (refine wpList_store_row rfl 46 _ _ rfl (w.heap.size + 1) (wc s9) rfl rfl _ _ eP ah ah ah ?_))
  have ZF := T9.bN s9
  refine bodyPost_ret (v := wv s9) ?_ rfl ⟨s9, rfl, ((A9.row (g := w.heap.size + 1) (fun q => q.2.2 rfl) _).mono (fun b _ q => q.1)), ZF.below⟩
  exact results_cell_row (p := 2) (ty := 46) Tryz.results120 _ _ (w.heap.size + 1) 46 _ (0, 0) _ rfl ZF.Z Tryz.underlying46 rfl ah
 | false =>
  rw [if_neg aL]
  have q8 : (wc s)[8]? = some (.bool false) := by rw [show (wc s)[8]? = some (.bool s.p.pn) from rfl, A.p, h_pn]
  clear h_pn
  have T0 := Two.start w s
  have AQ := (A.mono (Q := fun b => P b ∧ b ≠ w.heap.size ∧ b ≠ w.heap.size + 1) (fun b hb q => ⟨q, by omega, by omega⟩)).keep T0.below
  obtain ⟨v0, hv0⟩ : ∃ u, u = (w.alloc (.cells (wc s) 46)).alloc (.cells (wc wz) 46) := ⟨_, rfl⟩
  rw [← hv0] at T0 AQ
  have x0 := T0.X.cells
  have z0 := T0.X.frozen
  have HP' : ∀ b, w.heap.size + 1 + 1 ≤ b → (P b ∧ b ≠ w.heap.size ∧ b ≠ w.heap.size + 1) := fun b hb => ⟨hP b aj, by omega, by omega⟩
  have lt9 := T0.lt
  have HC := Lib.hid (fAt (P := fun b => P b ∧ b ≠ w.heap.size ∧ b ≠ w.heap.size + 1) (fun b hb => HP' b aj) AQ 1)
  go_enter Tryz.func120, Tryz.ntmps120
  go_wp2_with (first | ((with_reducible refine au rfl rfl ?_); rw [← hv0]; clear hv0) | (refine wpList_load_row rfl 46 _ rfl (w.heap.size) rfl _ (wc s) (0, 0) _ bT Tryz.underlying46 rfl ah ?_))
  refine HC.out.mono ?_
  rintro e w9 ⟨s9, rfl, A9, hb9⟩
  have T9 := T0.keep hb9
  go_wp2_with (first | (refine wpList_store_row rfl 46 _ _ rfl (w.heap.size + 1) (wc s9) rfl rfl _ _ eP ah ah ah ?_))
  have ZF := T9.bN s9
  refine bodyPost_ret (v := wv s9) ?_ rfl ⟨s9, rfl, ((A9.row (g := w.heap.size + 1) (fun q => q.2.2 rfl) _).mono (fun b _ q => q.1)), ZF.below⟩
  exact results_cell_row (p := 2) (ty := 46) Tryz.results120 _ _ (w.heap.size + 1) 46 _ (0, 0) _ rfl ZF.Z Tryz.underlying46 rfl ah
theorem fStart (c : Cfg) {P : Nat → Prop} {w : World} {s : Wk} {x : St} (hP : ∀ b, w.heap.size ≤ b → P b) (A : aM P w s x) (hf : c.Wf) (hx : Few 900 x) (ht : 0 ≤ x.p.t ∧ x.p.t < 18446744073709551616) :
  Calls Tryz.prog 93 #[cv c, wv s] w (FW P w (startS c x)) := by
 obtain ⟨k0, h_o0⟩ : ∃ k, x.p.o0 = k := ⟨_, rfl⟩
 obtain ⟨pb, h_pn⟩ : ∃ k, x.p.pn = k := ⟨_, rfl⟩
 obtain ⟨br0, h_br⟩ : ∃ k, x.p.br = k := ⟨_, rfl⟩
 obtain ⟨sl0, h_o3⟩ : ∃ k, x.p.o3 = k := ⟨_, rfl⟩
 obtain ⟨t0, h_t⟩ : ∃ k, x.p.t = k := ⟨_, rfl⟩
 have q1 : (wc s)[1]? = some (.int .i64 k0) := by rw [show (wc s)[1]? = some (.int .i64 s.p.o0) from rfl, A.p, h_o0]
 have q8 : (wc s)[8]? = some (.bool pb) := by rw [show (wc s)[8]? = some (.bool s.p.pn) from rfl, A.p, h_pn]
 have q22 : (wc s)[22]? = some (.int .i64 br0) := by rw [show (wc s)[22]? = some (.int .i64 s.p.br) from rfl, A.p, h_br]
 have q4 : (wc s)[4]? = some (.int .i64 sl0) := by rw [show (wc s)[4]? = some (.int .i64 s.p.o3) from rfl, A.p, h_o3]
 have q30 : (wc s)[30]? = some (.int .u64 t0) := by rw [show (wc s)[30]? = some (.int .u64 s.p.t) from rfl, A.p, h_t]
 rw [h_t] at ht
 unfold startS
 rw [h_o0, h_pn, h_br, h_o3, h_t]
 clear h_o0 h_pn h_br h_o3 h_t
 by_cases h1 : k0 = 1
 ·subst h1
  rw [if_pos rfl]
  have hbc : Below w.heap.size w (w.alloc (.cells (ccM c) 24)) := (Below.refl _ _).alloc (Nat.le_refl _) _
  have cO : (w.alloc (.cells (ccM c) 24)).heap.size = w.heap.size + 1 := aF
  have T0 := Two.aY hbc s
  rw [cO] at T0
  have AQ := (A.mono (Q := fun b => P b ∧ b ≠ w.heap.size + 1 ∧ b ≠ w.heap.size + 1 + 1) (fun b hb q => ⟨q, by omega, by omega⟩)).keep T0.below
  obtain ⟨v0, hv0⟩ : ∃ u, u = ((w.alloc (.cells (ccM c) 24)).alloc (.cells (wc s) 46)).alloc (.cells (wc wz) 46) := ⟨_, rfl⟩
  rw [← hv0] at T0 AQ
  have x0 := T0.X.cells
  have z0 := T0.X.frozen
  have HP' : ∀ b, w.heap.size + 1 + 1 + 1 ≤ b → (P b ∧ b ≠ w.heap.size + 1 ∧ b ≠ w.heap.size + 1 + 1) := fun b hb => ⟨hP b aj, by omega, by omega⟩
  have lt9 := T0.lt
  have HC := Lib.hid (fUnless (P := fun b => P b ∧ b ≠ w.heap.size + 1 ∧ b ≠ w.heap.size + 1 + 1) (fun b hb => HP' b aj) AQ pb 9 1)
  exact qae
 rw [if_neg h1]
 have t1 : (k0 == 1) = false := qa6c
 by_cases h2 : k0 = 2
 ·subst h2
  rw [if_pos rfl]
  have hbc : Below w.heap.size w (w.alloc (.cells (ccM c) 24)) := (Below.refl _ _).alloc (Nat.le_refl _) _
  have cO : (w.alloc (.cells (ccM c) 24)).heap.size = w.heap.size + 1 := aF
  have T0 := Two.aY hbc s
  rw [cO] at T0
  have AQ := (A.mono (Q := fun b => P b ∧ b ≠ w.heap.size + 1 ∧ b ≠ w.heap.size + 1 + 1) (fun b hb q => ⟨q, by omega, by omega⟩)).keep T0.below
  obtain ⟨v0, hv0⟩ : ∃ u, u = ((w.alloc (.cells (ccM c) 24)).alloc (.cells (wc s) 46)).alloc (.cells (wc wz) 46) := ⟨_, rfl⟩
  rw [← hv0] at T0 AQ
  have x0 := T0.X.cells
  have z0 := T0.X.frozen
  have HP' : ∀ b, w.heap.size + 1 + 1 + 1 ≤ b → (P b ∧ b ≠ w.heap.size + 1 ∧ b ≠ w.heap.size + 1 + 1) := fun b hb => ⟨hP b aj, by omega, by omega⟩
  have lt9 := T0.lt
  have HC := Lib.hid (fUnless (P := fun b => P b ∧ b ≠ w.heap.size + 1 ∧ b ≠ w.heap.size + 1 + 1) (fun b hb => HP' b aj) AQ (!pb) 9 90)
  exact qae
 rw [if_neg h2]
 have t2 : (k0 == 2) = false := by simp [h2]
 by_cases h7 : k0 = 7
 ·subst h7
  rw [if_pos rfl]
  cases pb with
  | false =>
   have hbc : Below w.heap.size w (w.alloc (.cells (ccM c) 24)) := (Below.refl _ _).alloc (Nat.le_refl _) _
   have cO : (w.alloc (.cells (ccM c) 24)).heap.size = w.heap.size + 1 := aF
   have T0 := Two.aY hbc s
   rw [cO] at T0
   have AQ := (A.mono (Q := fun b => P b ∧ b ≠ w.heap.size + 1 ∧ b ≠ w.heap.size + 1 + 1) (fun b hb q => ⟨q, by omega, by omega⟩)).keep T0.below
   obtain ⟨v0, hv0⟩ : ∃ u, u = ((w.alloc (.cells (ccM c) 24)).alloc (.cells (wc s) 46)).alloc (.cells (wc wz) 46) := ⟨_, rfl⟩
   rw [← hv0] at T0 AQ
   have x0 := T0.X.cells
   have z0 := T0.X.frozen
   have HP' : ∀ b, w.heap.size + 1 + 1 + 1 ≤ b → (P b ∧ b ≠ w.heap.size + 1 ∧ b ≠ w.heap.size + 1 + 1) := fun b hb => ⟨hP b aj, by omega, by omega⟩
   have lt9 := T0.lt
   have HC := Lib.hid (fUnless (P := fun b => P b ∧ b ≠ w.heap.size + 1 ∧ b ≠ w.heap.size + 1 + 1) (fun b hb => HP' b aj) AQ true 9 62)
   go_enter Tryz.func93, Tryz.ntmps93
   go_wp2_with (first | ((with_reducible refine au rfl rfl ?_); rw [← hv0]; clear hv0) | (refine wpList_load_row rfl 46 _ rfl (w.heap.size + 1) rfl _ (wc s) (0, 0) _ bT Tryz.underlying46 rfl ah ?_))
   refine HC.out.mono ?_
   rintro e w9 ⟨s9, rfl, A9, hb9⟩
   have T9 := T0.keep hb9
   go_wp2_with (first | (refine wpList_store_row rfl 46 _ _ rfl (w.heap.size + 1 + 1) (wc s9) rfl rfl _ _ eP ah ah ah ?_))
   have ZF := T9.bN s9
   refine bodyPost_ret (v := wv s9) ?_ rfl ⟨s9, rfl, ((A9.row (g := w.heap.size + 1 + 1) (fun q => q.2.2 rfl) _).mono (fun b _ q => q.1)), ZF.below⟩
   exact results_cell_row (p := 4) (ty := 46) Tryz.results93 _ _ (w.heap.size + 1 + 1) 46 _ (0, 0) _ rfl ZF.Z Tryz.underlying46 rfl ah
  | true =>
   have hbc : Below w.heap.size w (w.alloc (.cells (ccM c) 24)) := (Below.refl _ _).alloc (Nat.le_refl _) _
   have cO : (w.alloc (.cells (ccM c) 24)).heap.size = w.heap.size + 1 := aF
   have T0 := Two.aY hbc s
   rw [cO] at T0
   have AQ := (A.mono (Q := fun b => P b ∧ b ≠ w.heap.size + 1 ∧ b ≠ w.heap.size + 1 + 1) (fun b hb q => ⟨q, by omega, by omega⟩)).keep T0.below
   obtain ⟨v0, hv0⟩ : ∃ u, u = ((w.alloc (.cells (ccM c) 24)).alloc (.cells (wc s) 46)).alloc (.cells (wc wz) 46) := ⟨_, rfl⟩
   rw [← hv0] at T0 AQ
   have x0 := T0.X.cells
   have z0 := T0.X.frozen
   have HP' : ∀ b, w.heap.size + 1 + 1 + 1 ≤ b → (P b ∧ b ≠ w.heap.size + 1 ∧ b ≠ w.heap.size + 1 + 1) := fun b hb => ⟨hP b aj, by omega, by omega⟩
   have lt9 := T0.lt
   have HC := Lib.hid (fUnless (P := fun b => P b ∧ b ≠ w.heap.size + 1 ∧ b ≠ w.heap.size + 1 + 1) (fun b hb => HP' b aj) AQ (br0 == 0) 9 62)
   go_enter Tryz.func93, Tryz.ntmps93
   go_wp2_with (first | ((with_reducible refine au rfl rfl ?_); rw [← hv0]; clear hv0) | (refine wpList_load_row rfl 46 _ rfl (w.heap.size + 1) rfl _ (wc s) (0, 0) _ bT Tryz.underlying46 rfl ah ?_))
   refine HC.out.mono ?_
   rintro e w9 ⟨s9, rfl, A9, hb9⟩
   have T9 := T0.keep hb9
   go_wp2_with (first | (refine wpList_store_row rfl 46 _ _ rfl (w.heap.size + 1 + 1) (wc s9) rfl rfl _ _ eP ah ah ah ?_))
   have ZF := T9.bN s9
   refine bodyPost_ret (v := wv s9) ?_ rfl ⟨s9, rfl, ((A9.row (g := w.heap.size + 1 + 1) (fun q => q.2.2 rfl) _).mono (fun b _ q => q.1)), ZF.below⟩
   exact results_cell_row (p := 4) (ty := 46) Tryz.results93 _ _ (w.heap.size + 1 + 1) 46 _ (0, 0) _ rfl ZF.Z Tryz.underlying46 rfl ah
 rw [if_neg h7]
 have t7 : (k0 == 7) = false := by simp [h7]
 by_cases h8 : k0 = 8
 ·subst h8
  rw [if_pos rfl]
  have hbc : Below w.heap.size w (w.alloc (.cells (ccM c) 24)) := (Below.refl _ _).alloc (Nat.le_refl _) _
  have cO : (w.alloc (.cells (ccM c) 24)).heap.size = w.heap.size + 1 := aF
  have T0 := Two.aY hbc s
  rw [cO] at T0
  have AQ := (A.mono (Q := fun b => P b ∧ b ≠ w.heap.size + 1 ∧ b ≠ w.heap.size + 1 + 1) (fun b hb q => ⟨q, by omega, by omega⟩)).keep T0.below
  obtain ⟨v0, hv0⟩ : ∃ u, u = ((w.alloc (.cells (ccM c) 24)).alloc (.cells (wc s) 46)).alloc (.cells (wc wz) 46) := ⟨_, rfl⟩
  rw [← hv0] at T0 AQ
  have x0 := T0.X.cells
  have z0 := T0.X.frozen
  have HP' : ∀ b, w.heap.size + 1 + 1 + 1 ≤ b → (P b ∧ b ≠ w.heap.size + 1 ∧ b ≠ w.heap.size + 1 + 1) := fun b hb => ⟨hP b aj, by omega, by omega⟩
  have lt9 := T0.lt
  have HC := Lib.hid (fAt (P := fun b => P b ∧ b ≠ w.heap.size + 1 ∧ b ≠ w.heap.size + 1 + 1) (fun b hb => HP' b aj) AQ 70)
  exact qae
 rw [if_neg h8]
 have t8 : (k0 == 8) = false := by simp [h8]
 by_cases h9 : k0 = 9
 ·subst h9
  rw [if_pos rfl]
  by_cases hs : sl0 < 0
  have u1 : decide (sl0 < 0) = true := qa5v
  rw [u1]
  clear hs
  have hbc : Below w.heap.size w (w.alloc (.cells (ccM c) 24)) := (Below.refl _ _).alloc (Nat.le_refl _) _
  have cO : (w.alloc (.cells (ccM c) 24)).heap.size = w.heap.size + 1 := aF
  have T0 := Two.aY hbc s
  rw [cO] at T0
  have AQ := (A.mono (Q := fun b => P b ∧ b ≠ w.heap.size + 1 ∧ b ≠ w.heap.size + 1 + 1) (fun b hb q => ⟨q, by omega, by omega⟩)).keep T0.below
  obtain ⟨v0, hv0⟩ : ∃ u, u = ((w.alloc (.cells (ccM c) 24)).alloc (.cells (wc s) 46)).alloc (.cells (wc wz) 46) := ⟨_, rfl⟩
  rw [← hv0] at T0 AQ
  have x0 := T0.X.cells
  have z0 := T0.X.frozen
  have c1 : v0.cell? ⟨w.heap.size, 1, none⟩ = some (.int .i64 c.sl) := qa75
  have lc1 : w.heap.size < v0.heap.size := by have := T0.lt; omega
  have HP' : ∀ b, w.heap.size + 1 + 1 + 1 ≤ b → (P b ∧ b ≠ w.heap.size + 1 ∧ b ≠ w.heap.size + 1 + 1) := fun b hb => ⟨hP b aj, by omega, by omega⟩
  have lt9 := T0.lt
  have HC := Lib.hid (fUnless (P := fun b => P b ∧ b ≠ w.heap.size + 1 ∧ b ≠ w.heap.size + 1 + 1) (fun b hb => HP' b aj) AQ true 8 36)
  rotate_left
  have u1 : decide (sl0 < 0) = false := bq
  rw [u1]
  clear hs
  have hbc : Below w.heap.size w (w.alloc (.cells (ccM c) 24)) := (Below.refl _ _).alloc (Nat.le_refl _) _
  have cO : (w.alloc (.cells (ccM c) 24)).heap.size = w.heap.size + 1 := aF
  have T0 := Two.aY hbc s
  rw [cO] at T0
  have AQ := (A.mono (Q := fun b => P b ∧ b ≠ w.heap.size + 1 ∧ b ≠ w.heap.size + 1 + 1) (fun b hb q => ⟨q, by omega, by omega⟩)).keep T0.below
  obtain ⟨v0, hv0⟩ : ∃ u, u = ((w.alloc (.cells (ccM c) 24)).alloc (.cells (wc s) 46)).alloc (.cells (wc wz) 46) := ⟨_, rfl⟩
  rw [← hv0] at T0 AQ
  have x0 := T0.X.cells
  have z0 := T0.X.frozen
  have c1 : v0.cell? ⟨w.heap.size, 1, none⟩ = some (.int .i64 c.sl) := qa75
  have lc1 : w.heap.size < v0.heap.size := by have := T0.lt; omega
  have HP' : ∀ b, w.heap.size + 1 + 1 + 1 ≤ b → (P b ∧ b ≠ w.heap.size + 1 ∧ b ≠ w.heap.size + 1 + 1) := fun b hb => ⟨hP b aj, by omega, by omega⟩
  have lt9 := T0.lt
  have HC := Lib.hid (fUnless (P := fun b => P b ∧ b ≠ w.heap.size + 1 ∧ b ≠ w.heap.size + 1 + 1) (fun b hb => HP' b aj) AQ (decide (c.sl ≤ sl0)) 8 36)
  rotate_left
  all_goals
   go_enter Tryz.func93, Tryz.ntmps93
   go_wp2_with (first | ((with_reducible refine au rfl rfl ?_); rw [← hv0]; clear hv0) | (refine wpList_load_row rfl 46 _ rfl (w.heap.size + 1) rfl _ (wc s) (0, 0) _ bT Tryz.underlying46 rfl ah ?_))
   refine HC.out.mono ?_
   rintro e w9 ⟨s9, rfl, A9, hb9⟩
   have T9 := T0.keep hb9
   go_wp2_with (first | (refine wpList_store_row rfl 46 _ _ rfl (w.heap.size + 1 + 1) (wc s9) rfl rfl _ _ eP ah ah ah ?_))
   have ZF := T9.bN s9
   refine bodyPost_ret (v := wv s9) ?_ rfl ⟨s9, rfl, ((A9.row (g := w.heap.size + 1 + 1) (fun q => q.2.2 rfl) _).mono (fun b _ q => q.1)), ZF.below⟩
   exact results_cell_row (p := 4) (ty := 46) Tryz.results93 _ _ (w.heap.size + 1 + 1) 46 _ (0, 0) _ rfl ZF.Z Tryz.underlying46 rfl ah
 rw [if_neg h9]
 have t9 : (k0 == 9) = false := by simp [h9]
 by_cases hq : k0 = 4 ∨ k0 = 5 ∨ k0 = 6
 ·rw [if_pos hq]
  cases hgd : goodB c t0 with
  | true =>
   rw [if_pos rfl]
   clear t1 t2 t7 t8 t9 h1 h2 h7 h8 h9
   rcases hq with rfl | rfl | rfl
   ·exact qaf
   ·exact qaf
   ·exact qaf
  | false =>
   rw [if_neg aL]
   clear t1 t2 t7 t8 t9 h1 h2 h7 h8 h9
   rcases hq with rfl | rfl | rfl
   ·exact qag
   ·exact qag
   ·exact qag
 rw [if_neg hq]
 have t4 : (k0 == 4) = false := bq
 have t5 : (k0 == 5) = false := bq
 have t6 : (k0 == 6) = false := bq
 clear hq h1 h2 h7 h8 h9
 by_cases h3 : k0 = 3
 ·subst h3
  rw [if_pos rfl]
  have hbc : Below w.heap.size w (w.alloc (.cells (ccM c) 24)) := (Below.refl _ _).alloc (Nat.le_refl _) _
  have cO : (w.alloc (.cells (ccM c) 24)).heap.size = w.heap.size + 1 := aF
  have T0 := Two.aY hbc s
  rw [cO] at T0
  have AQ := (A.mono (Q := fun b => P b ∧ b ≠ w.heap.size + 1 ∧ b ≠ w.heap.size + 1 + 1) (fun b hb q => ⟨q, by omega, by omega⟩)).keep T0.below
  obtain ⟨v0, hv0⟩ : ∃ u, u = ((w.alloc (.cells (ccM c) 24)).alloc (.cells (wc s) 46)).alloc (.cells (wc wz) 46) := ⟨_, rfl⟩
  rw [← hv0] at T0 AQ
  have x0 := T0.X.cells
  have z0 := T0.X.frozen
  have HP' : ∀ b, w.heap.size + 1 + 1 + 1 ≤ b → (P b ∧ b ≠ w.heap.size + 1 ∧ b ≠ w.heap.size + 1 + 1) := fun b hb => ⟨hP b aj, by omega, by omega⟩
  have lt9 := T0.lt
  have HC := Lib.hid (fEnter (P := fun b => P b ∧ b ≠ w.heap.size + 1 ∧ b ≠ w.heap.size + 1 + 1) (fun b hb => HP' b aj) AQ hx)
  exact qae
 rw [if_neg h3]
 have t3 : (k0 == 3) = false := qa5w
 clear h3
 have hbc : Below w.heap.size w (w.alloc (.cells (ccM c) 24)) := (Below.refl _ _).alloc (Nat.le_refl _) _
 have cO : (w.alloc (.cells (ccM c) 24)).heap.size = w.heap.size + 1 := aF
 have T0 := Two.aY hbc s
 rw [cO] at T0
 have AQ := (A.mono (Q := fun b => P b ∧ b ≠ w.heap.size + 1 ∧ b ≠ w.heap.size + 1 + 1) (fun b hb q => ⟨q, by omega, by omega⟩)).keep T0.below
 obtain ⟨v0, hv0⟩ : ∃ u, u = ((w.alloc (.cells (ccM c) 24)).alloc (.cells (wc s) 46)).alloc (.cells (wc wz) 46) := ⟨_, rfl⟩
 rw [← hv0] at T0 AQ
 have x0 := T0.X.cells
 have z0 := T0.X.frozen
 have HP' : ∀ b, w.heap.size + 1 + 1 + 1 ≤ b → (P b ∧ b ≠ w.heap.size + 1 ∧ b ≠ w.heap.size + 1 + 1) := fun b hb => ⟨hP b aj, by omega, by omega⟩
 have lt9 := T0.lt
 have HC := Lib.hid (fEnd (P := fun b => P b ∧ b ≠ w.heap.size + 1 ∧ b ≠ w.heap.size + 1 + 1) (fun b hb => HP' b aj) AQ 3)
 go_enter Tryz.func93, Tryz.ntmps93
 go_wp2_with (first | ((with_reducible refine au rfl rfl ?_); rw [← hv0]; clear hv0) | (refine wpList_load_row rfl 46 _ rfl (w.heap.size + 1) rfl _ (wc s) (0, 0) _ bT Tryz.underlying46 rfl ah ?_))
 refine HC.out.mono ?_
 rintro e w9 ⟨s9, rfl, A9, hb9⟩
 have T9 := T0.keep hb9
 go_wp2_with (first | (refine wpList_store_row rfl 46 _ _ rfl (w.heap.size + 1 + 1) (wc s9) rfl rfl _ _ eP ah ah ah ?_))
 have ZF := T9.bN s9
 refine bodyPost_ret (v := wv s9) ?_ rfl ⟨s9, rfl, ((A9.row (g := w.heap.size + 1 + 1) (fun q => q.2.2 rfl) _).mono (fun b _ q => q.1)), ZF.below⟩
 exact results_cell_row (p := 4) (ty := 46) Tryz.results93 _ _ (w.heap.size + 1 + 1) 46 _ (0, 0) _ rfl ZF.Z Tryz.underlying46 rfl ah
end Go.Proofs.YtaiodbcnbcdokaaGreat.Me
namespace Go.Proofs.YtaiodbcnbcdokaaGreat.Me
open Go Go.RowKit Go.ChangeMaps Gro Own Wd Ap Go.Proofs.YtaiodbcnbcdokaaGreat.Pl Wo Mr
def je (x : St) (ok oa ob oc : Int) (od : Bool) (oe of tv : Int) : St := { x with p := { x.p with o0 := ok, o1 := oa, o2 := ob, o3 := oc, o4 := od, o5 := oe, o6 := of, t := if asksB ok = true then tv else 0, rt := 0, gv := false, b := 0, k := 0, i := 0, c := 0, j := 0 }, rd := [] }
def beginS (c : Cfg) (x : St) (ok oa ob oc : Int) (od : Bool) (oe of tv : Int) : St := startS c (je x ok oa ob oc od oe of tv)
end Go.Proofs.YtaiodbcnbcdokaaGreat.Me
namespace Go.Proofs.YtaiodbcnbcdokaaGreat.Me
open Go Go.RowKit Go.ChangeMaps Gro Own Wd Ap Go.Proofs.YtaiodbcnbcdokaaGreat.Pl Wo Mr
theorem fBegin (c : Cfg) (hf : c.Wf) {P : Nat → Prop} {w : World} {s : Wk} {x : St} (hP : ∀ b, w.heap.size ≤ b → P b) (A : aM P w s x) (hx : Few 900 x) (ok oa ob oc : Int) (od : Bool) (oe of tv : Int) (ht : 0 ≤ tv ∧ tv < 18446744073709551616) :
  Calls Tryz.prog 53 #[cv c, wv s, opV ok oa ob oc od oe of, .int .u64 tv] w (FW P w (beginS c x ok oa ob oc od oe of tv)) := by
 unfold beginS
 have f30 : ∀ s : Wk, (wc s)[30]? = some (.int .u64 s.p.t) := fun _ => rfl
 have f31 : ∀ s : Wk, (wc s)[31]? = some (.int .i64 s.p.rt) := fun _ => rfl
 have f32 : ∀ s : Wk, (wc s)[32]? = some (.bool s.p.gv) := fun _ => rfl
 have f18 : ∀ s : Wk, (wc s)[18]? = some (.int .i64 s.p.b) := fun _ => rfl
 have f19 : ∀ s : Wk, (wc s)[19]? = some (.int .i64 s.p.k) := fun _ => rfl
 have f20 : ∀ s : Wk, (wc s)[20]? = some (.int .i64 s.p.i) := fun _ => rfl
 have f21 : ∀ s : Wk, (wc s)[21]? = some (.int .i64 s.p.c) := fun _ => rfl
 have f28 : ∀ s : Wk, (wc s)[28]? = some (.int .i64 s.p.j) := fun _ => rfl
 have f0 : ∀ s : Wk, (wc s)[0]? = some (.int .i64 s.p.ln) := fun _ => rfl
 have f29 : ∀ s : Wk, (wc s)[29]? = some (.slice s.rd.ad s.rd.len s.rd.cap) := fun _ => rfl
 have h1 : (w.alloc (.cells (ccM c) 24)).heap.size = w.heap.size + 1 := aF
 have h2 : ((w.alloc (.cells (ccM c) 24)).alloc (.cells (wc s) 46)).heap.size = w.heap.size + 2 := aF
 have h3 : (((w.alloc (.cells (ccM c) 24)).alloc (.cells (wc s) 46)).alloc (.cells #[.int .i64 ok, .int .u64 oa, .int .u64 ob, .int .i64 oc, .bool od, .int .i64 oe, .int .i64 of] 30)).heap.size = w.heap.size + 3 := aF
 have X0 := Bk.new (w.alloc (.cells (ccM c) 24)) (wc s) 46
 rw [h1] at X0
 have Z0 := Bk.new (((w.alloc (.cells (ccM c) 24)).alloc (.cells (wc s) 46)).alloc (.cells #[.int .i64 ok, .int .u64 oa, .int .u64 ob, .int .i64 oc, .bool od, .int .i64 oe, .int .i64 of] 30)) (wc wz) 46
 rw [h3] at Z0
 have O00 := Bk.new ((w.alloc (.cells (ccM c) 24)).alloc (.cells (wc s) 46)) #[.int .i64 ok, .int .u64 oa, .int .u64 ob, .int .i64 oc, .bool od, .int .i64 oe, .int .i64 of] 30
 rw [h2] at O00
 have bl0 : Below w.heap.size w ((((w.alloc (.cells (ccM c) 24)).alloc (.cells (wc s) 46)).alloc (.cells #[.int .i64 ok, .int .u64 oa, .int .u64 ob, .int .i64 oc, .bool od, .int .i64 oe, .int .i64 of] 30)).alloc (.cells (wc wz) 46)) := ((((Below.refl _ _).alloc (Nat.le_refl _) _).alloc aj _).alloc aj _).alloc aj _
 have T0 : Two w (w.heap.size + 1) (w.heap.size + 3) s wz ((((w.alloc (.cells (ccM c) 24)).alloc (.cells (wc s) 46)).alloc (.cells #[.int .i64 ok, .int .u64 oa, .int .u64 ob, .int .i64 oc, .bool od, .int .i64 oe, .int .i64 of] 30)).alloc (.cells (wc wz) 46)) := ⟨(X0.alloc _).alloc _, Z0, bl0, by omega, by omega, by omega⟩
 have C0 : Bk ((((w.alloc (.cells (ccM c) 24)).alloc (.cells (wc s) 46)).alloc (.cells #[.int .i64 ok, .int .u64 oa, .int .u64 ob, .int .i64 oc, .bool od, .int .i64 oe, .int .i64 of] 30)).alloc (.cells (wc wz) 46)) w.heap.size (ccM c) 24 := (((Bk.new w (ccM c) 24).alloc _).alloc _).alloc _
 have O0 : Bk ((((w.alloc (.cells (ccM c) 24)).alloc (.cells (wc s) 46)).alloc (.cells #[.int .i64 ok, .int .u64 oa, .int .u64 ob, .int .i64 oc, .bool od, .int .i64 oe, .int .i64 of] 30)).alloc (.cells (wc wz) 46)) (w.heap.size + 2) #[.int .i64 ok, .int .u64 oa, .int .u64 ob, .int .i64 oc, .bool od, .int .i64 oe, .int .i64 of] 30 := O00.alloc _
 have AQ := (A.mono (Q := (fun b => P b ∧ b ≠ w.heap.size + 1 ∧ b ≠ w.heap.size + 3)) (fun b hb q => ⟨q, by omega, by omega⟩)).keep T0.below
 obtain ⟨v0, hv0⟩ : ∃ u, u = ((((w.alloc (.cells (ccM c) 24)).alloc (.cells (wc s) 46)).alloc (.cells #[.int .i64 ok, .int .u64 oa, .int .u64 ob, .int .i64 oc, .bool od, .int .i64 oe, .int .i64 of] 30)).alloc (.cells (wc wz) 46)) := ⟨_, rfl⟩
 rw [← hv0] at T0 C0 O0 AQ
 have l0 := T0.lt
 have l00 := T0.below.size
 clear X0 Z0 O00 bl0 h1 h2 h3
 go_enter Tryz.func53, Tryz.ntmps53
 go_wp2_with (first | ((with_reducible refine au rfl rfl ?_); rw [← hv0]; clear hv0) | (refine wpList_load_row rfl 46 _ rfl (w.heap.size + 1) rfl _ (wc s) (0, 0) _ bT Tryz.underlying46 rfl ah ?_))
 refine (aW s x (hx.mono aj) _ AQ.lies).mono ?_
 rintro e w1 ⟨s1, rfl, A1, hb1⟩
 have T1 := T0.keep hb1
 have hs1 := hb1.size
 have T2 := T1.bO s1
 have C2 := (C0.keep hb1).aJ (g' := w.heap.size + 1) aj (wc s1)
 have O2 := (O0.keep hb1).aJ (g' := w.heap.size + 1) aj (wc s1)
 have A2 := (aM.of (P := (fun b => P b ∧ b ≠ w.heap.size + 1 ∧ b ≠ w.heap.size + 3)) A1.dL (fun b _ q => ⟨hP b aj, by omega, by omega⟩)).row (g := w.heap.size + 1) (fun q => q.2.1 rfl) (wc s1)
 obtain ⟨v2, hw2⟩ : ∃ u, u = w1.setRow (w.heap.size + 1) (wc s1) := ⟨_, rfl⟩
 have hs2 : v2.heap.size = w1.heap.size := by rw [hw2]; simp
 rw [← hw2] at T2 A2 C2 O2
 have l2 := T2.lt
 clear A1 T0 C0 O0 AQ
 have T3 := T2.bO ({ s1 with p := { s1.p with o0 := ok, o1 := oa, o2 := ob, o3 := oc, o4 := od, o5 := oe, o6 := of } } : Wk)
 have A3 := A2.row (g := w.heap.size + 1) (fun q => q.2.1 rfl) (wc ({ s1 with p := { s1.p with o0 := ok, o1 := oa, o2 := ob, o3 := oc, o4 := od, o5 := oe, o6 := of } } : Wk))
 have C3 := C2.aJ (g' := w.heap.size + 1) aj (wc ({ s1 with p := { s1.p with o0 := ok, o1 := oa, o2 := ob, o3 := oc, o4 := od, o5 := oe, o6 := of } } : Wk))
 have O3 := O2.aJ (g' := w.heap.size + 1) aj (wc ({ s1 with p := { s1.p with o0 := ok, o1 := oa, o2 := ob, o3 := oc, o4 := od, o5 := oe, o6 := of } } : Wk))
 obtain ⟨v3, hv3⟩ : ∃ u, u = v2.setRow (w.heap.size + 1) (wc ({ s1 with p := { s1.p with o0 := ok, o1 := oa, o2 := ob, o3 := oc, o4 := od, o5 := oe, o6 := of } } : Wk)) := ⟨_, rfl⟩
 have hs3 : v3.heap.size = v2.heap.size := by rw [hv3]; simp
 rw [← hv3] at T3 A3 C3 O3
 have TX := T2.X
 have x3 := T3.X.cells
 have z3 := T3.X.frozen
 have e100 : (v3.cell? ⟨w.heap.size + 1, 30, none⟩).isSome = true := by rw [x3, f30]; rfl
 have T4 := T3.bZ 30 (.int .u64 0) ({ s1 with p := { s1.p with o0 := ok, o1 := oa, o2 := ob, o3 := oc, o4 := od, o5 := oe, o6 := of, t := 0 } } : Wk) rfl
 have A4 := A3.cell (g := w.heap.size + 1) (fun q => q.2.1 rfl) 30 (.int .u64 0)
 have C4 := C3.aA (a := ⟨w.heap.size + 1, 30, none⟩) aF (.int .u64 0)
 have O4 := O3.aA (a := ⟨w.heap.size + 1, 30, none⟩) aF (.int .u64 0)
 have HAS := Lib.hid (operAsks ok oa ob oc od oe of (v3.setCell ⟨w.heap.size + 1, 30, none⟩ (.int .u64 0)))
 go_wp2_with (first | (refine wpList_store_row rfl 46 _ _ rfl (w.heap.size + 1) (wc s1) rfl rfl _ _ dG ah ah ah ?_; rw [← hw2]; clear hw2 T1) | ((refine Sub.bQ rfl 30 _ _ rfl (w.heap.size + 1) 1 #[.int .i64 ok, .int .u64 oa, .int .u64 ob, .int .i64 oc, .bool od, .int .i64 oe, .int .i64 of] rfl rfl 46 (wc s1) (wc ({ s1 with p := { s1.p with o0 := ok, o1 := oa, o2 := ob, o3 := oc, o4 := od, o5 := oe, o6 := of } } : Wk)) (by exact TX) ah (Nat.le_of_ble_eq_true ah) ah ah ?_); rw [← hv3]; clear hv3 TX) | (refine wpList_load_row rfl 30 _ rfl (w.heap.size + 2) rfl _ #[.int .i64 ok, .int .u64 oa, .int .u64 ob, .int .i64 oc, .bool od, .int .i64 oe, .int .i64 of] (0, 0) _ (by exact O2) Tryz.underlying30 rfl ah ?_) | (refine wpList_load_row rfl 30 _ rfl (w.heap.size + 2) rfl _ #[.int .i64 ok, .int .u64 oa, .int .u64 ob, .int .i64 oc, .bool od, .int .i64 oe, .int .i64 of] (0, 0) _ (by exact O3) Tryz.underlying30 rfl ah ?_) | (refine wpList_load_row rfl 30 _ rfl (w.heap.size + 2) rfl _ #[.int .i64 ok, .int .u64 oa, .int .u64 ob, .int .i64 oc, .bool od, .int .i64 oe, .int .i64 of] (0, 0) _ (by exact O4) Tryz.underlying30 rfl ah ?_))
 refine HAS.out.mono ?_
 rintro en v5 ⟨rfl, hb5⟩
 have T5 := T4.keep hb5
 have A5 := A4.keep hb5
 have C5 := C4.keep hb5
 have O5 := O4.keep hb5
 have l5 := T5.lt
 have hs5 := hb5.size
 have x5 := T5.X.cells
 have z5 := T5.X.frozen
 clear e100 x3 z3 HAS T4 A4 C4 O4 hb5
 cases hk : asksB ok with
 | true =>
  have e200 : ((v5).cell? ⟨w.heap.size + 1, 30, none⟩).isSome = true := by rw [T5.X.cells, f30]; rfl
  have T20 := T5.bZ 30 (.int .u64 tv) ({ s1 with p := { s1.p with o0 := ok, o1 := oa, o2 := ob, o3 := oc, o4 := od, o5 := oe, o6 := of, t := tv } } : Wk) rfl
  have A20 := A5.cell (g := w.heap.size + 1) (fun q => q.2.1 rfl) 30 (.int .u64 tv)
  have C20 := C5.aA (a := ⟨w.heap.size + 1, 30, none⟩) aF (.int .u64 tv)
  have O20 := O5.aA (a := ⟨w.heap.size + 1, 30, none⟩) aF (.int .u64 tv)
  clear T5 A5 C5 O5
  have e201 : (((v5).setCell ⟨w.heap.size + 1, 30, none⟩ (.int .u64 tv)).cell? ⟨w.heap.size + 1, 29, none⟩).isSome = true := by rw [T20.X.cells, f29]; rfl
  have T21 := T20.bZ 29 (.slice none 0 0) ({ s1 with p := { s1.p with o0 := ok, o1 := oa, o2 := ob, o3 := oc, o4 := od, o5 := oe, o6 := of, t := tv }, rd := aG } : Wk) rfl
  have A21 := A20.cell (g := w.heap.size + 1) (fun q => q.2.1 rfl) 29 (.slice none 0 0)
  have C21 := C20.aA (a := ⟨w.heap.size + 1, 29, none⟩) aF (.slice none 0 0)
  have O21 := O20.aA (a := ⟨w.heap.size + 1, 29, none⟩) aF (.slice none 0 0)
  clear T20 A20 C20 O20
  have e202 : ((((v5).setCell ⟨w.heap.size + 1, 30, none⟩ (.int .u64 tv)).setCell ⟨w.heap.size + 1, 29, none⟩ (.slice none 0 0)).cell? ⟨w.heap.size + 1, 31, none⟩).isSome = true := by rw [T21.X.cells, f31]; rfl
  have T22 := T21.bZ 31 (.int .i64 0) ({ s1 with p := { s1.p with o0 := ok, o1 := oa, o2 := ob, o3 := oc, o4 := od, o5 := oe, o6 := of, t := tv, rt := 0 }, rd := aG } : Wk) rfl
  have A22 := A21.cell (g := w.heap.size + 1) (fun q => q.2.1 rfl) 31 (.int .i64 0)
  have C22 := C21.aA (a := ⟨w.heap.size + 1, 31, none⟩) aF (.int .i64 0)
  have O22 := O21.aA (a := ⟨w.heap.size + 1, 31, none⟩) aF (.int .i64 0)
  clear T21 A21 C21 O21
  have e203 : (((((v5).setCell ⟨w.heap.size + 1, 30, none⟩ (.int .u64 tv)).setCell ⟨w.heap.size + 1, 29, none⟩ (.slice none 0 0)).setCell ⟨w.heap.size + 1, 31, none⟩ (.int .i64 0)).cell? ⟨w.heap.size + 1, 32, none⟩).isSome = true := by rw [T22.X.cells, f32]; rfl
  have T23 := T22.bZ 32 (.bool false) ({ s1 with p := { s1.p with o0 := ok, o1 := oa, o2 := ob, o3 := oc, o4 := od, o5 := oe, o6 := of, t := tv, rt := 0, gv := false }, rd := aG } : Wk) rfl
  have A23 := A22.cell (g := w.heap.size + 1) (fun q => q.2.1 rfl) 32 (.bool false)
  have C23 := C22.aA (a := ⟨w.heap.size + 1, 32, none⟩) aF (.bool false)
  have O23 := O22.aA (a := ⟨w.heap.size + 1, 32, none⟩) aF (.bool false)
  clear T22 A22 C22 O22
  obtain ⟨v6, hv6⟩ : ∃ u, u = ((((v5).setCell ⟨w.heap.size + 1, 30, none⟩ (.int .u64 tv)).setCell ⟨w.heap.size + 1, 29, none⟩ (.slice none 0 0)).setCell ⟨w.heap.size + 1, 31, none⟩ (.int .i64 0)).setCell ⟨w.heap.size + 1, 32, none⟩ (.bool false) := ⟨_, rfl⟩
  rw [← hv6] at T23 A23 C23 O23
  go_upto_region 9 with fail
  rw [← hv6]
  clear hv6 e200 e201 e202 e203 x5 z5
  have xs1 := T23.X.cells
  have zs1 := T23.X.frozen
  have e204 : ((v6).cell? ⟨w.heap.size + 1, 18, none⟩).isSome = true := by rw [T23.X.cells, f18]; rfl
  have T24 := T23.bZ 18 (.int .i64 0) ({ s1 with p := { s1.p with o0 := ok, o1 := oa, o2 := ob, o3 := oc, o4 := od, o5 := oe, o6 := of, t := tv, rt := 0, gv := false, b := 0 }, rd := aG } : Wk) rfl
  have A24 := A23.cell (g := w.heap.size + 1) (fun q => q.2.1 rfl) 18 (.int .i64 0)
  have C24 := C23.aA (a := ⟨w.heap.size + 1, 18, none⟩) aF (.int .i64 0)
  have O24 := O23.aA (a := ⟨w.heap.size + 1, 18, none⟩) aF (.int .i64 0)
  clear T23 A23 C23 O23
  have e205 : (((v6).setCell ⟨w.heap.size + 1, 18, none⟩ (.int .i64 0)).cell? ⟨w.heap.size + 1, 19, none⟩).isSome = true := by rw [T24.X.cells, f19]; rfl
  have T25 := T24.bZ 19 (.int .i64 0) ({ s1 with p := { s1.p with o0 := ok, o1 := oa, o2 := ob, o3 := oc, o4 := od, o5 := oe, o6 := of, t := tv, rt := 0, gv := false, b := 0, k := 0 }, rd := aG } : Wk) rfl
  have A25 := A24.cell (g := w.heap.size + 1) (fun q => q.2.1 rfl) 19 (.int .i64 0)
  have C25 := C24.aA (a := ⟨w.heap.size + 1, 19, none⟩) aF (.int .i64 0)
  have O25 := O24.aA (a := ⟨w.heap.size + 1, 19, none⟩) aF (.int .i64 0)
  clear T24 A24 C24 O24
  have e206 : ((((v6).setCell ⟨w.heap.size + 1, 18, none⟩ (.int .i64 0)).setCell ⟨w.heap.size + 1, 19, none⟩ (.int .i64 0)).cell? ⟨w.heap.size + 1, 20, none⟩).isSome = true := by rw [T25.X.cells, f20]; rfl
  have T26 := T25.bZ 20 (.int .i64 0) ({ s1 with p := { s1.p with o0 := ok, o1 := oa, o2 := ob, o3 := oc, o4 := od, o5 := oe, o6 := of, t := tv, rt := 0, gv := false, b := 0, k := 0, i := 0 }, rd := aG } : Wk) rfl
  have A26 := A25.cell (g := w.heap.size + 1) (fun q => q.2.1 rfl) 20 (.int .i64 0)
  have C26 := C25.aA (a := ⟨w.heap.size + 1, 20, none⟩) aF (.int .i64 0)
  have O26 := O25.aA (a := ⟨w.heap.size + 1, 20, none⟩) aF (.int .i64 0)
  clear T25 A25 C25 O25
  have e207 : (((((v6).setCell ⟨w.heap.size + 1, 18, none⟩ (.int .i64 0)).setCell ⟨w.heap.size + 1, 19, none⟩ (.int .i64 0)).setCell ⟨w.heap.size + 1, 20, none⟩ (.int .i64 0)).cell? ⟨w.heap.size + 1, 21, none⟩).isSome = true := by rw [T26.X.cells, f21]; rfl
  have T27 := T26.bZ 21 (.int .i64 0) ({ s1 with p := { s1.p with o0 := ok, o1 := oa, o2 := ob, o3 := oc, o4 := od, o5 := oe, o6 := of, t := tv, rt := 0, gv := false, b := 0, k := 0, i := 0, c := 0 }, rd := aG } : Wk) rfl
  have A27 := A26.cell (g := w.heap.size + 1) (fun q => q.2.1 rfl) 21 (.int .i64 0)
  have C27 := C26.aA (a := ⟨w.heap.size + 1, 21, none⟩) aF (.int .i64 0)
  have O27 := O26.aA (a := ⟨w.heap.size + 1, 21, none⟩) aF (.int .i64 0)
  clear T26 A26 C26 O26
  have e208 : ((((((v6).setCell ⟨w.heap.size + 1, 18, none⟩ (.int .i64 0)).setCell ⟨w.heap.size + 1, 19, none⟩ (.int .i64 0)).setCell ⟨w.heap.size + 1, 20, none⟩ (.int .i64 0)).setCell ⟨w.heap.size + 1, 21, none⟩ (.int .i64 0)).cell? ⟨w.heap.size + 1, 28, none⟩).isSome = true := by rw [T27.X.cells, f28]; rfl
  have T28 := T27.bZ 28 (.int .i64 0) ({ s1 with p := { s1.p with o0 := ok, o1 := oa, o2 := ob, o3 := oc, o4 := od, o5 := oe, o6 := of, t := tv, rt := 0, gv := false, b := 0, k := 0, i := 0, c := 0, j := 0 }, rd := aG } : Wk) rfl
  have A28 := A27.cell (g := w.heap.size + 1) (fun q => q.2.1 rfl) 28 (.int .i64 0)
  have C28 := C27.aA (a := ⟨w.heap.size + 1, 28, none⟩) aF (.int .i64 0)
  have O28 := O27.aA (a := ⟨w.heap.size + 1, 28, none⟩) aF (.int .i64 0)
  clear T27 A27 C27 O27
  obtain ⟨v7, hv7⟩ : ∃ u, u = (((((v6).setCell ⟨w.heap.size + 1, 18, none⟩ (.int .i64 0)).setCell ⟨w.heap.size + 1, 19, none⟩ (.int .i64 0)).setCell ⟨w.heap.size + 1, 20, none⟩ (.int .i64 0)).setCell ⟨w.heap.size + 1, 21, none⟩ (.int .i64 0)).setCell ⟨w.heap.size + 1, 28, none⟩ (.int .i64 0) := ⟨_, rfl⟩
  rw [← hv7] at T28 A28 C28 O28
  go_upto_region 10 with fail
  rw [← hv7]
  clear hv7 e204 e205 e206 e207 e208 xs1 zs1
  have TF := T28
  have CF := C28
  have OF := O28
  have lF := TF.lt
  have lFF := TF.below.size
  have AF : aM (fun b => P b ∧ b ≠ w.heap.size + 1 ∧ b ≠ w.heap.size + 3) v7 ({ s1 with p := { s1.p with o0 := ok, o1 := oa, o2 := ob, o3 := oc, o4 := od, o5 := oe, o6 := of, t := tv, rt := 0, gv := false, b := 0, k := 0, i := 0, c := 0, j := 0 }, rd := aG } : Wk) (je x ok oa ob oc od oe of tv) := ⟨by unfold je; rw [hk, A28.p]; rfl, A28.rk, A28.l0, A28.l1, A28.l2, A28.hl, ⟨Reads.nil _ _, .inl rfl⟩⟩
  have hxF : Few 900 (je x ok oa ob oc od oe of tv) := ⟨hx.rk, hx.l0, hx.l1, hx.l2, hx.hl, Nat.zero_le _⟩
  clear T28 A28 C28 O28
  have hT : (je x ok oa ob oc od oe of tv).p.t = tv := by unfold je; rw [hk]; rfl
  have HC := Lib.hid (fStart (P := fun b => P b ∧ b ≠ w.heap.size + 1 ∧ b ≠ w.heap.size + 3) c (fun b hb => ⟨hP b aj, by omega, by omega⟩) AF hf hxF (by rw [hT]; exact ht))
  clear AF hT hk
  go_wp2_with (first | (refine wpList_load_row rfl 24 _ rfl w.heap.size rfl _ (ccM c) (0, 0) _ (by exact CF) Tryz.underlying24 rfl ah ?_) | (refine wpList_load_row rfl 46 _ rfl (w.heap.size + 1) rfl _ (wc ({ s1 with p := { s1.p with o0 := ok, o1 := oa, o2 := ob, o3 := oc, o4 := od, o5 := oe, o6 := of, t := tv, rt := 0, gv := false, b := 0, k := 0, i := 0, c := 0, j := 0 }, rd := aG } : Wk)) (0, 0) _ (by exact TF.X) Tryz.underlying46 rfl ah ?_))
  refine HC.out.mono ?_
  rintro e w9 ⟨s9, rfl, A9, hb9⟩
  have T9 := TF.keep hb9
  clear CF OF
  go_wp2_with (first | (refine wpList_store_row rfl 46 _ _ rfl (w.heap.size + 3) (wc s9) rfl rfl _ _ eP ah ah ah ?_))
  have ZF := T9.bN s9
  refine bodyPost_ret (v := wv s9) ?_ rfl ⟨s9, rfl, ((A9.row (g := w.heap.size + 3) (fun q => q.2.2 rfl) _).mono (fun b _ q => q.1)), ZF.below⟩
  exact results_cell_row (p := 8) (ty := 46) Tryz.results53 _ _ (w.heap.size + 3) 46 _ (0, 0) _ rfl ZF.Z Tryz.underlying46 rfl ah
 | false =>
  have e200 : ((v5).cell? ⟨w.heap.size + 1, 29, none⟩).isSome = true := by rw [T5.X.cells, f29]; rfl
  have T20 := T5.bZ 29 (.slice none 0 0) ({ s1 with p := { s1.p with o0 := ok, o1 := oa, o2 := ob, o3 := oc, o4 := od, o5 := oe, o6 := of, t := 0 }, rd := aG } : Wk) rfl
  have A20 := A5.cell (g := w.heap.size + 1) (fun q => q.2.1 rfl) 29 (.slice none 0 0)
  have C20 := C5.aA (a := ⟨w.heap.size + 1, 29, none⟩) aF (.slice none 0 0)
  have O20 := O5.aA (a := ⟨w.heap.size + 1, 29, none⟩) aF (.slice none 0 0)
  clear T5 A5 C5 O5
  have e201 : (((v5).setCell ⟨w.heap.size + 1, 29, none⟩ (.slice none 0 0)).cell? ⟨w.heap.size + 1, 31, none⟩).isSome = true := by rw [T20.X.cells, f31]; rfl
  have T21 := T20.bZ 31 (.int .i64 0) ({ s1 with p := { s1.p with o0 := ok, o1 := oa, o2 := ob, o3 := oc, o4 := od, o5 := oe, o6 := of, t := 0, rt := 0 }, rd := aG } : Wk) rfl
  have A21 := A20.cell (g := w.heap.size + 1) (fun q => q.2.1 rfl) 31 (.int .i64 0)
  have C21 := C20.aA (a := ⟨w.heap.size + 1, 31, none⟩) aF (.int .i64 0)
  have O21 := O20.aA (a := ⟨w.heap.size + 1, 31, none⟩) aF (.int .i64 0)
  clear T20 A20 C20 O20
  have e202 : ((((v5).setCell ⟨w.heap.size + 1, 29, none⟩ (.slice none 0 0)).setCell ⟨w.heap.size + 1, 31, none⟩ (.int .i64 0)).cell? ⟨w.heap.size + 1, 32, none⟩).isSome = true := by rw [T21.X.cells, f32]; rfl
  have T22 := T21.bZ 32 (.bool false) ({ s1 with p := { s1.p with o0 := ok, o1 := oa, o2 := ob, o3 := oc, o4 := od, o5 := oe, o6 := of, t := 0, rt := 0, gv := false }, rd := aG } : Wk) rfl
  have A22 := A21.cell (g := w.heap.size + 1) (fun q => q.2.1 rfl) 32 (.bool false)
  have C22 := C21.aA (a := ⟨w.heap.size + 1, 32, none⟩) aF (.bool false)
  have O22 := O21.aA (a := ⟨w.heap.size + 1, 32, none⟩) aF (.bool false)
  clear T21 A21 C21 O21
  obtain ⟨v6, hv6⟩ : ∃ u, u = (((v5).setCell ⟨w.heap.size + 1, 29, none⟩ (.slice none 0 0)).setCell ⟨w.heap.size + 1, 31, none⟩ (.int .i64 0)).setCell ⟨w.heap.size + 1, 32, none⟩ (.bool false) := ⟨_, rfl⟩
  rw [← hv6] at T22 A22 C22 O22
  go_upto_region 9 with fail
  rw [← hv6]
  clear hv6 e200 e201 e202 x5 z5
  have xs1 := T22.X.cells
  have zs1 := T22.X.frozen
  have e203 : ((v6).cell? ⟨w.heap.size + 1, 18, none⟩).isSome = true := by rw [T22.X.cells, f18]; rfl
  have T23 := T22.bZ 18 (.int .i64 0) ({ s1 with p := { s1.p with o0 := ok, o1 := oa, o2 := ob, o3 := oc, o4 := od, o5 := oe, o6 := of, t := 0, rt := 0, gv := false, b := 0 }, rd := aG } : Wk) rfl
  have A23 := A22.cell (g := w.heap.size + 1) (fun q => q.2.1 rfl) 18 (.int .i64 0)
  have C23 := C22.aA (a := ⟨w.heap.size + 1, 18, none⟩) aF (.int .i64 0)
  have O23 := O22.aA (a := ⟨w.heap.size + 1, 18, none⟩) aF (.int .i64 0)
  clear T22 A22 C22 O22
  have e204 : (((v6).setCell ⟨w.heap.size + 1, 18, none⟩ (.int .i64 0)).cell? ⟨w.heap.size + 1, 19, none⟩).isSome = true := by rw [T23.X.cells, f19]; rfl
  have T24 := T23.bZ 19 (.int .i64 0) ({ s1 with p := { s1.p with o0 := ok, o1 := oa, o2 := ob, o3 := oc, o4 := od, o5 := oe, o6 := of, t := 0, rt := 0, gv := false, b := 0, k := 0 }, rd := aG } : Wk) rfl
  have A24 := A23.cell (g := w.heap.size + 1) (fun q => q.2.1 rfl) 19 (.int .i64 0)
  have C24 := C23.aA (a := ⟨w.heap.size + 1, 19, none⟩) aF (.int .i64 0)
  have O24 := O23.aA (a := ⟨w.heap.size + 1, 19, none⟩) aF (.int .i64 0)
  clear T23 A23 C23 O23
  have e205 : ((((v6).setCell ⟨w.heap.size + 1, 18, none⟩ (.int .i64 0)).setCell ⟨w.heap.size + 1, 19, none⟩ (.int .i64 0)).cell? ⟨w.heap.size + 1, 20, none⟩).isSome = true := by rw [T24.X.cells, f20]; rfl
  have T25 := T24.bZ 20 (.int .i64 0) ({ s1 with p := { s1.p with o0 := ok, o1 := oa, o2 := ob, o3 := oc, o4 := od, o5 := oe, o6 := of, t := 0, rt := 0, gv := false, b := 0, k := 0, i := 0 }, rd := aG } : Wk) rfl
  have A25 := A24.cell (g := w.heap.size + 1) (fun q => q.2.1 rfl) 20 (.int .i64 0)
  have C25 := C24.aA (a := ⟨w.heap.size + 1, 20, none⟩) aF (.int .i64 0)
  have O25 := O24.aA (a := ⟨w.heap.size + 1, 20, none⟩) aF (.int .i64 0)
  clear T24 A24 C24 O24
  have e206 : (((((v6).setCell ⟨w.heap.size + 1, 18, none⟩ (.int .i64 0)).setCell ⟨w.heap.size + 1, 19, none⟩ (.int .i64 0)).setCell ⟨w.heap.size + 1, 20, none⟩ (.int .i64 0)).cell? ⟨w.heap.size + 1, 21, none⟩).isSome = true := by rw [T25.X.cells, f21]; rfl
  have T26 := T25.bZ 21 (.int .i64 0) ({ s1 with p := { s1.p with o0 := ok, o1 := oa, o2 := ob, o3 := oc, o4 := od, o5 := oe, o6 := of, t := 0, rt := 0, gv := false, b := 0, k := 0, i := 0, c := 0 }, rd := aG } : Wk) rfl
  have A26 := A25.cell (g := w.heap.size + 1) (fun q => q.2.1 rfl) 21 (.int .i64 0)
  have C26 := C25.aA (a := ⟨w.heap.size + 1, 21, none⟩) aF (.int .i64 0)
  have O26 := O25.aA (a := ⟨w.heap.size + 1, 21, none⟩) aF (.int .i64 0)
  clear T25 A25 C25 O25
  have e207 : ((((((v6).setCell ⟨w.heap.size + 1, 18, none⟩ (.int .i64 0)).setCell ⟨w.heap.size + 1, 19, none⟩ (.int .i64 0)).setCell ⟨w.heap.size + 1, 20, none⟩ (.int .i64 0)).setCell ⟨w.heap.size + 1, 21, none⟩ (.int .i64 0)).cell? ⟨w.heap.size + 1, 28, none⟩).isSome = true := by rw [T26.X.cells, f28]; rfl
  have T27 := T26.bZ 28 (.int .i64 0) ({ s1 with p := { s1.p with o0 := ok, o1 := oa, o2 := ob, o3 := oc, o4 := od, o5 := oe, o6 := of, t := 0, rt := 0, gv := false, b := 0, k := 0, i := 0, c := 0, j := 0 }, rd := aG } : Wk) rfl
  have A27 := A26.cell (g := w.heap.size + 1) (fun q => q.2.1 rfl) 28 (.int .i64 0)
  have C27 := C26.aA (a := ⟨w.heap.size + 1, 28, none⟩) aF (.int .i64 0)
  have O27 := O26.aA (a := ⟨w.heap.size + 1, 28, none⟩) aF (.int .i64 0)
  clear T26 A26 C26 O26
  obtain ⟨v7, hv7⟩ : ∃ u, u = (((((v6).setCell ⟨w.heap.size + 1, 18, none⟩ (.int .i64 0)).setCell ⟨w.heap.size + 1, 19, none⟩ (.int .i64 0)).setCell ⟨w.heap.size + 1, 20, none⟩ (.int .i64 0)).setCell ⟨w.heap.size + 1, 21, none⟩ (.int .i64 0)).setCell ⟨w.heap.size + 1, 28, none⟩ (.int .i64 0) := ⟨_, rfl⟩
  rw [← hv7] at T27 A27 C27 O27
  go_upto_region 10 with fail
  rw [← hv7]
  clear hv7 e203 e204 e205 e206 e207 xs1 zs1
  have TF := T27
  have CF := C27
  have OF := O27
  have lF := TF.lt
  have lFF := TF.below.size
  have AF : aM (fun b => P b ∧ b ≠ w.heap.size + 1 ∧ b ≠ w.heap.size + 3) v7 ({ s1 with p := { s1.p with o0 := ok, o1 := oa, o2 := ob, o3 := oc, o4 := od, o5 := oe, o6 := of, t := 0, rt := 0, gv := false, b := 0, k := 0, i := 0, c := 0, j := 0 }, rd := aG } : Wk) (je x ok oa ob oc od oe of tv) := ⟨by unfold je; rw [hk, A27.p]; rfl, A27.rk, A27.l0, A27.l1, A27.l2, A27.hl, ⟨Reads.nil _ _, .inl rfl⟩⟩
  have hxF : Few 900 (je x ok oa ob oc od oe of tv) := ⟨hx.rk, hx.l0, hx.l1, hx.l2, hx.hl, Nat.zero_le _⟩
  clear T27 A27 C27 O27
  have hT : (je x ok oa ob oc od oe of tv).p.t = 0 := by unfold je; rw [hk]; rfl
  have HC := Lib.hid (fStart (P := fun b => P b ∧ b ≠ w.heap.size + 1 ∧ b ≠ w.heap.size + 3) c (fun b hb => ⟨hP b aj, by omega, by omega⟩) AF hf hxF (by rw [hT]; decide))
  clear AF hT hk
  go_wp2_with (first | (refine wpList_load_row rfl 24 _ rfl w.heap.size rfl _ (ccM c) (0, 0) _ (by exact CF) Tryz.underlying24 rfl ah ?_) | (refine wpList_load_row rfl 46 _ rfl (w.heap.size + 1) rfl _ (wc ({ s1 with p := { s1.p with o0 := ok, o1 := oa, o2 := ob, o3 := oc, o4 := od, o5 := oe, o6 := of, t := 0, rt := 0, gv := false, b := 0, k := 0, i := 0, c := 0, j := 0 }, rd := aG } : Wk)) (0, 0) _ (by exact TF.X) Tryz.underlying46 rfl ah ?_))
  refine HC.out.mono ?_
  rintro e w9 ⟨s9, rfl, A9, hb9⟩
  have T9 := TF.keep hb9
  clear CF OF
  go_wp2_with (first | (refine wpList_store_row rfl 46 _ _ rfl (w.heap.size + 3) (wc s9) rfl rfl _ _ eP ah ah ah ?_))
  have ZF := T9.bN s9
  refine bodyPost_ret (v := wv s9) ?_ rfl ⟨s9, rfl, ((A9.row (g := w.heap.size + 3) (fun q => q.2.2 rfl) _).mono (fun b _ q => q.1)), ZF.below⟩
  exact results_cell_row (p := 8) (ty := 46) Tryz.results53 _ _ (w.heap.size + 3) 46 _ (0, 0) _ rfl ZF.Z Tryz.underlying46 rfl ah
end Go.Proofs.YtaiodbcnbcdokaaGreat.Me
