/- work.Begin and the reference's, for every operation (made by genbegin.py). -/
import Derived.Test.YtgpdkagmacpghaaGreatFols
import Derived.Test.YtgpdkagmacpghaaGreatEntryLive
import Derived.Test.YtgpdkagmacpghaaGreatRef04b
import Derived.Deep.Cut
import Derived.Deep.CutRange
namespace Go.Proofs.YtgpdkagmacpghaaGreat.Me
open Go Go.RowKit Go.ChangeMaps Go.Proofs.YtgpdkagmacpghaaGreat.Gro Go.Proofs.YtgpdkagmacpghaaGreat.Own Go.Proofs.YtgpdkagmacpghaaGreat.Wd Go.Proofs.YtgpdkagmacpghaaGreat.Ap Go.Proofs.YtgpdkagmacpghaaGreat.Pl Go.Proofs.YtgpdkagmacpghaaGreat.Wo Go.Proofs.YtgpdkagmacpghaaGreat.Mr
set_option linter.unusedVariables false
set_option linter.unusedSimpArgs false
def unlessS (x : St) (b : Bool) (r l : Int) : St := if b = true then endS x r else atS x l
def enterS (x : St) : St := if x.p.pn = true then bodyS x else atS x 1
def startS (c : Cfg) (x : St) : St :=
  if x.p.o0 = 1 then unlessS x x.p.pn 9 1 else if x.p.o0 = 2 then unlessS x (!x.p.pn) 9 90 else if x.p.o0 = 7 then unlessS x (!x.p.pn || x.p.br == 0) 9 62 else if x.p.o0 = 8 then atS x 70
  else if x.p.o0 = 9 then unlessS x (decide (x.p.o3 < 0) || decide (c.sl ≤ x.p.o3)) 8 36 else if x.p.o0 = 4 ∨ x.p.o0 = 5 ∨ x.p.o0 = 6 then (if goodB c x.p.t = true then enterS x else endS x 8) else if x.p.o0 = 3 then enterS x else endS x 3
set_option maxRecDepth 100000 in
set_option maxHeartbeats 8000000 in
theorem fUnless {P : Nat → Prop} {w : World} {s : Wk} {x : St} (hP : ∀ b, w.heap.size ≤ b → P b) (A : LiesP P w s x) (b : Bool) (r l : Int) :
    Calls Tryz.prog 80 #[wv s, .bool b, .int .i64 r, .int .i64 l] w (FW P w (unlessS x b r l)) := by
  unfold unlessS
  cases b with
  | true =>
    rw [if_pos rfl]
    have T0 := Two.start w s
    have AQ := (A.mono (Q := fun b => P b ∧ b ≠ w.heap.size ∧ b ≠ w.heap.size + 1) (fun b hb q => ⟨q, by omega, by omega⟩)).keep T0.below
    obtain ⟨v0, hv0⟩ : ∃ u, u = (w.alloc (.cells (wc s) 34)).alloc (.cells (wc wz) 34) := ⟨_, rfl⟩
    rw [← hv0] at T0 AQ
    have x0 := T0.X.cells
    have z0 := T0.X.frozen
    have HP' : ∀ b, w.heap.size + 1 + 1 ≤ b → (P b ∧ b ≠ w.heap.size ∧ b ≠ w.heap.size + 1) := fun b hb => ⟨hP b (by omega), by omega, by omega⟩
    have lt9 := T0.lt
    have HC := Lib.hid (fEnd (P := fun b => P b ∧ b ≠ w.heap.size ∧ b ≠ w.heap.size + 1) (fun b hb => HP' b (by omega)) AQ r)
    go_enter Tryz.func80, Tryz.ntmps80
    go_wp2_with (first | ((with_reducible refine wpList_alloc_wz rfl rfl ?_); rw [← hv0]; clear hv0) | (refine wpList_load_row rfl 34 _ rfl (w.heap.size) rfl _ (wc s) (0, 0) _ (by exact T0.X) Tryz.underlying34 rfl (by kernel_rfl) ?_))
    refine HC.out.mono ?_
    rintro e w9 ⟨s9, rfl, A9, hb9⟩
    have T9 := T0.keep hb9
    go_wp2_with (first | (refine wpList_store_row rfl 34 _ _ rfl (w.heap.size + 1) (wc s9) rfl rfl _ _ (by exact T9.Z) (by kernel_rfl) (by kernel_rfl) (by kernel_rfl) ?_))
    have ZF := T9.rowZ s9
    refine bodyPost_ret (v := wv s9) ?_ rfl ⟨s9, rfl, ((A9.row (g := w.heap.size + 1) (fun q => q.2.2 rfl) _).mono (fun b _ q => q.1)), ZF.below⟩
    exact results_cell_row (p := 8) (ty := 34) Tryz.results80 _ _ (w.heap.size + 1) 34 _ (0, 0) _ rfl ZF.Z Tryz.underlying34 rfl (by kernel_rfl)
  | false =>
    rw [if_neg (by decide)]
    have T0 := Two.start w s
    have AQ := (A.mono (Q := fun b => P b ∧ b ≠ w.heap.size ∧ b ≠ w.heap.size + 1) (fun b hb q => ⟨q, by omega, by omega⟩)).keep T0.below
    obtain ⟨v0, hv0⟩ : ∃ u, u = (w.alloc (.cells (wc s) 34)).alloc (.cells (wc wz) 34) := ⟨_, rfl⟩
    rw [← hv0] at T0 AQ
    have x0 := T0.X.cells
    have z0 := T0.X.frozen
    have HP' : ∀ b, w.heap.size + 1 + 1 ≤ b → (P b ∧ b ≠ w.heap.size ∧ b ≠ w.heap.size + 1) := fun b hb => ⟨hP b (by omega), by omega, by omega⟩
    have lt9 := T0.lt
    have HC := Lib.hid (fAt (P := fun b => P b ∧ b ≠ w.heap.size ∧ b ≠ w.heap.size + 1) (fun b hb => HP' b (by omega)) AQ l)
    go_enter Tryz.func80, Tryz.ntmps80
    go_wp2_with (first | ((with_reducible refine wpList_alloc_wz rfl rfl ?_); rw [← hv0]; clear hv0) | (refine wpList_load_row rfl 34 _ rfl (w.heap.size) rfl _ (wc s) (0, 0) _ (by exact T0.X) Tryz.underlying34 rfl (by kernel_rfl) ?_))
    refine HC.out.mono ?_
    rintro e w9 ⟨s9, rfl, A9, hb9⟩
    have T9 := T0.keep hb9
    go_wp2_with (first | (refine wpList_store_row rfl 34 _ _ rfl (w.heap.size + 1) (wc s9) rfl rfl _ _ (by exact T9.Z) (by kernel_rfl) (by kernel_rfl) (by kernel_rfl) ?_))
    have ZF := T9.rowZ s9
    refine bodyPost_ret (v := wv s9) ?_ rfl ⟨s9, rfl, ((A9.row (g := w.heap.size + 1) (fun q => q.2.2 rfl) _).mono (fun b _ q => q.1)), ZF.below⟩
    exact results_cell_row (p := 8) (ty := 34) Tryz.results80 _ _ (w.heap.size + 1) 34 _ (0, 0) _ rfl ZF.Z Tryz.underlying34 rfl (by kernel_rfl)
set_option maxRecDepth 100000 in
set_option maxHeartbeats 8000000 in
theorem fEnter {P : Nat → Prop} {w : World} {s : Wk} {x : St} (hP : ∀ b, w.heap.size ≤ b → P b) (A : LiesP P w s x) (hx : Few 900 x) :
    Calls Tryz.prog 84 #[wv s] w (FW P w (enterS x)) := by
  unfold enterS
  cases h_pn : x.p.pn with
  | true =>
    rw [if_pos rfl]
    have q8 : (wc s)[8]? = some (.bool true) := by rw [show (wc s)[8]? = some (.bool s.p.pn) from rfl, A.p, h_pn]
    clear h_pn
    have T0 := Two.start w s
    have AQ := (A.mono (Q := fun b => P b ∧ b ≠ w.heap.size ∧ b ≠ w.heap.size + 1) (fun b hb q => ⟨q, by omega, by omega⟩)).keep T0.below
    obtain ⟨v0, hv0⟩ : ∃ u, u = (w.alloc (.cells (wc s) 34)).alloc (.cells (wc wz) 34) := ⟨_, rfl⟩
    rw [← hv0] at T0 AQ
    have x0 := T0.X.cells
    have z0 := T0.X.frozen
    have HP' : ∀ b, w.heap.size + 1 + 1 ≤ b → (P b ∧ b ≠ w.heap.size ∧ b ≠ w.heap.size + 1) := fun b hb => ⟨hP b (by omega), by omega, by omega⟩
    have lt9 := T0.lt
    have HC := Lib.hid (fBody (P := fun b => P b ∧ b ≠ w.heap.size ∧ b ≠ w.heap.size + 1) (fun b hb => HP' b (by omega)) AQ hx)
    go_enter Tryz.func84, Tryz.ntmps84
    go_wp2_with (first | ((with_reducible refine wpList_alloc_wz rfl rfl ?_); rw [← hv0]; clear hv0) | (refine wpList_load_row rfl 34 _ rfl (w.heap.size) rfl _ (wc s) (0, 0) _ (by exact T0.X) Tryz.underlying34 rfl (by kernel_rfl) ?_))
    refine HC.out.mono ?_
    rintro e w9 ⟨s9, rfl, A9, hb9⟩
    have T9 := T0.keep hb9
    go_wp2_with (first | (refine wpList_store_row rfl 34 _ _ rfl (w.heap.size + 1) (wc s9) rfl rfl _ _ (by exact T9.Z) (by kernel_rfl) (by kernel_rfl) (by kernel_rfl) ?_))
    have ZF := T9.rowZ s9
    refine bodyPost_ret (v := wv s9) ?_ rfl ⟨s9, rfl, ((A9.row (g := w.heap.size + 1) (fun q => q.2.2 rfl) _).mono (fun b _ q => q.1)), ZF.below⟩
    exact results_cell_row (p := 2) (ty := 34) Tryz.results84 _ _ (w.heap.size + 1) 34 _ (0, 0) _ rfl ZF.Z Tryz.underlying34 rfl (by kernel_rfl)
  | false =>
    rw [if_neg (by decide)]
    have q8 : (wc s)[8]? = some (.bool false) := by rw [show (wc s)[8]? = some (.bool s.p.pn) from rfl, A.p, h_pn]
    clear h_pn
    have T0 := Two.start w s
    have AQ := (A.mono (Q := fun b => P b ∧ b ≠ w.heap.size ∧ b ≠ w.heap.size + 1) (fun b hb q => ⟨q, by omega, by omega⟩)).keep T0.below
    obtain ⟨v0, hv0⟩ : ∃ u, u = (w.alloc (.cells (wc s) 34)).alloc (.cells (wc wz) 34) := ⟨_, rfl⟩
    rw [← hv0] at T0 AQ
    have x0 := T0.X.cells
    have z0 := T0.X.frozen
    have HP' : ∀ b, w.heap.size + 1 + 1 ≤ b → (P b ∧ b ≠ w.heap.size ∧ b ≠ w.heap.size + 1) := fun b hb => ⟨hP b (by omega), by omega, by omega⟩
    have lt9 := T0.lt
    have HC := Lib.hid (fAt (P := fun b => P b ∧ b ≠ w.heap.size ∧ b ≠ w.heap.size + 1) (fun b hb => HP' b (by omega)) AQ 1)
    go_enter Tryz.func84, Tryz.ntmps84
    go_wp2_with (first | ((with_reducible refine wpList_alloc_wz rfl rfl ?_); rw [← hv0]; clear hv0) | (refine wpList_load_row rfl 34 _ rfl (w.heap.size) rfl _ (wc s) (0, 0) _ (by exact T0.X) Tryz.underlying34 rfl (by kernel_rfl) ?_))
    refine HC.out.mono ?_
    rintro e w9 ⟨s9, rfl, A9, hb9⟩
    have T9 := T0.keep hb9
    go_wp2_with (first | (refine wpList_store_row rfl 34 _ _ rfl (w.heap.size + 1) (wc s9) rfl rfl _ _ (by exact T9.Z) (by kernel_rfl) (by kernel_rfl) (by kernel_rfl) ?_))
    have ZF := T9.rowZ s9
    refine bodyPost_ret (v := wv s9) ?_ rfl ⟨s9, rfl, ((A9.row (g := w.heap.size + 1) (fun q => q.2.2 rfl) _).mono (fun b _ q => q.1)), ZF.below⟩
    exact results_cell_row (p := 2) (ty := 34) Tryz.results84 _ _ (w.heap.size + 1) 34 _ (0, 0) _ rfl ZF.Z Tryz.underlying34 rfl (by kernel_rfl)
set_option maxRecDepth 100000 in
set_option maxHeartbeats 8000000 in
theorem fStart (c : Cfg) {P : Nat → Prop} {w : World} {s : Wk} {x : St} (hP : ∀ b, w.heap.size ≤ b → P b) (A : LiesP P w s x) (hf : c.Wf) (hx : Few 900 x) (ht : 0 ≤ x.p.t ∧ x.p.t < 18446744073709551616) :
    Calls Tryz.prog 44 #[cv c, wv s] w (FW P w (startS c x)) := by
  obtain ⟨k0, h_o0⟩ : ∃ k, x.p.o0 = k := ⟨_, rfl⟩
  obtain ⟨pb, h_pn⟩ : ∃ k, x.p.pn = k := ⟨_, rfl⟩
  obtain ⟨br0, h_br⟩ : ∃ k, x.p.br = k := ⟨_, rfl⟩
  obtain ⟨sl0, h_o3⟩ : ∃ k, x.p.o3 = k := ⟨_, rfl⟩
  obtain ⟨t0, h_t⟩ : ∃ k, x.p.t = k := ⟨_, rfl⟩
  have q1 : (wc s)[1]? = some (.int .i64 k0) := by rw [show (wc s)[1]? = some (.int .i64 s.p.o0) from rfl, A.p, h_o0]
  have q8 : (wc s)[8]? = some (.bool pb) := by rw [show (wc s)[8]? = some (.bool s.p.pn) from rfl, A.p, h_pn]
  have q22 : (wc s)[22]? = some (.int .i64 br0) := by rw [show (wc s)[22]? = some (.int .i64 s.p.br) from rfl, A.p, h_br]
  have q4 : (wc s)[4]? = some (.int .i64 sl0) := by rw [show (wc s)[4]? = some (.int .i64 s.p.o3) from rfl, A.p, h_o3]
  have q30 : (wc s)[30]? = some (.int .u64 t0) := by rw [show (wc s)[30]? = some (.int .u64 s.p.t) from rfl, A.p, h_t]
  rw [h_t] at ht
  unfold startS
  rw [h_o0, h_pn, h_br, h_o3, h_t]
  clear h_o0 h_pn h_br h_o3 h_t
  by_cases h1 : k0 = 1
  · subst h1
    rw [if_pos rfl]
    have hbc : Below w.heap.size w (w.alloc (.cells (ccM c) 24)) := (Below.refl _ _).alloc (Nat.le_refl _) _
    have hszc : (w.alloc (.cells (ccM c) 24)).heap.size = w.heap.size + 1 := by simp
    have T0 := Two.startAt hbc s
    rw [hszc] at T0
    have AQ := (A.mono (Q := fun b => P b ∧ b ≠ w.heap.size + 1 ∧ b ≠ w.heap.size + 1 + 1) (fun b hb q => ⟨q, by omega, by omega⟩)).keep T0.below
    obtain ⟨v0, hv0⟩ : ∃ u, u = ((w.alloc (.cells (ccM c) 24)).alloc (.cells (wc s) 34)).alloc (.cells (wc wz) 34) := ⟨_, rfl⟩
    rw [← hv0] at T0 AQ
    have x0 := T0.X.cells
    have z0 := T0.X.frozen
    have HP' : ∀ b, w.heap.size + 1 + 1 + 1 ≤ b → (P b ∧ b ≠ w.heap.size + 1 ∧ b ≠ w.heap.size + 1 + 1) := fun b hb => ⟨hP b (by omega), by omega, by omega⟩
    have lt9 := T0.lt
    have HC := Lib.hid (fUnless (P := fun b => P b ∧ b ≠ w.heap.size + 1 ∧ b ≠ w.heap.size + 1 + 1) (fun b hb => HP' b (by omega)) AQ pb 9 1)
    go_enter Tryz.func44, Tryz.ntmps44
    go_wp2_with (first | ((with_reducible refine wpList_alloc_wz rfl rfl ?_); rw [← hv0]; clear hv0) | (refine wpList_load_row rfl 34 _ rfl (w.heap.size + 1) rfl _ (wc s) (0, 0) _ (by exact T0.X) Tryz.underlying34 rfl (by kernel_rfl) ?_))
    refine HC.out.mono ?_
    rintro e w9 ⟨s9, rfl, A9, hb9⟩
    have T9 := T0.keep hb9
    go_wp2_with (first | (refine wpList_store_row rfl 34 _ _ rfl (w.heap.size + 1 + 1) (wc s9) rfl rfl _ _ (by exact T9.Z) (by kernel_rfl) (by kernel_rfl) (by kernel_rfl) ?_))
    have ZF := T9.rowZ s9
    refine bodyPost_ret (v := wv s9) ?_ rfl ⟨s9, rfl, ((A9.row (g := w.heap.size + 1 + 1) (fun q => q.2.2 rfl) _).mono (fun b _ q => q.1)), ZF.below⟩
    exact results_cell_row (p := 4) (ty := 34) Tryz.results44 _ _ (w.heap.size + 1 + 1) 34 _ (0, 0) _ rfl ZF.Z Tryz.underlying34 rfl (by kernel_rfl)
  rw [if_neg h1]
  have t1 : (k0 == 1) = false := by simp [h1]
  by_cases h2 : k0 = 2
  · subst h2
    rw [if_pos rfl]
    have hbc : Below w.heap.size w (w.alloc (.cells (ccM c) 24)) := (Below.refl _ _).alloc (Nat.le_refl _) _
    have hszc : (w.alloc (.cells (ccM c) 24)).heap.size = w.heap.size + 1 := by simp
    have T0 := Two.startAt hbc s
    rw [hszc] at T0
    have AQ := (A.mono (Q := fun b => P b ∧ b ≠ w.heap.size + 1 ∧ b ≠ w.heap.size + 1 + 1) (fun b hb q => ⟨q, by omega, by omega⟩)).keep T0.below
    obtain ⟨v0, hv0⟩ : ∃ u, u = ((w.alloc (.cells (ccM c) 24)).alloc (.cells (wc s) 34)).alloc (.cells (wc wz) 34) := ⟨_, rfl⟩
    rw [← hv0] at T0 AQ
    have x0 := T0.X.cells
    have z0 := T0.X.frozen
    have HP' : ∀ b, w.heap.size + 1 + 1 + 1 ≤ b → (P b ∧ b ≠ w.heap.size + 1 ∧ b ≠ w.heap.size + 1 + 1) := fun b hb => ⟨hP b (by omega), by omega, by omega⟩
    have lt9 := T0.lt
    have HC := Lib.hid (fUnless (P := fun b => P b ∧ b ≠ w.heap.size + 1 ∧ b ≠ w.heap.size + 1 + 1) (fun b hb => HP' b (by omega)) AQ (!pb) 9 90)
    go_enter Tryz.func44, Tryz.ntmps44
    go_wp2_with (first | ((with_reducible refine wpList_alloc_wz rfl rfl ?_); rw [← hv0]; clear hv0) | (refine wpList_load_row rfl 34 _ rfl (w.heap.size + 1) rfl _ (wc s) (0, 0) _ (by exact T0.X) Tryz.underlying34 rfl (by kernel_rfl) ?_))
    refine HC.out.mono ?_
    rintro e w9 ⟨s9, rfl, A9, hb9⟩
    have T9 := T0.keep hb9
    go_wp2_with (first | (refine wpList_store_row rfl 34 _ _ rfl (w.heap.size + 1 + 1) (wc s9) rfl rfl _ _ (by exact T9.Z) (by kernel_rfl) (by kernel_rfl) (by kernel_rfl) ?_))
    have ZF := T9.rowZ s9
    refine bodyPost_ret (v := wv s9) ?_ rfl ⟨s9, rfl, ((A9.row (g := w.heap.size + 1 + 1) (fun q => q.2.2 rfl) _).mono (fun b _ q => q.1)), ZF.below⟩
    exact results_cell_row (p := 4) (ty := 34) Tryz.results44 _ _ (w.heap.size + 1 + 1) 34 _ (0, 0) _ rfl ZF.Z Tryz.underlying34 rfl (by kernel_rfl)
  rw [if_neg h2]
  have t2 : (k0 == 2) = false := by simp [h2]
  by_cases h7 : k0 = 7
  · subst h7
    rw [if_pos rfl]
    cases pb with
    | false =>
      have hbc : Below w.heap.size w (w.alloc (.cells (ccM c) 24)) := (Below.refl _ _).alloc (Nat.le_refl _) _
      have hszc : (w.alloc (.cells (ccM c) 24)).heap.size = w.heap.size + 1 := by simp
      have T0 := Two.startAt hbc s
      rw [hszc] at T0
      have AQ := (A.mono (Q := fun b => P b ∧ b ≠ w.heap.size + 1 ∧ b ≠ w.heap.size + 1 + 1) (fun b hb q => ⟨q, by omega, by omega⟩)).keep T0.below
      obtain ⟨v0, hv0⟩ : ∃ u, u = ((w.alloc (.cells (ccM c) 24)).alloc (.cells (wc s) 34)).alloc (.cells (wc wz) 34) := ⟨_, rfl⟩
      rw [← hv0] at T0 AQ
      have x0 := T0.X.cells
      have z0 := T0.X.frozen
      have HP' : ∀ b, w.heap.size + 1 + 1 + 1 ≤ b → (P b ∧ b ≠ w.heap.size + 1 ∧ b ≠ w.heap.size + 1 + 1) := fun b hb => ⟨hP b (by omega), by omega, by omega⟩
      have lt9 := T0.lt
      have HC := Lib.hid (fUnless (P := fun b => P b ∧ b ≠ w.heap.size + 1 ∧ b ≠ w.heap.size + 1 + 1) (fun b hb => HP' b (by omega)) AQ true 9 62)
      go_enter Tryz.func44, Tryz.ntmps44
      go_wp2_with (first | ((with_reducible refine wpList_alloc_wz rfl rfl ?_); rw [← hv0]; clear hv0) | (refine wpList_load_row rfl 34 _ rfl (w.heap.size + 1) rfl _ (wc s) (0, 0) _ (by exact T0.X) Tryz.underlying34 rfl (by kernel_rfl) ?_))
      refine HC.out.mono ?_
      rintro e w9 ⟨s9, rfl, A9, hb9⟩
      have T9 := T0.keep hb9
      go_wp2_with (first | (refine wpList_store_row rfl 34 _ _ rfl (w.heap.size + 1 + 1) (wc s9) rfl rfl _ _ (by exact T9.Z) (by kernel_rfl) (by kernel_rfl) (by kernel_rfl) ?_))
      have ZF := T9.rowZ s9
      refine bodyPost_ret (v := wv s9) ?_ rfl ⟨s9, rfl, ((A9.row (g := w.heap.size + 1 + 1) (fun q => q.2.2 rfl) _).mono (fun b _ q => q.1)), ZF.below⟩
      exact results_cell_row (p := 4) (ty := 34) Tryz.results44 _ _ (w.heap.size + 1 + 1) 34 _ (0, 0) _ rfl ZF.Z Tryz.underlying34 rfl (by kernel_rfl)
    | true =>
      have hbc : Below w.heap.size w (w.alloc (.cells (ccM c) 24)) := (Below.refl _ _).alloc (Nat.le_refl _) _
      have hszc : (w.alloc (.cells (ccM c) 24)).heap.size = w.heap.size + 1 := by simp
      have T0 := Two.startAt hbc s
      rw [hszc] at T0
      have AQ := (A.mono (Q := fun b => P b ∧ b ≠ w.heap.size + 1 ∧ b ≠ w.heap.size + 1 + 1) (fun b hb q => ⟨q, by omega, by omega⟩)).keep T0.below
      obtain ⟨v0, hv0⟩ : ∃ u, u = ((w.alloc (.cells (ccM c) 24)).alloc (.cells (wc s) 34)).alloc (.cells (wc wz) 34) := ⟨_, rfl⟩
      rw [← hv0] at T0 AQ
      have x0 := T0.X.cells
      have z0 := T0.X.frozen
      have HP' : ∀ b, w.heap.size + 1 + 1 + 1 ≤ b → (P b ∧ b ≠ w.heap.size + 1 ∧ b ≠ w.heap.size + 1 + 1) := fun b hb => ⟨hP b (by omega), by omega, by omega⟩
      have lt9 := T0.lt
      have HC := Lib.hid (fUnless (P := fun b => P b ∧ b ≠ w.heap.size + 1 ∧ b ≠ w.heap.size + 1 + 1) (fun b hb => HP' b (by omega)) AQ (br0 == 0) 9 62)
      go_enter Tryz.func44, Tryz.ntmps44
      go_wp2_with (first | ((with_reducible refine wpList_alloc_wz rfl rfl ?_); rw [← hv0]; clear hv0) | (refine wpList_load_row rfl 34 _ rfl (w.heap.size + 1) rfl _ (wc s) (0, 0) _ (by exact T0.X) Tryz.underlying34 rfl (by kernel_rfl) ?_))
      refine HC.out.mono ?_
      rintro e w9 ⟨s9, rfl, A9, hb9⟩
      have T9 := T0.keep hb9
      go_wp2_with (first | (refine wpList_store_row rfl 34 _ _ rfl (w.heap.size + 1 + 1) (wc s9) rfl rfl _ _ (by exact T9.Z) (by kernel_rfl) (by kernel_rfl) (by kernel_rfl) ?_))
      have ZF := T9.rowZ s9
      refine bodyPost_ret (v := wv s9) ?_ rfl ⟨s9, rfl, ((A9.row (g := w.heap.size + 1 + 1) (fun q => q.2.2 rfl) _).mono (fun b _ q => q.1)), ZF.below⟩
      exact results_cell_row (p := 4) (ty := 34) Tryz.results44 _ _ (w.heap.size + 1 + 1) 34 _ (0, 0) _ rfl ZF.Z Tryz.underlying34 rfl (by kernel_rfl)
  rw [if_neg h7]
  have t7 : (k0 == 7) = false := by simp [h7]
  by_cases h8 : k0 = 8
  · subst h8
    rw [if_pos rfl]
    have hbc : Below w.heap.size w (w.alloc (.cells (ccM c) 24)) := (Below.refl _ _).alloc (Nat.le_refl _) _
    have hszc : (w.alloc (.cells (ccM c) 24)).heap.size = w.heap.size + 1 := by simp
    have T0 := Two.startAt hbc s
    rw [hszc] at T0
    have AQ := (A.mono (Q := fun b => P b ∧ b ≠ w.heap.size + 1 ∧ b ≠ w.heap.size + 1 + 1) (fun b hb q => ⟨q, by omega, by omega⟩)).keep T0.below
    obtain ⟨v0, hv0⟩ : ∃ u, u = ((w.alloc (.cells (ccM c) 24)).alloc (.cells (wc s) 34)).alloc (.cells (wc wz) 34) := ⟨_, rfl⟩
    rw [← hv0] at T0 AQ
    have x0 := T0.X.cells
    have z0 := T0.X.frozen
    have HP' : ∀ b, w.heap.size + 1 + 1 + 1 ≤ b → (P b ∧ b ≠ w.heap.size + 1 ∧ b ≠ w.heap.size + 1 + 1) := fun b hb => ⟨hP b (by omega), by omega, by omega⟩
    have lt9 := T0.lt
    have HC := Lib.hid (fAt (P := fun b => P b ∧ b ≠ w.heap.size + 1 ∧ b ≠ w.heap.size + 1 + 1) (fun b hb => HP' b (by omega)) AQ 70)
    go_enter Tryz.func44, Tryz.ntmps44
    go_wp2_with (first | ((with_reducible refine wpList_alloc_wz rfl rfl ?_); rw [← hv0]; clear hv0) | (refine wpList_load_row rfl 34 _ rfl (w.heap.size + 1) rfl _ (wc s) (0, 0) _ (by exact T0.X) Tryz.underlying34 rfl (by kernel_rfl) ?_))
    refine HC.out.mono ?_
    rintro e w9 ⟨s9, rfl, A9, hb9⟩
    have T9 := T0.keep hb9
    go_wp2_with (first | (refine wpList_store_row rfl 34 _ _ rfl (w.heap.size + 1 + 1) (wc s9) rfl rfl _ _ (by exact T9.Z) (by kernel_rfl) (by kernel_rfl) (by kernel_rfl) ?_))
    have ZF := T9.rowZ s9
    refine bodyPost_ret (v := wv s9) ?_ rfl ⟨s9, rfl, ((A9.row (g := w.heap.size + 1 + 1) (fun q => q.2.2 rfl) _).mono (fun b _ q => q.1)), ZF.below⟩
    exact results_cell_row (p := 4) (ty := 34) Tryz.results44 _ _ (w.heap.size + 1 + 1) 34 _ (0, 0) _ rfl ZF.Z Tryz.underlying34 rfl (by kernel_rfl)
  rw [if_neg h8]
  have t8 : (k0 == 8) = false := by simp [h8]
  by_cases h9 : k0 = 9
  · subst h9
    rw [if_pos rfl]
    by_cases hs : sl0 < 0
    · have u1 : decide (sl0 < 0) = true := by simp [hs]
      rw [u1]
      clear hs
      have hbc : Below w.heap.size w (w.alloc (.cells (ccM c) 24)) := (Below.refl _ _).alloc (Nat.le_refl _) _
      have hszc : (w.alloc (.cells (ccM c) 24)).heap.size = w.heap.size + 1 := by simp
      have T0 := Two.startAt hbc s
      rw [hszc] at T0
      have AQ := (A.mono (Q := fun b => P b ∧ b ≠ w.heap.size + 1 ∧ b ≠ w.heap.size + 1 + 1) (fun b hb q => ⟨q, by omega, by omega⟩)).keep T0.below
      obtain ⟨v0, hv0⟩ : ∃ u, u = ((w.alloc (.cells (ccM c) 24)).alloc (.cells (wc s) 34)).alloc (.cells (wc wz) 34) := ⟨_, rfl⟩
      rw [← hv0] at T0 AQ
      have x0 := T0.X.cells
      have z0 := T0.X.frozen
      have c1 : v0.cell? ⟨w.heap.size, 1, none⟩ = some (.int .i64 c.sl) := by rw [hv0]; exact (((Bk.new w (ccM c) 24).alloc _).alloc _).cells 1
      have lc1 : w.heap.size < v0.heap.size := by have := T0.lt; omega
      have HP' : ∀ b, w.heap.size + 1 + 1 + 1 ≤ b → (P b ∧ b ≠ w.heap.size + 1 ∧ b ≠ w.heap.size + 1 + 1) := fun b hb => ⟨hP b (by omega), by omega, by omega⟩
      have lt9 := T0.lt
      have HC := Lib.hid (fUnless (P := fun b => P b ∧ b ≠ w.heap.size + 1 ∧ b ≠ w.heap.size + 1 + 1) (fun b hb => HP' b (by omega)) AQ true 8 36)
      go_enter Tryz.func44, Tryz.ntmps44
      go_wp2_with (first | ((with_reducible refine wpList_alloc_wz rfl rfl ?_); rw [← hv0]; clear hv0) | (refine wpList_load_row rfl 34 _ rfl (w.heap.size + 1) rfl _ (wc s) (0, 0) _ (by exact T0.X) Tryz.underlying34 rfl (by kernel_rfl) ?_))
      refine HC.out.mono ?_
      rintro e w9 ⟨s9, rfl, A9, hb9⟩
      have T9 := T0.keep hb9
      go_wp2_with (first | (refine wpList_store_row rfl 34 _ _ rfl (w.heap.size + 1 + 1) (wc s9) rfl rfl _ _ (by exact T9.Z) (by kernel_rfl) (by kernel_rfl) (by kernel_rfl) ?_))
      have ZF := T9.rowZ s9
      refine bodyPost_ret (v := wv s9) ?_ rfl ⟨s9, rfl, ((A9.row (g := w.heap.size + 1 + 1) (fun q => q.2.2 rfl) _).mono (fun b _ q => q.1)), ZF.below⟩
      exact results_cell_row (p := 4) (ty := 34) Tryz.results44 _ _ (w.heap.size + 1 + 1) 34 _ (0, 0) _ rfl ZF.Z Tryz.underlying34 rfl (by kernel_rfl)
    · have u1 : decide (sl0 < 0) = false := by simp; omega
      rw [u1]
      clear hs
      have hbc : Below w.heap.size w (w.alloc (.cells (ccM c) 24)) := (Below.refl _ _).alloc (Nat.le_refl _) _
      have hszc : (w.alloc (.cells (ccM c) 24)).heap.size = w.heap.size + 1 := by simp
      have T0 := Two.startAt hbc s
      rw [hszc] at T0
      have AQ := (A.mono (Q := fun b => P b ∧ b ≠ w.heap.size + 1 ∧ b ≠ w.heap.size + 1 + 1) (fun b hb q => ⟨q, by omega, by omega⟩)).keep T0.below
      obtain ⟨v0, hv0⟩ : ∃ u, u = ((w.alloc (.cells (ccM c) 24)).alloc (.cells (wc s) 34)).alloc (.cells (wc wz) 34) := ⟨_, rfl⟩
      rw [← hv0] at T0 AQ
      have x0 := T0.X.cells
      have z0 := T0.X.frozen
      have c1 : v0.cell? ⟨w.heap.size, 1, none⟩ = some (.int .i64 c.sl) := by rw [hv0]; exact (((Bk.new w (ccM c) 24).alloc _).alloc _).cells 1
      have lc1 : w.heap.size < v0.heap.size := by have := T0.lt; omega
      have HP' : ∀ b, w.heap.size + 1 + 1 + 1 ≤ b → (P b ∧ b ≠ w.heap.size + 1 ∧ b ≠ w.heap.size + 1 + 1) := fun b hb => ⟨hP b (by omega), by omega, by omega⟩
      have lt9 := T0.lt
      have HC := Lib.hid (fUnless (P := fun b => P b ∧ b ≠ w.heap.size + 1 ∧ b ≠ w.heap.size + 1 + 1) (fun b hb => HP' b (by omega)) AQ (decide (c.sl ≤ sl0)) 8 36)
      go_enter Tryz.func44, Tryz.ntmps44
      go_wp2_with (first | ((with_reducible refine wpList_alloc_wz rfl rfl ?_); rw [← hv0]; clear hv0) | (refine wpList_load_row rfl 34 _ rfl (w.heap.size + 1) rfl _ (wc s) (0, 0) _ (by exact T0.X) Tryz.underlying34 rfl (by kernel_rfl) ?_))
      refine HC.out.mono ?_
      rintro e w9 ⟨s9, rfl, A9, hb9⟩
      have T9 := T0.keep hb9
      go_wp2_with (first | (refine wpList_store_row rfl 34 _ _ rfl (w.heap.size + 1 + 1) (wc s9) rfl rfl _ _ (by exact T9.Z) (by kernel_rfl) (by kernel_rfl) (by kernel_rfl) ?_))
      have ZF := T9.rowZ s9
      refine bodyPost_ret (v := wv s9) ?_ rfl ⟨s9, rfl, ((A9.row (g := w.heap.size + 1 + 1) (fun q => q.2.2 rfl) _).mono (fun b _ q => q.1)), ZF.below⟩
      exact results_cell_row (p := 4) (ty := 34) Tryz.results44 _ _ (w.heap.size + 1 + 1) 34 _ (0, 0) _ rfl ZF.Z Tryz.underlying34 rfl (by kernel_rfl)
  rw [if_neg h9]
  have t9 : (k0 == 9) = false := by simp [h9]
  by_cases hq : k0 = 4 ∨ k0 = 5 ∨ k0 = 6
  · rw [if_pos hq]
    cases hgd : goodB c t0 with
    | true =>
      rw [if_pos rfl]
      clear t1 t2 t7 t8 t9 h1 h2 h7 h8 h9
      rcases hq with rfl | rfl | rfl
      · have hbc : Below w.heap.size w (w.alloc (.cells (ccM c) 24)) := (Below.refl _ _).alloc (Nat.le_refl _) _
        have hszc : (w.alloc (.cells (ccM c) 24)).heap.size = w.heap.size + 1 := by simp
        have T0 := Two.startAt hbc s
        rw [hszc] at T0
        have AQ := (A.mono (Q := fun b => P b ∧ b ≠ w.heap.size + 1 ∧ b ≠ w.heap.size + 1 + 1) (fun b hb q => ⟨q, by omega, by omega⟩)).keep T0.below
        obtain ⟨v0, hv0⟩ : ∃ u, u = ((w.alloc (.cells (ccM c) 24)).alloc (.cells (wc s) 34)).alloc (.cells (wc wz) 34) := ⟨_, rfl⟩
        rw [← hv0] at T0 AQ
        have x0 := T0.X.cells
        have z0 := T0.X.frozen
        have C0 : Bk v0 w.heap.size (ccM c) 24 := by rw [hv0]; exact ((Bk.new w (ccM c) 24).alloc _).alloc _
        have lt9 := T0.lt
        have HG := Lib.hid (eGood c hf t0 ht v0)
        rw [hgd] at HG
        unfold LvRet at HG
        go_enter Tryz.func44, Tryz.ntmps44
        go_wp2_with (first | ((with_reducible refine wpList_alloc_wz rfl rfl ?_); rw [← hv0]; clear hv0) | (refine wpList_load_row rfl 24 _ rfl w.heap.size rfl _ (ccM c) (0, 0) _ (by exact C0) Tryz.underlying24 rfl (by kernel_rfl) ?_))
        refine HG.out.mono ?_
        rintro en w5 ⟨rfl, hb5⟩
        have T5 := T0.keep hb5
        have A5 := AQ.keep hb5
        have l6 := T5.below.size
        have l7 := hb5.size
        have HP' : ∀ b, w5.heap.size ≤ b → (P b ∧ b ≠ w.heap.size + 1 ∧ b ≠ w.heap.size + 1 + 1) := fun b hb => ⟨hP b (by omega), by omega, by omega⟩
        have HC := Lib.hid (fEnter HP' A5 hx)
        clear C0 x0 z0
        go_wp2_with (first | (refine wpList_load_row rfl 34 _ rfl (w.heap.size + 1) rfl _ (wc s) (0, 0) _ (by exact T5.X) Tryz.underlying34 rfl (by kernel_rfl) ?_))
        refine HC.out.mono ?_
        rintro e w9 ⟨s9, rfl, A9, hb9⟩
        have T9 := T5.keep hb9
        go_wp2_with (first | (refine wpList_store_row rfl 34 _ _ rfl (w.heap.size + 1 + 1) (wc s9) rfl rfl _ _ (by exact T9.Z) (by kernel_rfl) (by kernel_rfl) (by kernel_rfl) ?_))
        have ZF := T9.rowZ s9
        refine bodyPost_ret (v := wv s9) ?_ rfl ⟨s9, rfl, ((A9.row (g := w.heap.size + 1 + 1) (fun q => q.2.2 rfl) _).mono (fun b _ q => q.1)), ZF.below⟩
        exact results_cell_row (p := 4) (ty := 34) Tryz.results44 _ _ (w.heap.size + 1 + 1) 34 _ (0, 0) _ rfl ZF.Z Tryz.underlying34 rfl (by kernel_rfl)
      · have hbc : Below w.heap.size w (w.alloc (.cells (ccM c) 24)) := (Below.refl _ _).alloc (Nat.le_refl _) _
        have hszc : (w.alloc (.cells (ccM c) 24)).heap.size = w.heap.size + 1 := by simp
        have T0 := Two.startAt hbc s
        rw [hszc] at T0
        have AQ := (A.mono (Q := fun b => P b ∧ b ≠ w.heap.size + 1 ∧ b ≠ w.heap.size + 1 + 1) (fun b hb q => ⟨q, by omega, by omega⟩)).keep T0.below
        obtain ⟨v0, hv0⟩ : ∃ u, u = ((w.alloc (.cells (ccM c) 24)).alloc (.cells (wc s) 34)).alloc (.cells (wc wz) 34) := ⟨_, rfl⟩
        rw [← hv0] at T0 AQ
        have x0 := T0.X.cells
        have z0 := T0.X.frozen
        have C0 : Bk v0 w.heap.size (ccM c) 24 := by rw [hv0]; exact ((Bk.new w (ccM c) 24).alloc _).alloc _
        have lt9 := T0.lt
        have HG := Lib.hid (eGood c hf t0 ht v0)
        rw [hgd] at HG
        unfold LvRet at HG
        go_enter Tryz.func44, Tryz.ntmps44
        go_wp2_with (first | ((with_reducible refine wpList_alloc_wz rfl rfl ?_); rw [← hv0]; clear hv0) | (refine wpList_load_row rfl 24 _ rfl w.heap.size rfl _ (ccM c) (0, 0) _ (by exact C0) Tryz.underlying24 rfl (by kernel_rfl) ?_))
        refine HG.out.mono ?_
        rintro en w5 ⟨rfl, hb5⟩
        have T5 := T0.keep hb5
        have A5 := AQ.keep hb5
        have l6 := T5.below.size
        have l7 := hb5.size
        have HP' : ∀ b, w5.heap.size ≤ b → (P b ∧ b ≠ w.heap.size + 1 ∧ b ≠ w.heap.size + 1 + 1) := fun b hb => ⟨hP b (by omega), by omega, by omega⟩
        have HC := Lib.hid (fEnter HP' A5 hx)
        clear C0 x0 z0
        go_wp2_with (first | (refine wpList_load_row rfl 34 _ rfl (w.heap.size + 1) rfl _ (wc s) (0, 0) _ (by exact T5.X) Tryz.underlying34 rfl (by kernel_rfl) ?_))
        refine HC.out.mono ?_
        rintro e w9 ⟨s9, rfl, A9, hb9⟩
        have T9 := T5.keep hb9
        go_wp2_with (first | (refine wpList_store_row rfl 34 _ _ rfl (w.heap.size + 1 + 1) (wc s9) rfl rfl _ _ (by exact T9.Z) (by kernel_rfl) (by kernel_rfl) (by kernel_rfl) ?_))
        have ZF := T9.rowZ s9
        refine bodyPost_ret (v := wv s9) ?_ rfl ⟨s9, rfl, ((A9.row (g := w.heap.size + 1 + 1) (fun q => q.2.2 rfl) _).mono (fun b _ q => q.1)), ZF.below⟩
        exact results_cell_row (p := 4) (ty := 34) Tryz.results44 _ _ (w.heap.size + 1 + 1) 34 _ (0, 0) _ rfl ZF.Z Tryz.underlying34 rfl (by kernel_rfl)
      · have hbc : Below w.heap.size w (w.alloc (.cells (ccM c) 24)) := (Below.refl _ _).alloc (Nat.le_refl _) _
        have hszc : (w.alloc (.cells (ccM c) 24)).heap.size = w.heap.size + 1 := by simp
        have T0 := Two.startAt hbc s
        rw [hszc] at T0
        have AQ := (A.mono (Q := fun b => P b ∧ b ≠ w.heap.size + 1 ∧ b ≠ w.heap.size + 1 + 1) (fun b hb q => ⟨q, by omega, by omega⟩)).keep T0.below
        obtain ⟨v0, hv0⟩ : ∃ u, u = ((w.alloc (.cells (ccM c) 24)).alloc (.cells (wc s) 34)).alloc (.cells (wc wz) 34) := ⟨_, rfl⟩
        rw [← hv0] at T0 AQ
        have x0 := T0.X.cells
        have z0 := T0.X.frozen
        have C0 : Bk v0 w.heap.size (ccM c) 24 := by rw [hv0]; exact ((Bk.new w (ccM c) 24).alloc _).alloc _
        have lt9 := T0.lt
        have HG := Lib.hid (eGood c hf t0 ht v0)
        rw [hgd] at HG
        unfold LvRet at HG
        go_enter Tryz.func44, Tryz.ntmps44
        go_wp2_with (first | ((with_reducible refine wpList_alloc_wz rfl rfl ?_); rw [← hv0]; clear hv0) | (refine wpList_load_row rfl 24 _ rfl w.heap.size rfl _ (ccM c) (0, 0) _ (by exact C0) Tryz.underlying24 rfl (by kernel_rfl) ?_))
        refine HG.out.mono ?_
        rintro en w5 ⟨rfl, hb5⟩
        have T5 := T0.keep hb5
        have A5 := AQ.keep hb5
        have l6 := T5.below.size
        have l7 := hb5.size
        have HP' : ∀ b, w5.heap.size ≤ b → (P b ∧ b ≠ w.heap.size + 1 ∧ b ≠ w.heap.size + 1 + 1) := fun b hb => ⟨hP b (by omega), by omega, by omega⟩
        have HC := Lib.hid (fEnter HP' A5 hx)
        clear C0 x0 z0
        go_wp2_with (first | (refine wpList_load_row rfl 34 _ rfl (w.heap.size + 1) rfl _ (wc s) (0, 0) _ (by exact T5.X) Tryz.underlying34 rfl (by kernel_rfl) ?_))
        refine HC.out.mono ?_
        rintro e w9 ⟨s9, rfl, A9, hb9⟩
        have T9 := T5.keep hb9
        go_wp2_with (first | (refine wpList_store_row rfl 34 _ _ rfl (w.heap.size + 1 + 1) (wc s9) rfl rfl _ _ (by exact T9.Z) (by kernel_rfl) (by kernel_rfl) (by kernel_rfl) ?_))
        have ZF := T9.rowZ s9
        refine bodyPost_ret (v := wv s9) ?_ rfl ⟨s9, rfl, ((A9.row (g := w.heap.size + 1 + 1) (fun q => q.2.2 rfl) _).mono (fun b _ q => q.1)), ZF.below⟩
        exact results_cell_row (p := 4) (ty := 34) Tryz.results44 _ _ (w.heap.size + 1 + 1) 34 _ (0, 0) _ rfl ZF.Z Tryz.underlying34 rfl (by kernel_rfl)
    | false =>
      rw [if_neg (by decide)]
      clear t1 t2 t7 t8 t9 h1 h2 h7 h8 h9
      rcases hq with rfl | rfl | rfl
      · have hbc : Below w.heap.size w (w.alloc (.cells (ccM c) 24)) := (Below.refl _ _).alloc (Nat.le_refl _) _
        have hszc : (w.alloc (.cells (ccM c) 24)).heap.size = w.heap.size + 1 := by simp
        have T0 := Two.startAt hbc s
        rw [hszc] at T0
        have AQ := (A.mono (Q := fun b => P b ∧ b ≠ w.heap.size + 1 ∧ b ≠ w.heap.size + 1 + 1) (fun b hb q => ⟨q, by omega, by omega⟩)).keep T0.below
        obtain ⟨v0, hv0⟩ : ∃ u, u = ((w.alloc (.cells (ccM c) 24)).alloc (.cells (wc s) 34)).alloc (.cells (wc wz) 34) := ⟨_, rfl⟩
        rw [← hv0] at T0 AQ
        have x0 := T0.X.cells
        have z0 := T0.X.frozen
        have C0 : Bk v0 w.heap.size (ccM c) 24 := by rw [hv0]; exact ((Bk.new w (ccM c) 24).alloc _).alloc _
        have lt9 := T0.lt
        have HG := Lib.hid (eGood c hf t0 ht v0)
        rw [hgd] at HG
        unfold LvRet at HG
        go_enter Tryz.func44, Tryz.ntmps44
        go_wp2_with (first | ((with_reducible refine wpList_alloc_wz rfl rfl ?_); rw [← hv0]; clear hv0) | (refine wpList_load_row rfl 24 _ rfl w.heap.size rfl _ (ccM c) (0, 0) _ (by exact C0) Tryz.underlying24 rfl (by kernel_rfl) ?_))
        refine HG.out.mono ?_
        rintro en w5 ⟨rfl, hb5⟩
        have T5 := T0.keep hb5
        have A5 := AQ.keep hb5
        have l6 := T5.below.size
        have l7 := hb5.size
        have HP' : ∀ b, w5.heap.size ≤ b → (P b ∧ b ≠ w.heap.size + 1 ∧ b ≠ w.heap.size + 1 + 1) := fun b hb => ⟨hP b (by omega), by omega, by omega⟩
        have HC := Lib.hid (fEnd HP' A5 8)
        clear C0 x0 z0
        go_wp2_with (first | (refine wpList_load_row rfl 34 _ rfl (w.heap.size + 1) rfl _ (wc s) (0, 0) _ (by exact T5.X) Tryz.underlying34 rfl (by kernel_rfl) ?_))
        refine HC.out.mono ?_
        rintro e w9 ⟨s9, rfl, A9, hb9⟩
        have T9 := T5.keep hb9
        go_wp2_with (first | (refine wpList_store_row rfl 34 _ _ rfl (w.heap.size + 1 + 1) (wc s9) rfl rfl _ _ (by exact T9.Z) (by kernel_rfl) (by kernel_rfl) (by kernel_rfl) ?_))
        have ZF := T9.rowZ s9
        refine bodyPost_ret (v := wv s9) ?_ rfl ⟨s9, rfl, ((A9.row (g := w.heap.size + 1 + 1) (fun q => q.2.2 rfl) _).mono (fun b _ q => q.1)), ZF.below⟩
        exact results_cell_row (p := 4) (ty := 34) Tryz.results44 _ _ (w.heap.size + 1 + 1) 34 _ (0, 0) _ rfl ZF.Z Tryz.underlying34 rfl (by kernel_rfl)
      · have hbc : Below w.heap.size w (w.alloc (.cells (ccM c) 24)) := (Below.refl _ _).alloc (Nat.le_refl _) _
        have hszc : (w.alloc (.cells (ccM c) 24)).heap.size = w.heap.size + 1 := by simp
        have T0 := Two.startAt hbc s
        rw [hszc] at T0
        have AQ := (A.mono (Q := fun b => P b ∧ b ≠ w.heap.size + 1 ∧ b ≠ w.heap.size + 1 + 1) (fun b hb q => ⟨q, by omega, by omega⟩)).keep T0.below
        obtain ⟨v0, hv0⟩ : ∃ u, u = ((w.alloc (.cells (ccM c) 24)).alloc (.cells (wc s) 34)).alloc (.cells (wc wz) 34) := ⟨_, rfl⟩
        rw [← hv0] at T0 AQ
        have x0 := T0.X.cells
        have z0 := T0.X.frozen
        have C0 : Bk v0 w.heap.size (ccM c) 24 := by rw [hv0]; exact ((Bk.new w (ccM c) 24).alloc _).alloc _
        have lt9 := T0.lt
        have HG := Lib.hid (eGood c hf t0 ht v0)
        rw [hgd] at HG
        unfold LvRet at HG
        go_enter Tryz.func44, Tryz.ntmps44
        go_wp2_with (first | ((with_reducible refine wpList_alloc_wz rfl rfl ?_); rw [← hv0]; clear hv0) | (refine wpList_load_row rfl 24 _ rfl w.heap.size rfl _ (ccM c) (0, 0) _ (by exact C0) Tryz.underlying24 rfl (by kernel_rfl) ?_))
        refine HG.out.mono ?_
        rintro en w5 ⟨rfl, hb5⟩
        have T5 := T0.keep hb5
        have A5 := AQ.keep hb5
        have l6 := T5.below.size
        have l7 := hb5.size
        have HP' : ∀ b, w5.heap.size ≤ b → (P b ∧ b ≠ w.heap.size + 1 ∧ b ≠ w.heap.size + 1 + 1) := fun b hb => ⟨hP b (by omega), by omega, by omega⟩
        have HC := Lib.hid (fEnd HP' A5 8)
        clear C0 x0 z0
        go_wp2_with (first | (refine wpList_load_row rfl 34 _ rfl (w.heap.size + 1) rfl _ (wc s) (0, 0) _ (by exact T5.X) Tryz.underlying34 rfl (by kernel_rfl) ?_))
        refine HC.out.mono ?_
        rintro e w9 ⟨s9, rfl, A9, hb9⟩
        have T9 := T5.keep hb9
        go_wp2_with (first | (refine wpList_store_row rfl 34 _ _ rfl (w.heap.size + 1 + 1) (wc s9) rfl rfl _ _ (by exact T9.Z) (by kernel_rfl) (by kernel_rfl) (by kernel_rfl) ?_))
        have ZF := T9.rowZ s9
        refine bodyPost_ret (v := wv s9) ?_ rfl ⟨s9, rfl, ((A9.row (g := w.heap.size + 1 + 1) (fun q => q.2.2 rfl) _).mono (fun b _ q => q.1)), ZF.below⟩
        exact results_cell_row (p := 4) (ty := 34) Tryz.results44 _ _ (w.heap.size + 1 + 1) 34 _ (0, 0) _ rfl ZF.Z Tryz.underlying34 rfl (by kernel_rfl)
      · have hbc : Below w.heap.size w (w.alloc (.cells (ccM c) 24)) := (Below.refl _ _).alloc (Nat.le_refl _) _
        have hszc : (w.alloc (.cells (ccM c) 24)).heap.size = w.heap.size + 1 := by simp
        have T0 := Two.startAt hbc s
        rw [hszc] at T0
        have AQ := (A.mono (Q := fun b => P b ∧ b ≠ w.heap.size + 1 ∧ b ≠ w.heap.size + 1 + 1) (fun b hb q => ⟨q, by omega, by omega⟩)).keep T0.below
        obtain ⟨v0, hv0⟩ : ∃ u, u = ((w.alloc (.cells (ccM c) 24)).alloc (.cells (wc s) 34)).alloc (.cells (wc wz) 34) := ⟨_, rfl⟩
        rw [← hv0] at T0 AQ
        have x0 := T0.X.cells
        have z0 := T0.X.frozen
        have C0 : Bk v0 w.heap.size (ccM c) 24 := by rw [hv0]; exact ((Bk.new w (ccM c) 24).alloc _).alloc _
        have lt9 := T0.lt
        have HG := Lib.hid (eGood c hf t0 ht v0)
        rw [hgd] at HG
        unfold LvRet at HG
        go_enter Tryz.func44, Tryz.ntmps44
        go_wp2_with (first | ((with_reducible refine wpList_alloc_wz rfl rfl ?_); rw [← hv0]; clear hv0) | (refine wpList_load_row rfl 24 _ rfl w.heap.size rfl _ (ccM c) (0, 0) _ (by exact C0) Tryz.underlying24 rfl (by kernel_rfl) ?_))
        refine HG.out.mono ?_
        rintro en w5 ⟨rfl, hb5⟩
        have T5 := T0.keep hb5
        have A5 := AQ.keep hb5
        have l6 := T5.below.size
        have l7 := hb5.size
        have HP' : ∀ b, w5.heap.size ≤ b → (P b ∧ b ≠ w.heap.size + 1 ∧ b ≠ w.heap.size + 1 + 1) := fun b hb => ⟨hP b (by omega), by omega, by omega⟩
        have HC := Lib.hid (fEnd HP' A5 8)
        clear C0 x0 z0
        go_wp2_with (first | (refine wpList_load_row rfl 34 _ rfl (w.heap.size + 1) rfl _ (wc s) (0, 0) _ (by exact T5.X) Tryz.underlying34 rfl (by kernel_rfl) ?_))
        refine HC.out.mono ?_
        rintro e w9 ⟨s9, rfl, A9, hb9⟩
        have T9 := T5.keep hb9
        go_wp2_with (first | (refine wpList_store_row rfl 34 _ _ rfl (w.heap.size + 1 + 1) (wc s9) rfl rfl _ _ (by exact T9.Z) (by kernel_rfl) (by kernel_rfl) (by kernel_rfl) ?_))
        have ZF := T9.rowZ s9
        refine bodyPost_ret (v := wv s9) ?_ rfl ⟨s9, rfl, ((A9.row (g := w.heap.size + 1 + 1) (fun q => q.2.2 rfl) _).mono (fun b _ q => q.1)), ZF.below⟩
        exact results_cell_row (p := 4) (ty := 34) Tryz.results44 _ _ (w.heap.size + 1 + 1) 34 _ (0, 0) _ rfl ZF.Z Tryz.underlying34 rfl (by kernel_rfl)
  rw [if_neg hq]
  have t4 : (k0 == 4) = false := by simp; omega
  have t5 : (k0 == 5) = false := by simp; omega
  have t6 : (k0 == 6) = false := by simp; omega
  clear hq h1 h2 h7 h8 h9
  by_cases h3 : k0 = 3
  · subst h3
    rw [if_pos rfl]
    have hbc : Below w.heap.size w (w.alloc (.cells (ccM c) 24)) := (Below.refl _ _).alloc (Nat.le_refl _) _
    have hszc : (w.alloc (.cells (ccM c) 24)).heap.size = w.heap.size + 1 := by simp
    have T0 := Two.startAt hbc s
    rw [hszc] at T0
    have AQ := (A.mono (Q := fun b => P b ∧ b ≠ w.heap.size + 1 ∧ b ≠ w.heap.size + 1 + 1) (fun b hb q => ⟨q, by omega, by omega⟩)).keep T0.below
    obtain ⟨v0, hv0⟩ : ∃ u, u = ((w.alloc (.cells (ccM c) 24)).alloc (.cells (wc s) 34)).alloc (.cells (wc wz) 34) := ⟨_, rfl⟩
    rw [← hv0] at T0 AQ
    have x0 := T0.X.cells
    have z0 := T0.X.frozen
    have HP' : ∀ b, w.heap.size + 1 + 1 + 1 ≤ b → (P b ∧ b ≠ w.heap.size + 1 ∧ b ≠ w.heap.size + 1 + 1) := fun b hb => ⟨hP b (by omega), by omega, by omega⟩
    have lt9 := T0.lt
    have HC := Lib.hid (fEnter (P := fun b => P b ∧ b ≠ w.heap.size + 1 ∧ b ≠ w.heap.size + 1 + 1) (fun b hb => HP' b (by omega)) AQ hx)
    go_enter Tryz.func44, Tryz.ntmps44
    go_wp2_with (first | ((with_reducible refine wpList_alloc_wz rfl rfl ?_); rw [← hv0]; clear hv0) | (refine wpList_load_row rfl 34 _ rfl (w.heap.size + 1) rfl _ (wc s) (0, 0) _ (by exact T0.X) Tryz.underlying34 rfl (by kernel_rfl) ?_))
    refine HC.out.mono ?_
    rintro e w9 ⟨s9, rfl, A9, hb9⟩
    have T9 := T0.keep hb9
    go_wp2_with (first | (refine wpList_store_row rfl 34 _ _ rfl (w.heap.size + 1 + 1) (wc s9) rfl rfl _ _ (by exact T9.Z) (by kernel_rfl) (by kernel_rfl) (by kernel_rfl) ?_))
    have ZF := T9.rowZ s9
    refine bodyPost_ret (v := wv s9) ?_ rfl ⟨s9, rfl, ((A9.row (g := w.heap.size + 1 + 1) (fun q => q.2.2 rfl) _).mono (fun b _ q => q.1)), ZF.below⟩
    exact results_cell_row (p := 4) (ty := 34) Tryz.results44 _ _ (w.heap.size + 1 + 1) 34 _ (0, 0) _ rfl ZF.Z Tryz.underlying34 rfl (by kernel_rfl)
  rw [if_neg h3]
  have t3 : (k0 == 3) = false := by simp [h3]
  clear h3
  have hbc : Below w.heap.size w (w.alloc (.cells (ccM c) 24)) := (Below.refl _ _).alloc (Nat.le_refl _) _
  have hszc : (w.alloc (.cells (ccM c) 24)).heap.size = w.heap.size + 1 := by simp
  have T0 := Two.startAt hbc s
  rw [hszc] at T0
  have AQ := (A.mono (Q := fun b => P b ∧ b ≠ w.heap.size + 1 ∧ b ≠ w.heap.size + 1 + 1) (fun b hb q => ⟨q, by omega, by omega⟩)).keep T0.below
  obtain ⟨v0, hv0⟩ : ∃ u, u = ((w.alloc (.cells (ccM c) 24)).alloc (.cells (wc s) 34)).alloc (.cells (wc wz) 34) := ⟨_, rfl⟩
  rw [← hv0] at T0 AQ
  have x0 := T0.X.cells
  have z0 := T0.X.frozen
  have HP' : ∀ b, w.heap.size + 1 + 1 + 1 ≤ b → (P b ∧ b ≠ w.heap.size + 1 ∧ b ≠ w.heap.size + 1 + 1) := fun b hb => ⟨hP b (by omega), by omega, by omega⟩
  have lt9 := T0.lt
  have HC := Lib.hid (fEnd (P := fun b => P b ∧ b ≠ w.heap.size + 1 ∧ b ≠ w.heap.size + 1 + 1) (fun b hb => HP' b (by omega)) AQ 3)
  go_enter Tryz.func44, Tryz.ntmps44
  go_wp2_with (first | ((with_reducible refine wpList_alloc_wz rfl rfl ?_); rw [← hv0]; clear hv0) | (refine wpList_load_row rfl 34 _ rfl (w.heap.size + 1) rfl _ (wc s) (0, 0) _ (by exact T0.X) Tryz.underlying34 rfl (by kernel_rfl) ?_))
  refine HC.out.mono ?_
  rintro e w9 ⟨s9, rfl, A9, hb9⟩
  have T9 := T0.keep hb9
  go_wp2_with (first | (refine wpList_store_row rfl 34 _ _ rfl (w.heap.size + 1 + 1) (wc s9) rfl rfl _ _ (by exact T9.Z) (by kernel_rfl) (by kernel_rfl) (by kernel_rfl) ?_))
  have ZF := T9.rowZ s9
  refine bodyPost_ret (v := wv s9) ?_ rfl ⟨s9, rfl, ((A9.row (g := w.heap.size + 1 + 1) (fun q => q.2.2 rfl) _).mono (fun b _ q => q.1)), ZF.below⟩
  exact results_cell_row (p := 4) (ty := 34) Tryz.results44 _ _ (w.heap.size + 1 + 1) 34 _ (0, 0) _ rfl ZF.Z Tryz.underlying34 rfl (by kernel_rfl)
end Go.Proofs.YtgpdkagmacpghaaGreat.Me

/- work.Begin and the reference's, for every operation (made by genbegin2.py). -/
namespace Go.Proofs.YtgpdkagmacpghaaGreat.Me
open Go Go.RowKit Go.ChangeMaps Go.Proofs.YtgpdkagmacpghaaGreat.Gro Go.Proofs.YtgpdkagmacpghaaGreat.Own Go.Proofs.YtgpdkagmacpghaaGreat.Wd Go.Proofs.YtgpdkagmacpghaaGreat.Ap Go.Proofs.YtgpdkagmacpghaaGreat.Pl Go.Proofs.YtgpdkagmacpghaaGreat.Wo Go.Proofs.YtgpdkagmacpghaaGreat.Mr
set_option linter.unusedVariables false
set_option linter.unusedSimpArgs false
/-- A state with another operation, the rest of the operation's fields at their start. -/
def freshS (x : St) (ok oa ob oc : Int) (od : Bool) (oe of tv : Int) : St := { x with p := { x.p with o0 := ok, o1 := oa, o2 := ob, o3 := oc, o4 := od, o5 := oe, o6 := of, t := if asksB ok = true then tv else 0, rt := 0, gv := false, b := 0, k := 0, i := 0, c := 0, j := 0 }, rd := [] }
def beginS (c : Cfg) (x : St) (ok oa ob oc : Int) (od : Bool) (oe of tv : Int) : St := startS c (freshS x ok oa ob oc od oe of tv)
set_option maxRecDepth 100000 in
set_option maxHeartbeats 8000000 in
theorem rTo {P : Nat → Prop} {w : World} {s : Wk} {x : St} (hP : ∀ b, w.heap.size ≤ b → P b) (A : LiesP P w s x) (l : Int) :
    Calls Tryz.prog 47 #[wv s, .int .i64 l] w (FW P w (atS x l)) := by
  have f0 : ∀ s : Wk, (wc s)[0]? = some (.int .i64 s.p.ln) := fun _ => rfl
  have T0 := Two.start w s
  have AQ := (A.mono (Q := fun b => P b ∧ b ≠ w.heap.size ∧ b ≠ w.heap.size + 1) (fun b hb q => ⟨q, by omega, by omega⟩)).keep T0.below
  obtain ⟨v0, hv0⟩ : ∃ u, u = (w.alloc (.cells (wc s) 34)).alloc (.cells (wc wz) 34) := ⟨_, rfl⟩
  rw [← hv0] at T0 AQ
  have x0 := T0.X.cells
  have z0 := T0.X.frozen
  have e101 := by have h := T0.X.cells 0; exact congrArg Option.isSome (h.trans (f0 _))
  simp only [Option.isSome_some] at e101
  have T1 := T0.setX 0 (.int .i64 l) ({ s with p := { s.p with ln := l } } : Wk) rfl
  have AQ10 := AQ.cell (g := w.heap.size) (fun q => q.2.1 rfl) 0 (.int .i64 l)
  have lt9 := T1.lt
  go_enter Tryz.func47, Tryz.ntmps47
  go_wp2_with (first | ((with_reducible refine wpList_alloc_wz rfl rfl ?_); rw [← hv0]; clear hv0) | (refine wpList_load_row rfl 34 _ rfl (w.heap.size) rfl _ (wc ({ s with p := { s.p with ln := l } } : Wk)) (0, 0) _ (by exact T1.X) Tryz.underlying34 rfl (by kernel_rfl) ?_) | (refine wpList_store_row rfl 34 _ _ rfl (w.heap.size + 1) (wc ({ s with p := { s.p with ln := l } } : Wk)) rfl rfl _ _ (by exact T1.Z) (by kernel_rfl) (by kernel_rfl) (by kernel_rfl) ?_))
  have ZF := T1.rowZ ({ s with p := { s.p with ln := l } } : Wk)
  refine bodyPost_ret (v := wv ({ s with p := { s.p with ln := l } } : Wk)) ?_ rfl ⟨_, rfl, (((AQ10.pl (p := { s.p with ln := l }) (p' := { x.p with ln := l }) (by rw [AQ10.p])).row (g := w.heap.size + 1) (fun q => q.2.2 rfl) _).mono (fun b _ q => q.1)), ZF.below⟩
  exact results_cell_row (p := 4) (ty := 34) Tryz.results47 _ _ (w.heap.size + 1) 34 _ (0, 0) _ rfl ZF.Z Tryz.underlying34 rfl (by kernel_rfl)
set_option maxRecDepth 100000 in
set_option maxHeartbeats 8000000 in
theorem rOver {P : Nat → Prop} {w : World} {s : Wk} {x : St} (hP : ∀ b, w.heap.size ≤ b → P b) (A : LiesP P w s x) (r : Int) :
    Calls Tryz.prog 46 #[wv s, .int .i64 r] w (FW P w (endS x r)) := by
  have f31 : ∀ s : Wk, (wc s)[31]? = some (.int .i64 s.p.rt) := fun _ => rfl
  have f0 : ∀ s : Wk, (wc s)[0]? = some (.int .i64 s.p.ln) := fun _ => rfl
  have T0 := Two.start w s
  have AQ := (A.mono (Q := fun b => P b ∧ b ≠ w.heap.size ∧ b ≠ w.heap.size + 1) (fun b hb q => ⟨q, by omega, by omega⟩)).keep T0.below
  obtain ⟨v0, hv0⟩ : ∃ u, u = (w.alloc (.cells (wc s) 34)).alloc (.cells (wc wz) 34) := ⟨_, rfl⟩
  rw [← hv0] at T0 AQ
  have x0 := T0.X.cells
  have z0 := T0.X.frozen
  have e101 := by have h := T0.X.cells 31; exact congrArg Option.isSome (h.trans (f31 _))
  simp only [Option.isSome_some] at e101
  have T1 := T0.setX 31 (.int .i64 r) ({ s with p := { s.p with rt := r } } : Wk) rfl
  have AQ10 := AQ.cell (g := w.heap.size) (fun q => q.2.1 rfl) 31 (.int .i64 r)
  have e102 := by have h := T1.X.cells 0; exact congrArg Option.isSome (h.trans (f0 _))
  simp only [Option.isSome_some] at e102
  have T2 := T1.setX 0 (.int .i64 0) ({ s with p := { s.p with rt := r, ln := 0 } } : Wk) rfl
  have AQ20 := AQ10.cell (g := w.heap.size) (fun q => q.2.1 rfl) 0 (.int .i64 0)
  have lt9 := T2.lt
  go_enter Tryz.func46, Tryz.ntmps46
  go_wp2_with (first | ((with_reducible refine wpList_alloc_wz rfl rfl ?_); rw [← hv0]; clear hv0) | (refine wpList_load_row rfl 34 _ rfl (w.heap.size) rfl _ (wc ({ s with p := { s.p with rt := r, ln := 0 } } : Wk)) (0, 0) _ (by exact T2.X) Tryz.underlying34 rfl (by kernel_rfl) ?_) | (refine wpList_store_row rfl 34 _ _ rfl (w.heap.size + 1) (wc ({ s with p := { s.p with rt := r, ln := 0 } } : Wk)) rfl rfl _ _ (by exact T2.Z) (by kernel_rfl) (by kernel_rfl) (by kernel_rfl) ?_))
  have ZF := T2.rowZ ({ s with p := { s.p with rt := r, ln := 0 } } : Wk)
  refine bodyPost_ret (v := wv ({ s with p := { s.p with rt := r, ln := 0 } } : Wk)) ?_ rfl ⟨_, rfl, (((AQ20.pl (p := { s.p with rt := r, ln := 0 }) (p' := { x.p with rt := r, ln := 0 }) (by rw [AQ20.p])).row (g := w.heap.size + 1) (fun q => q.2.2 rfl) _).mono (fun b _ q => q.1)), ZF.below⟩
  exact results_cell_row (p := 4) (ty := 34) Tryz.results46 _ _ (w.heap.size + 1) 34 _ (0, 0) _ rfl ZF.Z Tryz.underlying34 rfl (by kernel_rfl)
set_option maxRecDepth 100000 in
set_option maxHeartbeats 8000000 in
theorem rAsks (ok oa ob oc : Int) (od : Bool) (oe of : Int) (w : World) : Calls Tryz.prog 45 #[opV ok oa ob oc od oe of] w fun en w' => en = .returned (.bool (asksB ok)) ∧ Below w.heap.size w w' := by
  have hb0 : Below w.heap.size w (w.alloc (.cells #[.int .i64 ok, .int .u64 oa, .int .u64 ob, .int .i64 oc, .bool od, .int .i64 oe, .int .i64 of] 26)) := (Below.refl _ _).alloc (Nat.le_refl _) _
  by_cases h1 : 4 ≤ ok
  · have u1 : decide (4 ≤ ok) = true := by simp [h1]
    by_cases h2 : ok ≤ 6
    · have u2 : decide (ok ≤ 6) = true := by simp [h2]
      have e : asksB ok = true := by unfold asksB; simp; omega
      rw [e]
      clear e h1 h2
      go_enter Tryz.func45, Tryz.ntmps45
      go_wp2
      go_ret
      exact ⟨rfl, hb0⟩
    · have u2 : decide (ok ≤ 6) = false := by simp; omega
      have e : asksB ok = false := by unfold asksB; simp; omega
      rw [e]
      clear e h1 h2
      go_enter Tryz.func45, Tryz.ntmps45
      go_wp2
      go_ret
      exact ⟨rfl, hb0⟩
  · have u1 : decide (4 ≤ ok) = false := by simp; omega
    have e : asksB ok = false := by unfold asksB; simp; omega
    rw [e]
    clear e h1
    go_enter Tryz.func45, Tryz.ntmps45
    go_wp2
    go_ret
    exact ⟨rfl, hb0⟩
set_option maxRecDepth 100000 in
set_option maxHeartbeats 8000000 in
theorem rShares (ok oa ob oc : Int) (od : Bool) (oe of : Int) (w : World) : Calls Tryz.prog 48 #[opV ok oa ob oc od oe of] w fun en w' => en = .returned (.bool (sharesB ok)) ∧ Below w.heap.size w w' := by
  have hb0 : Below w.heap.size w (w.alloc (.cells #[.int .i64 ok, .int .u64 oa, .int .u64 ob, .int .i64 oc, .bool od, .int .i64 oe, .int .i64 of] 26)) := (Below.refl _ _).alloc (Nat.le_refl _) _
  by_cases h1 : 3 ≤ ok
  · have u1 : decide (3 ≤ ok) = true := by simp [h1]
    by_cases h2 : ok ≤ 6
    · have u2 : decide (ok ≤ 6) = true := by simp [h2]
      have e : sharesB ok = true := by unfold sharesB; simp; omega
      rw [e]
      clear e h1 h2
      go_enter Tryz.func48, Tryz.ntmps48
      go_wp2
      go_ret
      exact ⟨rfl, hb0⟩
    · have u2 : decide (ok ≤ 6) = false := by simp; omega
      have e : sharesB ok = false := by unfold sharesB; simp; omega
      rw [e]
      clear e h1 h2
      go_enter Tryz.func48, Tryz.ntmps48
      go_wp2
      go_ret
      exact ⟨rfl, hb0⟩
  · have u1 : decide (3 ≤ ok) = false := by simp; omega
    have e : sharesB ok = false := by unfold sharesB; simp; omega
    rw [e]
    clear e h1
    go_enter Tryz.func48, Tryz.ntmps48
    go_wp2
    go_ret
    exact ⟨rfl, hb0⟩
set_option maxRecDepth 10000 in
set_option maxHeartbeats 1000000 in
theorem refTakeP_no (s : Wk) (x : St) (w : World) {P : Nat → Prop} (hP : ∀ b, w.heap.size ≤ b → P b) (A : LiesP P w s x) (hm : x.rk = []) :
    Calls Tryz.prog 111 #[wv s] w fun e w' => ∃ s', e = .returned (.tuple #[wv s', .int .i64 (-1)]) ∧ LiesP P w' s' x ∧ Below w.heap.size w w' := by
  have h := A.lies
  have e10 : ∀ s : Wk, (wc s)[10]? = some (.slice s.rk.ad s.rk.len s.rk.cap) := fun _ => rfl
  have hlen := reads_len h.rk
  rw [hm] at hlen
  obtain ⟨p', rk', l0', l1', l2', hl', rd'⟩ := s
  obtain ⟨ad, ln, cp⟩ := rk'
  simp only [List.length_nil] at hlen
  subst hlen
  have T0 := Two.start w ⟨p', ⟨ad, 0, cp⟩, l0', l1', l2', hl', rd'⟩
  go_enter Tryz.func111, Tryz.ntmps111
  go_wp2_with (first | (refine wpList_load_row rfl 34 _ rfl (w.heap.size) rfl _ (wc ⟨p', ⟨ad, 0, cp⟩, l0', l1', l2', hl', rd'⟩) (0, 0) _ (by exact T0.X) Tryz.underlying34 rfl (by kernel_rfl) ?_) | (refine wpList_store_row rfl 34 _ _ rfl (w.heap.size + 1) (wc ⟨p', ⟨ad, 0, cp⟩, l0', l1', l2', hl', rd'⟩) rfl rfl _ _ (by exact T0.Z) (by kernel_rfl) (by kernel_rfl) (by kernel_rfl) ?_))
  have T5 := T0.rowZ ⟨p', ⟨ad, 0, cp⟩, l0', l1', l2', hl', rd'⟩
  refine bodyPost_ret (v := .tuple #[wv ⟨p', ⟨ad, 0, cp⟩, l0', l1', l2', hl', rd'⟩, .int .i64 (-1)]) ?_ rfl ⟨_, rfl, A.keep T5.below, T5.below⟩
  exact Rw.results_cell_slot (p := 2) (q := 3) (ty := 34) Tryz.results111 _ _ (w.heap.size + 1) 34 _ (0, 0) _ rfl T5.Z Tryz.underlying34 rfl (by kernel_rfl)
set_option maxRecDepth 100000 in
set_option maxHeartbeats 1000000 in
theorem refTakeP_yes (s : Wk) (x : St) (hx : Few 900 x) (w : World) {P : Nat → Prop} (hP : ∀ b, w.heap.size ≤ b → P b) (A : LiesP P w s x) (n : Nat) (hn : x.rk.length = n + 1) :
    Calls Tryz.prog 111 #[wv s] w fun e w' => ∃ s', e = .returned (.tuple #[wv s', .int .i64 (takeB x)]) ∧ LiesP P w' s' (takeS x) ∧ Below w.heap.size w w' := by
  have h := A.lies
  have e10 : ∀ s : Wk, (wc s)[10]? = some (.slice s.rk.ad s.rk.len s.rk.cap) := fun _ => rfl
  obtain ⟨bk, off, had, _, hc⟩ := reads_at h.rk (i := n) (by omega)
  have hlen := reads_len h.rk
  have hle := reads_le h.rk
  have hxr := hx.rk
  obtain ⟨p', rk', l0', l1', l2', hl', rd'⟩ := s
  obtain ⟨ad, ln, cp⟩ := rk'
  simp only at hlen hle had
  obtain rfl : ln = n + 1 := by omega
  subst had
  skip
  have hbk := reads_lt h.rk (by omega)
  unfold maxLen at hle
  have hle1 := hle.1
  have hle2 := hle.2
  clear hlen hle
  have HVAL : RowKit.Hid (takeB x = x.rk[n]) := Lib.hid (by exact takeB_eq x n hn)
  have T0 := Two.start w ⟨p', ⟨some ⟨bk, off, none⟩, n + 1, cp⟩, l0', l1', l2', hl', rd'⟩
  have hr0 := reads_take (h.keep T0.below).rk
  have hc0 := (Below.cell (p := ⟨bk, off + n, none⟩) T0.below hbk).trans hc
  have hgx : bk ≠ w.heap.size := by omega
  have HL : RowKit.Hid ([] ++ x.rk.take n = (takeS x).rk) := Lib.hid (by simp [takeS, List.dropLast_eq_take, hn])
  have HLL : RowKit.Hid ((x.rk.take n).length = n) := Lib.hid (by simp [hn])
  have HN := Lib.hid hn
  clear hc0
  go_enter Tryz.func111, Tryz.ntmps111
  go_wp2_with (first | (at_builtin; (refine append_any (k := .i64) elemI rfl (.tmp 18) (.tmp 25) rfl (w.heap.size + 2) _ (0) ([]) rfl ?p1a _ (x.rk.take n) rfl ?p1b ?p1c ?p1d ?p1e; (case p1a => exact empty_row (by simp)); (case p1b => exact hr0.keep ((Below.refl _ _).alloc (Nat.le_refl _) _)); (case p1c => (have h9 := HLL.out; omega)); (case p1d => (first | (simp; done) | (simp; omega))); intro y2 v2 q2 hb2; have c1 := below_lit (by simp) hb2; have T1 := T0.keep c1; have l2 := T1.X.lt; have x2 := T1.X.cells; have z2 := T1.X.frozen; have T4 := T1.setX 10 y2.v ⟨p', y2, l0', l1', l2', hl', rd'⟩ (set_rk _ _))) | (refine wpList_load_row rfl 34 _ rfl (w.heap.size) rfl _ (wc ⟨p', y2, l0', l1', l2', hl', rd'⟩) (0, 0) _ (by exact T4.X) Tryz.underlying34 rfl (by kernel_rfl) ?_) | (refine wpList_store_row rfl 34 _ _ rfl (w.heap.size + 1) (wc ⟨p', y2, l0', l1', l2', hl', rd'⟩) rfl rfl _ _ (by exact T4.Z) (by kernel_rfl) (by kernel_rfl) (by kernel_rfl) ?_))
  have T5 := T4.rowZ ⟨p', y2, l0', l1', l2', hl', rd'⟩
  refine bodyPost_ret (v := .tuple #[wv ⟨p', y2, l0', l1', l2', hl', rd'⟩, .int .i64 (x.rk[n]'(by have := HN.out; omega))]) ?_ rfl ⟨_, by rw [HVAL.out], ?_, T5.below⟩
  · exact Rw.results_cell_slot (p := 2) (q := 3) (ty := 34) Tryz.results111 _ _ (w.heap.size + 1) 34 _ (0, 0) _ rfl T5.Z Tryz.underlying34 rfl (by kernel_rfl)
  · have ak := A.keep T5.below
    have Y : Owned (w.heap.size + 2) _ .i64 3 y2 (takeS x).rk := Owned.setRow (g := w.heap.size + 1) (Owned.setCell (g := w.heap.size) (owned_of (l := (takeS x).rk) q2 HL.out (by rw [← HL.out]; simp)) (by omega) 10 y2.v) (by omega) (wc ⟨p', y2, l0', l1', l2', hl', rd'⟩)
    exact ⟨ak.p, ⟨Y.reads, Y.rdF.2.imp_right fun q d hd => hP _ (by have := q d hd; omega)⟩, ak.l0, ak.l1, ak.l2, ak.hl, ak.rd⟩
theorem refTakeP (s : Wk) (x : St) (hx : Few 900 x) (w : World) {P : Nat → Prop} (hP : ∀ b, w.heap.size ≤ b → P b) (A : LiesP P w s x) :
    Calls Tryz.prog 111 #[wv s] w fun e w' => ∃ s', e = .returned (.tuple #[wv s', .int .i64 (takeB x)]) ∧ LiesP P w' s' (takeS x) ∧ Below w.heap.size w w' := by
  by_cases hm : x.rk = []
  · have e1 : takeB x = -1 := by simp [takeB, hm]
    have e2 : takeS x = x := by obtain ⟨p, rk, l0, l1, l2, hl, rd⟩ := x; simp only at hm; subst hm; rfl
    rw [e1, e2]; exact refTakeP_no s x w hP A hm
  · obtain ⟨n, hn⟩ : ∃ n, x.rk.length = n + 1 := ⟨x.rk.length - 1, by have := List.length_pos_iff.2 hm; omega⟩
    exact refTakeP_yes s x hx w hP A n hn
set_option maxRecDepth 100000 in
set_option maxHeartbeats 8000000 in
theorem rTake9 {P : Nat → Prop} {w : World} {s : Wk} {x : St} (hP : ∀ b, w.heap.size ≤ b → P b) (A : LiesP P w s x) (hx : Few 900 x) : Calls Tryz.prog 86 #[wv s] w (FW P w (tkS x)) := by
  have e10 : ∀ s : Wk, (wc s)[10]? = some (.slice s.rk.ad s.rk.len s.rk.cap) := fun _ => rfl
  have f0 : ∀ s : Wk, (wc s)[0]? = some (.int .i64 s.p.ln) := fun _ => rfl
  have f18 : ∀ s : Wk, (wc s)[18]? = some (.int .i64 s.p.b) := fun _ => rfl
  have T0 := Two.start w s
  have AQ := (A.mono (Q := fun b => P b ∧ b ≠ w.heap.size ∧ b ≠ w.heap.size + 1) (fun b hb q => ⟨q, by omega, by omega⟩)).keep T0.below
  obtain ⟨v0, hv0⟩ : ∃ u, u = (w.alloc (.cells (wc s) 34)).alloc (.cells (wc wz) 34) := ⟨_, rfl⟩
  rw [← hv0] at T0 AQ
  have hl := reads_len A.rk.1
  have l0 := T0.lt
  have l00 := T0.below.size
  unfold tkS
  by_cases hm : x.rk = []
  · rw [if_pos hm]
    have hz : (((s.rk.len : Nat) : Int) == 0) = true := by rw [hl, hm]; rfl
    clear hm hl
    have HN := Lib.hid (refTakeP s x hx _ (P := fun b => P b ∧ b ≠ w.heap.size ∧ b ≠ w.heap.size + 1) (fun b hb => ⟨hP b (by omega), by omega, by omega⟩) AQ)
    go_enter Tryz.func86, Tryz.ntmps86
    go_wp2_with (first | ((with_reducible refine wpList_alloc_wz rfl rfl ?_); rw [← hv0]; clear hv0) | (refine wpList_load_row rfl 34 _ rfl (w.heap.size) rfl _ (wc s) (0, 0) _ (by exact T0.X) Tryz.underlying34 rfl (by kernel_rfl) ?_))
    refine HN.out.mono ?_
    rintro e w1 ⟨s1, rfl, L1, hb1⟩
    have T1 := T0.keep hb1
    have A1 := AQ.keep hb1
    have hs1 := hb1.size
    have bb := boxed_below w1 s1
    have Y1 := boxed_bk w1 s1
    have Yz : Bk (w1.alloc (.cells (wc wz) 34)) w1.heap.size (wc wz) 34 := Bk.new _ _ _
    have T2 := T1.keep bb
    have A2 := A1.keep bb
    have L2 := (L1.mono (Q := fun b => (P b ∧ b ≠ w.heap.size ∧ b ≠ w.heap.size + 1) ∧ b ≠ w1.heap.size) (fun b hb q => ⟨q, by omega⟩)).keep bb
    obtain ⟨w2, hw2⟩ : ∃ u, u = (w1.alloc (.cells (wc wz) 34)).setRow w1.heap.size (wc s1) := ⟨_, rfl⟩
    have hs2 : w2.heap.size = w1.heap.size + 1 := by rw [hw2]; simp
    rw [← hw2] at Y1 T2 A2 L2
    clear HN T1 A1 bb L1
    have x2 := T2.X.cells
    have z2 := T2.X.frozen
    have e2 : (w2.cell? ⟨w.heap.size, 0, none⟩).isSome = true := by rw [x2, f0]; rfl
    have T3 := T2.setX 0 (.int .i64 10) ({ s with p := { s.p with ln := 10 } } : Wk) rfl
    have A3 := (A2.cell (g := w.heap.size) (fun q => q.2.1 rfl) 0 (.int .i64 10)).pl (p := { s.p with ln := 10 }) (p' := { x.p with ln := 10 }) (by rw [A2.p])
    go_wp2_with (first | ((with_reducible refine wpList_alloc_wz rfl rfl ?_)) | (refine wpList_store_row rfl 34 _ _ rfl (w1.heap.size) (wc s1) rfl rfl _ _ (by exact Yz) (by kernel_rfl) (by kernel_rfl) (by kernel_rfl) ?_; rw [← hw2]; clear hw2 Yz) | (refine wpList_load_row rfl 34 _ rfl (w.heap.size) rfl _ (wc ({ s with p := { s.p with ln := 10 } } : Wk)) (0, 0) _ (by exact T3.X) Tryz.underlying34 rfl (by kernel_rfl) ?_) | (refine wpList_store_row rfl 34 _ _ rfl (w.heap.size + 1) (wc ({ s with p := { s.p with ln := 10 } } : Wk)) rfl rfl _ _ (by exact T3.Z) (by kernel_rfl) (by kernel_rfl) (by kernel_rfl) ?_))
    have ZF := T3.rowZ ({ s with p := { s.p with ln := 10 } } : Wk)
    refine bodyPost_ret (v := wv ({ s with p := { s.p with ln := 10 } } : Wk)) ?_ rfl ⟨_, rfl, ((A3.row (g := w.heap.size + 1) (fun q => q.2.2 rfl) _).mono (fun b _ q => q.1)), ZF.below⟩
    exact results_cell_row (p := 2) (ty := 34) Tryz.results86 _ _ (w.heap.size + 1) 34 _ (0, 0) _ rfl ZF.Z Tryz.underlying34 rfl (by kernel_rfl)
  · rw [if_neg hm]
    have hpos := List.length_pos_iff.2 hm
    have hz : (((s.rk.len : Nat) : Int) == 0) = false := by rw [hl]; simp; omega
    obtain ⟨kk, hk⟩ : ∃ kk, kk = wrap64 (takeB x + 1) := ⟨_, rfl⟩
    have hk' : IntKind.i64.wrap (takeB x + 1) = kk := (IntWalk.i64_left _).trans hk.symm
    rw [← hk]
    clear hm hl hpos hk
    have HN := Lib.hid (refTakeP s x hx _ (P := fun b => P b ∧ b ≠ w.heap.size ∧ b ≠ w.heap.size + 1) (fun b hb => ⟨hP b (by omega), by omega, by omega⟩) AQ)
    go_enter Tryz.func86, Tryz.ntmps86
    go_wp2_with (first | ((with_reducible refine wpList_alloc_wz rfl rfl ?_); rw [← hv0]; clear hv0) | (refine wpList_load_row rfl 34 _ rfl (w.heap.size) rfl _ (wc s) (0, 0) _ (by exact T0.X) Tryz.underlying34 rfl (by kernel_rfl) ?_))
    refine HN.out.mono ?_
    rintro e w1 ⟨s1, rfl, L1, hb1⟩
    have T1 := T0.keep hb1
    have A1 := AQ.keep hb1
    have hs1 := hb1.size
    have bb := boxed_below w1 s1
    have Y1 := boxed_bk w1 s1
    have Yz : Bk (w1.alloc (.cells (wc wz) 34)) w1.heap.size (wc wz) 34 := Bk.new _ _ _
    have T2 := T1.keep bb
    have A2 := A1.keep bb
    have L2 := (L1.mono (Q := fun b => (P b ∧ b ≠ w.heap.size ∧ b ≠ w.heap.size + 1) ∧ b ≠ w1.heap.size) (fun b hb q => ⟨q, by omega⟩)).keep bb
    obtain ⟨w2, hw2⟩ : ∃ u, u = (w1.alloc (.cells (wc wz) 34)).setRow w1.heap.size (wc s1) := ⟨_, rfl⟩
    have hs2 : w2.heap.size = w1.heap.size + 1 := by rw [hw2]; simp
    rw [← hw2] at Y1 T2 A2 L2
    clear HN T1 A1 bb L1
    have x2 := T2.X.cells
    have y2 := Y1.cells
    have z2 := Y1.frozen
    have ly := Y1.lt
    have e2 : (w2.cell? ⟨w1.heap.size, 18, none⟩).isSome = true := by rw [y2, f18]; rfl
    have Y3' : Bk (w2.setCell ⟨w1.heap.size, 18, none⟩ (.int .i64 kk)) w1.heap.size (wc ({ s1 with p := { s1.p with b := kk } } : Wk)) 34 := Y1.setCell 18 (.int .i64 kk)
    have e3 : ((w2.setCell ⟨w1.heap.size, 18, none⟩ (.int .i64 kk)).cell? ⟨w1.heap.size, 0, none⟩).isSome = true := by rw [Y3'.cells, f0]; rfl
    have Y4 : Bk ((w2.setCell ⟨w1.heap.size, 18, none⟩ (.int .i64 kk)).setCell ⟨w1.heap.size, 0, none⟩ (.int .i64 35)) w1.heap.size (wc ({ s1 with p := { s1.p with b := kk, ln := 35 } } : Wk)) 34 := Y3'.setCell 0 (.int .i64 35)
    have Z4 := (T2.Z.setCell_far (a := ⟨w1.heap.size, 18, none⟩) (by simp; omega) (.int .i64 kk)).setCell_far (a := ⟨w1.heap.size, 0, none⟩) (by simp; omega) (.int .i64 35)
    have B4 := (T2.below.setCell (p := ⟨w1.heap.size, 18, none⟩) (by simp; omega) (.int .i64 kk)).setCell (p := ⟨w1.heap.size, 0, none⟩) (by simp; omega) (.int .i64 35)
    have L4 := (((L2.cell (g := w1.heap.size) (fun q => q.2 rfl) 18 (.int .i64 kk)).cell (g := w1.heap.size) (fun q => q.2 rfl) 0 (.int .i64 35))).pl (p := { s1.p with b := kk, ln := 35 }) (p' := { (takeS x).p with b := kk, ln := 35 }) (by rw [L2.p])
    go_wp2_with (first | ((with_reducible refine wpList_alloc_wz rfl rfl ?_)) | (refine wpList_store_row rfl 34 _ _ rfl (w1.heap.size) (wc s1) rfl rfl _ _ (by exact Yz) (by kernel_rfl) (by kernel_rfl) (by kernel_rfl) ?_; rw [← hw2]; clear hw2 Yz) | (refine wpList_load_row rfl 34 _ rfl (w1.heap.size) rfl _ (wc ({ s1 with p := { s1.p with b := kk, ln := 35 } } : Wk)) (0, 0) _ (by exact Y4) Tryz.underlying34 rfl (by kernel_rfl) ?_) | (refine wpList_store_row rfl 34 _ _ rfl (w.heap.size + 1) (wc ({ s1 with p := { s1.p with b := kk, ln := 35 } } : Wk)) rfl rfl _ _ (by exact Z4) (by kernel_rfl) (by kernel_rfl) (by kernel_rfl) ?_))
    have ZF := Z4.setRow (wc ({ s1 with p := { s1.p with b := kk, ln := 35 } } : Wk))
    refine bodyPost_ret (v := wv ({ s1 with p := { s1.p with b := kk, ln := 35 } } : Wk)) ?_ rfl ⟨_, rfl, ((L4.row (g := w.heap.size + 1) (fun q => q.1.2.2 rfl) _).mono (fun b _ q => q.1.1)), below_setRow B4 (by omega) _⟩
    exact results_cell_row (p := 2) (ty := 34) Tryz.results86 _ _ (w.heap.size + 1) 34 _ (0, 0) _ rfl ZF Tryz.underlying34 rfl (by kernel_rfl)
set_option maxRecDepth 100000 in
set_option maxHeartbeats 8000000 in
theorem rBody {P : Nat → Prop} {w : World} {s : Wk} {x : St} (hP : ∀ b, w.heap.size ≤ b → P b) (A : LiesP P w s x) (hx : Few 900 x) :
    Calls Tryz.prog 50 #[wv s] w (FW P w (bodyS x)) := by
  unfold bodyS
  obtain ⟨k0, hk0⟩ : ∃ k, x.p.o0 = k := ⟨_, rfl⟩
  rw [hk0]
  have q1 : (wc s)[1]? = some (.int .i64 k0) := by rw [show (wc s)[1]? = some (.int .i64 s.p.o0) from rfl, A.p, hk0]
  clear hk0
  by_cases h4 : k0 = 4
  · subst h4
    rw [if_pos rfl]
    have T0 := Two.start w s
    have AQ := (A.mono (Q := fun b => P b ∧ b ≠ w.heap.size ∧ b ≠ w.heap.size + 1) (fun b hb q => ⟨q, by omega, by omega⟩)).keep T0.below
    obtain ⟨v0, hv0⟩ : ∃ u, u = (w.alloc (.cells (wc s) 34)).alloc (.cells (wc wz) 34) := ⟨_, rfl⟩
    rw [← hv0] at T0 AQ
    have x0 := T0.X.cells
    have z0 := T0.X.frozen
    have HP' : ∀ b, w.heap.size + 1 + 1 ≤ b → (P b ∧ b ≠ w.heap.size ∧ b ≠ w.heap.size + 1) := fun b hb => ⟨hP b (by omega), by omega, by omega⟩
    have lt9 := T0.lt
    have HC := Lib.hid (rTo (P := fun b => P b ∧ b ≠ w.heap.size ∧ b ≠ w.heap.size + 1) (fun b hb => HP' b (by omega)) AQ 42)
    go_enter Tryz.func50, Tryz.ntmps50
    go_wp2_with (first | ((with_reducible refine wpList_alloc_wz rfl rfl ?_); rw [← hv0]; clear hv0) | (refine wpList_load_row rfl 34 _ rfl (w.heap.size) rfl _ (wc s) (0, 0) _ (by exact T0.X) Tryz.underlying34 rfl (by kernel_rfl) ?_))
    refine HC.out.mono ?_
    rintro e w9 ⟨s9, rfl, A9, hb9⟩
    have T9 := T0.keep hb9
    go_wp2_with (first | (refine wpList_store_row rfl 34 _ _ rfl (w.heap.size + 1) (wc s9) rfl rfl _ _ (by exact T9.Z) (by kernel_rfl) (by kernel_rfl) (by kernel_rfl) ?_))
    have ZF := T9.rowZ s9
    refine bodyPost_ret (v := wv s9) ?_ rfl ⟨s9, rfl, ((A9.row (g := w.heap.size + 1) (fun q => q.2.2 rfl) _).mono (fun b _ q => q.1)), ZF.below⟩
    exact results_cell_row (p := 2) (ty := 34) Tryz.results50 _ _ (w.heap.size + 1) 34 _ (0, 0) _ rfl ZF.Z Tryz.underlying34 rfl (by kernel_rfl)
  rw [if_neg h4]
  have t4 : (k0 == 4) = false := by simp [h4]
  by_cases h5 : k0 = 5
  · subst h5
    rw [if_pos rfl]
    have T0 := Two.start w s
    have AQ := (A.mono (Q := fun b => P b ∧ b ≠ w.heap.size ∧ b ≠ w.heap.size + 1) (fun b hb q => ⟨q, by omega, by omega⟩)).keep T0.below
    obtain ⟨v0, hv0⟩ : ∃ u, u = (w.alloc (.cells (wc s) 34)).alloc (.cells (wc wz) 34) := ⟨_, rfl⟩
    rw [← hv0] at T0 AQ
    have x0 := T0.X.cells
    have z0 := T0.X.frozen
    have HP' : ∀ b, w.heap.size + 1 + 1 ≤ b → (P b ∧ b ≠ w.heap.size ∧ b ≠ w.heap.size + 1) := fun b hb => ⟨hP b (by omega), by omega, by omega⟩
    have lt9 := T0.lt
    have HC := Lib.hid (rTo (P := fun b => P b ∧ b ≠ w.heap.size ∧ b ≠ w.heap.size + 1) (fun b hb => HP' b (by omega)) AQ 46)
    go_enter Tryz.func50, Tryz.ntmps50
    go_wp2_with (first | ((with_reducible refine wpList_alloc_wz rfl rfl ?_); rw [← hv0]; clear hv0) | (refine wpList_load_row rfl 34 _ rfl (w.heap.size) rfl _ (wc s) (0, 0) _ (by exact T0.X) Tryz.underlying34 rfl (by kernel_rfl) ?_))
    refine HC.out.mono ?_
    rintro e w9 ⟨s9, rfl, A9, hb9⟩
    have T9 := T0.keep hb9
    go_wp2_with (first | (refine wpList_store_row rfl 34 _ _ rfl (w.heap.size + 1) (wc s9) rfl rfl _ _ (by exact T9.Z) (by kernel_rfl) (by kernel_rfl) (by kernel_rfl) ?_))
    have ZF := T9.rowZ s9
    refine bodyPost_ret (v := wv s9) ?_ rfl ⟨s9, rfl, ((A9.row (g := w.heap.size + 1) (fun q => q.2.2 rfl) _).mono (fun b _ q => q.1)), ZF.below⟩
    exact results_cell_row (p := 2) (ty := 34) Tryz.results50 _ _ (w.heap.size + 1) 34 _ (0, 0) _ rfl ZF.Z Tryz.underlying34 rfl (by kernel_rfl)
  rw [if_neg h5]
  have t5 : (k0 == 5) = false := by simp [h5]
  by_cases h6 : k0 = 6
  · subst h6
    rw [if_pos rfl]
    have T0 := Two.start w s
    have AQ := (A.mono (Q := fun b => P b ∧ b ≠ w.heap.size ∧ b ≠ w.heap.size + 1) (fun b hb q => ⟨q, by omega, by omega⟩)).keep T0.below
    obtain ⟨v0, hv0⟩ : ∃ u, u = (w.alloc (.cells (wc s) 34)).alloc (.cells (wc wz) 34) := ⟨_, rfl⟩
    rw [← hv0] at T0 AQ
    have x0 := T0.X.cells
    have z0 := T0.X.frozen
    have HP' : ∀ b, w.heap.size + 1 + 1 ≤ b → (P b ∧ b ≠ w.heap.size ∧ b ≠ w.heap.size + 1) := fun b hb => ⟨hP b (by omega), by omega, by omega⟩
    have lt9 := T0.lt
    have HC := Lib.hid (rTo (P := fun b => P b ∧ b ≠ w.heap.size ∧ b ≠ w.heap.size + 1) (fun b hb => HP' b (by omega)) AQ 60)
    go_enter Tryz.func50, Tryz.ntmps50
    go_wp2_with (first | ((with_reducible refine wpList_alloc_wz rfl rfl ?_); rw [← hv0]; clear hv0) | (refine wpList_load_row rfl 34 _ rfl (w.heap.size) rfl _ (wc s) (0, 0) _ (by exact T0.X) Tryz.underlying34 rfl (by kernel_rfl) ?_))
    refine HC.out.mono ?_
    rintro e w9 ⟨s9, rfl, A9, hb9⟩
    have T9 := T0.keep hb9
    go_wp2_with (first | (refine wpList_store_row rfl 34 _ _ rfl (w.heap.size + 1) (wc s9) rfl rfl _ _ (by exact T9.Z) (by kernel_rfl) (by kernel_rfl) (by kernel_rfl) ?_))
    have ZF := T9.rowZ s9
    refine bodyPost_ret (v := wv s9) ?_ rfl ⟨s9, rfl, ((A9.row (g := w.heap.size + 1) (fun q => q.2.2 rfl) _).mono (fun b _ q => q.1)), ZF.below⟩
    exact results_cell_row (p := 2) (ty := 34) Tryz.results50 _ _ (w.heap.size + 1) 34 _ (0, 0) _ rfl ZF.Z Tryz.underlying34 rfl (by kernel_rfl)
  rw [if_neg h6]
  have t6 : (k0 == 6) = false := by simp [h6]
  clear h4 h5 h6
  have T0 := Two.start w s
  have AQ := (A.mono (Q := fun b => P b ∧ b ≠ w.heap.size ∧ b ≠ w.heap.size + 1) (fun b hb q => ⟨q, by omega, by omega⟩)).keep T0.below
  obtain ⟨v0, hv0⟩ : ∃ u, u = (w.alloc (.cells (wc s) 34)).alloc (.cells (wc wz) 34) := ⟨_, rfl⟩
  rw [← hv0] at T0 AQ
  have x0 := T0.X.cells
  have z0 := T0.X.frozen
  have HP' : ∀ b, w.heap.size + 1 + 1 ≤ b → (P b ∧ b ≠ w.heap.size ∧ b ≠ w.heap.size + 1) := fun b hb => ⟨hP b (by omega), by omega, by omega⟩
  have lt9 := T0.lt
  have HC := Lib.hid (rTake9 (P := fun b => P b ∧ b ≠ w.heap.size ∧ b ≠ w.heap.size + 1) (fun b hb => HP' b (by omega)) AQ hx)
  go_enter Tryz.func50, Tryz.ntmps50
  go_wp2_with (first | ((with_reducible refine wpList_alloc_wz rfl rfl ?_); rw [← hv0]; clear hv0) | (refine wpList_load_row rfl 34 _ rfl (w.heap.size) rfl _ (wc s) (0, 0) _ (by exact T0.X) Tryz.underlying34 rfl (by kernel_rfl) ?_))
  refine HC.out.mono ?_
  rintro e w9 ⟨s9, rfl, A9, hb9⟩
  have T9 := T0.keep hb9
  go_wp2_with (first | (refine wpList_store_row rfl 34 _ _ rfl (w.heap.size + 1) (wc s9) rfl rfl _ _ (by exact T9.Z) (by kernel_rfl) (by kernel_rfl) (by kernel_rfl) ?_))
  have ZF := T9.rowZ s9
  refine bodyPost_ret (v := wv s9) ?_ rfl ⟨s9, rfl, ((A9.row (g := w.heap.size + 1) (fun q => q.2.2 rfl) _).mono (fun b _ q => q.1)), ZF.below⟩
  exact results_cell_row (p := 2) (ty := 34) Tryz.results50 _ _ (w.heap.size + 1) 34 _ (0, 0) _ rfl ZF.Z Tryz.underlying34 rfl (by kernel_rfl)
end Go.Proofs.YtgpdkagmacpghaaGreat.Me

/- work.Begin and the reference's, for every operation (made by genbegin3.py). -/
namespace Go.Proofs.YtgpdkagmacpghaaGreat.Me
open Go Go.RowKit Go.ChangeMaps Go.Proofs.YtgpdkagmacpghaaGreat.Gro Go.Proofs.YtgpdkagmacpghaaGreat.Own Go.Proofs.YtgpdkagmacpghaaGreat.Wd Go.Proofs.YtgpdkagmacpghaaGreat.Ap Go.Proofs.YtgpdkagmacpghaaGreat.Pl Go.Proofs.YtgpdkagmacpghaaGreat.Wo Go.Proofs.YtgpdkagmacpghaaGreat.Mr
set_option linter.unusedVariables false
set_option linter.unusedSimpArgs false
theorem asks_shares {k : Int} (h : asksB k = true) : sharesB k = true := by
  unfold asksB at h
  unfold sharesB
  simp at h ⊢
  omega
set_option maxRecDepth 100000 in
set_option maxHeartbeats 8000000 in
theorem fBegin (c : Cfg) (hf : c.Wf) {P : Nat → Prop} {w : World} {s : Wk} {x : St} (hP : ∀ b, w.heap.size ≤ b → P b) (A : LiesP P w s x) (hx : Few 900 x) (ok oa ob oc : Int) (od : Bool) (oe of tv : Int) (ht : 0 ≤ tv ∧ tv < 18446744073709551616) :
    Calls Tryz.prog 12 #[cv c, wv s, opV ok oa ob oc od oe of, .int .u64 tv] w (FW P w (beginS c x ok oa ob oc od oe of tv)) := by
  unfold beginS
  have f30 : ∀ s : Wk, (wc s)[30]? = some (.int .u64 s.p.t) := fun _ => rfl
  have f31 : ∀ s : Wk, (wc s)[31]? = some (.int .i64 s.p.rt) := fun _ => rfl
  have f32 : ∀ s : Wk, (wc s)[32]? = some (.bool s.p.gv) := fun _ => rfl
  have f18 : ∀ s : Wk, (wc s)[18]? = some (.int .i64 s.p.b) := fun _ => rfl
  have f19 : ∀ s : Wk, (wc s)[19]? = some (.int .i64 s.p.k) := fun _ => rfl
  have f20 : ∀ s : Wk, (wc s)[20]? = some (.int .i64 s.p.i) := fun _ => rfl
  have f21 : ∀ s : Wk, (wc s)[21]? = some (.int .i64 s.p.c) := fun _ => rfl
  have f28 : ∀ s : Wk, (wc s)[28]? = some (.int .i64 s.p.j) := fun _ => rfl
  have f0 : ∀ s : Wk, (wc s)[0]? = some (.int .i64 s.p.ln) := fun _ => rfl
  have f29 : ∀ s : Wk, (wc s)[29]? = some (.slice s.rd.ad s.rd.len s.rd.cap) := fun _ => rfl
  have h1 : (w.alloc (.cells (ccM c) 24)).heap.size = w.heap.size + 1 := by simp
  have h2 : ((w.alloc (.cells (ccM c) 24)).alloc (.cells (wc s) 34)).heap.size = w.heap.size + 2 := by simp
  have h3 : (((w.alloc (.cells (ccM c) 24)).alloc (.cells (wc s) 34)).alloc (.cells #[.int .i64 ok, .int .u64 oa, .int .u64 ob, .int .i64 oc, .bool od, .int .i64 oe, .int .i64 of] 26)).heap.size = w.heap.size + 3 := by simp
  have X0 := Bk.new (w.alloc (.cells (ccM c) 24)) (wc s) 34
  rw [h1] at X0
  have Z0 := Bk.new (((w.alloc (.cells (ccM c) 24)).alloc (.cells (wc s) 34)).alloc (.cells #[.int .i64 ok, .int .u64 oa, .int .u64 ob, .int .i64 oc, .bool od, .int .i64 oe, .int .i64 of] 26)) (wc wz) 34
  rw [h3] at Z0
  have O00 := Bk.new ((w.alloc (.cells (ccM c) 24)).alloc (.cells (wc s) 34)) #[.int .i64 ok, .int .u64 oa, .int .u64 ob, .int .i64 oc, .bool od, .int .i64 oe, .int .i64 of] 26
  rw [h2] at O00
  have bl0 : Below w.heap.size w ((((w.alloc (.cells (ccM c) 24)).alloc (.cells (wc s) 34)).alloc (.cells #[.int .i64 ok, .int .u64 oa, .int .u64 ob, .int .i64 oc, .bool od, .int .i64 oe, .int .i64 of] 26)).alloc (.cells (wc wz) 34)) := ((((Below.refl _ _).alloc (Nat.le_refl _) _).alloc (by omega) _).alloc (by omega) _).alloc (by omega) _
  have T0 : Two w (w.heap.size + 1) (w.heap.size + 3) s wz ((((w.alloc (.cells (ccM c) 24)).alloc (.cells (wc s) 34)).alloc (.cells #[.int .i64 ok, .int .u64 oa, .int .u64 ob, .int .i64 oc, .bool od, .int .i64 oe, .int .i64 of] 26)).alloc (.cells (wc wz) 34)) := ⟨(X0.alloc _).alloc _, Z0, bl0, by omega, by omega, by omega⟩
  have C0 : Bk ((((w.alloc (.cells (ccM c) 24)).alloc (.cells (wc s) 34)).alloc (.cells #[.int .i64 ok, .int .u64 oa, .int .u64 ob, .int .i64 oc, .bool od, .int .i64 oe, .int .i64 of] 26)).alloc (.cells (wc wz) 34)) w.heap.size (ccM c) 24 := (((Bk.new w (ccM c) 24).alloc _).alloc _).alloc _
  have O0 : Bk ((((w.alloc (.cells (ccM c) 24)).alloc (.cells (wc s) 34)).alloc (.cells #[.int .i64 ok, .int .u64 oa, .int .u64 ob, .int .i64 oc, .bool od, .int .i64 oe, .int .i64 of] 26)).alloc (.cells (wc wz) 34)) (w.heap.size + 2) #[.int .i64 ok, .int .u64 oa, .int .u64 ob, .int .i64 oc, .bool od, .int .i64 oe, .int .i64 of] 26 := O00.alloc _
  have AQ := (A.mono (Q := (fun b => P b ∧ b ≠ w.heap.size + 1 ∧ b ≠ w.heap.size + 3)) (fun b hb q => ⟨q, by omega, by omega⟩)).keep T0.below
  obtain ⟨v0, hv0⟩ : ∃ u, u = ((((w.alloc (.cells (ccM c) 24)).alloc (.cells (wc s) 34)).alloc (.cells #[.int .i64 ok, .int .u64 oa, .int .u64 ob, .int .i64 oc, .bool od, .int .i64 oe, .int .i64 of] 26)).alloc (.cells (wc wz) 34)) := ⟨_, rfl⟩
  rw [← hv0] at T0 C0 O0 AQ
  have l0 := T0.lt
  have l00 := T0.below.size
  clear X0 Z0 O00 bl0 h1 h2 h3
  go_enter Tryz.func12, Tryz.ntmps12
  go_wp2_with (first | ((with_reducible refine wpList_alloc_wz rfl rfl ?_); rw [← hv0]; clear hv0) | (refine wpList_load_row rfl 34 _ rfl (w.heap.size + 1) rfl _ (wc s) (0, 0) _ (by exact T0.X) Tryz.underlying34 rfl (by kernel_rfl) ?_))
  refine (copyWork s x (hx.mono (by omega)) _ AQ.lies).mono ?_
  rintro e w1 ⟨s1, rfl, A1, hb1⟩
  have T1 := T0.keep hb1
  have hs1 := hb1.size
  have T2 := T1.rowX s1
  have C2 := (C0.keep hb1).setRow_far (g' := w.heap.size + 1) (by omega) (wc s1)
  have O2 := (O0.keep hb1).setRow_far (g' := w.heap.size + 1) (by omega) (wc s1)
  have A2 := (LiesP.of (P := (fun b => P b ∧ b ≠ w.heap.size + 1 ∧ b ≠ w.heap.size + 3)) A1.liesF (fun b _ q => ⟨hP b (by omega), by omega, by omega⟩)).row (g := w.heap.size + 1) (fun q => q.2.1 rfl) (wc s1)
  obtain ⟨v2, hw2⟩ : ∃ u, u = w1.setRow (w.heap.size + 1) (wc s1) := ⟨_, rfl⟩
  have hs2 : v2.heap.size = w1.heap.size := by rw [hw2]; simp
  rw [← hw2] at T2 A2 C2 O2
  have l2 := T2.lt
  clear A1 T0 C0 O0 AQ
  have T3 := T2.rowX ({ s1 with p := { s1.p with o0 := ok, o1 := oa, o2 := ob, o3 := oc, o4 := od, o5 := oe, o6 := of } } : Wk)
  have A3 := A2.row (g := w.heap.size + 1) (fun q => q.2.1 rfl) (wc ({ s1 with p := { s1.p with o0 := ok, o1 := oa, o2 := ob, o3 := oc, o4 := od, o5 := oe, o6 := of } } : Wk))
  have C3 := C2.setRow_far (g' := w.heap.size + 1) (by omega) (wc ({ s1 with p := { s1.p with o0 := ok, o1 := oa, o2 := ob, o3 := oc, o4 := od, o5 := oe, o6 := of } } : Wk))
  have O3 := O2.setRow_far (g' := w.heap.size + 1) (by omega) (wc ({ s1 with p := { s1.p with o0 := ok, o1 := oa, o2 := ob, o3 := oc, o4 := od, o5 := oe, o6 := of } } : Wk))
  obtain ⟨v3, hv3⟩ : ∃ u, u = v2.setRow (w.heap.size + 1) (wc ({ s1 with p := { s1.p with o0 := ok, o1 := oa, o2 := ob, o3 := oc, o4 := od, o5 := oe, o6 := of } } : Wk)) := ⟨_, rfl⟩
  have hs3 : v3.heap.size = v2.heap.size := by rw [hv3]; simp
  rw [← hv3] at T3 A3 C3 O3
  have TX := T2.X
  have x3 := T3.X.cells
  have z3 := T3.X.frozen
  have e100 : (v3.cell? ⟨w.heap.size + 1, 30, none⟩).isSome = true := by rw [x3, f30]; rfl
  have T4 := T3.setX 30 (.int .u64 0) ({ s1 with p := { s1.p with o0 := ok, o1 := oa, o2 := ob, o3 := oc, o4 := od, o5 := oe, o6 := of, t := 0 } } : Wk) rfl
  have A4 := A3.cell (g := w.heap.size + 1) (fun q => q.2.1 rfl) 30 (.int .u64 0)
  have C4 := C3.setCell_far (a := ⟨w.heap.size + 1, 30, none⟩) (by simp) (.int .u64 0)
  have O4 := O3.setCell_far (a := ⟨w.heap.size + 1, 30, none⟩) (by simp) (.int .u64 0)
  have HAS := Lib.hid (operAsks ok oa ob oc od oe of (v3.setCell ⟨w.heap.size + 1, 30, none⟩ (.int .u64 0)))
  go_wp2_with (first | (refine wpList_store_row rfl 34 _ _ rfl (w.heap.size + 1) (wc s1) rfl rfl _ _ (by exact T1.X) (by kernel_rfl) (by kernel_rfl) (by kernel_rfl) ?_; rw [← hw2]; clear hw2 T1) | ((refine Sub.wpList_store_sub rfl 26 _ _ rfl (w.heap.size + 1) 1 #[.int .i64 ok, .int .u64 oa, .int .u64 ob, .int .i64 oc, .bool od, .int .i64 oe, .int .i64 of] rfl rfl 34 (wc s1) (wc ({ s1 with p := { s1.p with o0 := ok, o1 := oa, o2 := ob, o3 := oc, o4 := od, o5 := oe, o6 := of } } : Wk)) (by exact TX) (by kernel_rfl) (Nat.le_of_ble_eq_true (by kernel_rfl)) (by kernel_rfl) (by kernel_rfl) ?_); rw [← hv3]; clear hv3 TX) | (refine wpList_load_row rfl 26 _ rfl (w.heap.size + 2) rfl _ #[.int .i64 ok, .int .u64 oa, .int .u64 ob, .int .i64 oc, .bool od, .int .i64 oe, .int .i64 of] (0, 0) _ (by exact O2) Tryz.underlying26 rfl (by kernel_rfl) ?_) | (refine wpList_load_row rfl 26 _ rfl (w.heap.size + 2) rfl _ #[.int .i64 ok, .int .u64 oa, .int .u64 ob, .int .i64 oc, .bool od, .int .i64 oe, .int .i64 of] (0, 0) _ (by exact O3) Tryz.underlying26 rfl (by kernel_rfl) ?_) | (refine wpList_load_row rfl 26 _ rfl (w.heap.size + 2) rfl _ #[.int .i64 ok, .int .u64 oa, .int .u64 ob, .int .i64 oc, .bool od, .int .i64 oe, .int .i64 of] (0, 0) _ (by exact O4) Tryz.underlying26 rfl (by kernel_rfl) ?_))
  refine HAS.out.mono ?_
  rintro en v5 ⟨rfl, hb5⟩
  have T5 := T4.keep hb5
  have A5 := A4.keep hb5
  have C5 := C4.keep hb5
  have O5 := O4.keep hb5
  have l5 := T5.lt
  have hs5 := hb5.size
  have x5 := T5.X.cells
  have z5 := T5.X.frozen
  clear e100 x3 z3 HAS T4 A4 C4 O4 hb5
  cases hk : asksB ok with
  | true =>
    have e200 : ((v5).cell? ⟨w.heap.size + 1, 30, none⟩).isSome = true := by rw [T5.X.cells, f30]; rfl
    have T20 := T5.setX 30 (.int .u64 tv) ({ s1 with p := { s1.p with o0 := ok, o1 := oa, o2 := ob, o3 := oc, o4 := od, o5 := oe, o6 := of, t := tv } } : Wk) rfl
    have A20 := A5.cell (g := w.heap.size + 1) (fun q => q.2.1 rfl) 30 (.int .u64 tv)
    have C20 := C5.setCell_far (a := ⟨w.heap.size + 1, 30, none⟩) (by simp) (.int .u64 tv)
    have O20 := O5.setCell_far (a := ⟨w.heap.size + 1, 30, none⟩) (by simp) (.int .u64 tv)
    clear T5 A5 C5 O5
    have e201 : (((v5).setCell ⟨w.heap.size + 1, 30, none⟩ (.int .u64 tv)).cell? ⟨w.heap.size + 1, 29, none⟩).isSome = true := by rw [T20.X.cells, f29]; rfl
    have T21 := T20.setX 29 (.slice none 0 0) ({ s1 with p := { s1.p with o0 := ok, o1 := oa, o2 := ob, o3 := oc, o4 := od, o5 := oe, o6 := of, t := tv }, rd := nilS } : Wk) rfl
    have A21 := A20.cell (g := w.heap.size + 1) (fun q => q.2.1 rfl) 29 (.slice none 0 0)
    have C21 := C20.setCell_far (a := ⟨w.heap.size + 1, 29, none⟩) (by simp) (.slice none 0 0)
    have O21 := O20.setCell_far (a := ⟨w.heap.size + 1, 29, none⟩) (by simp) (.slice none 0 0)
    clear T20 A20 C20 O20
    have e202 : ((((v5).setCell ⟨w.heap.size + 1, 30, none⟩ (.int .u64 tv)).setCell ⟨w.heap.size + 1, 29, none⟩ (.slice none 0 0)).cell? ⟨w.heap.size + 1, 31, none⟩).isSome = true := by rw [T21.X.cells, f31]; rfl
    have T22 := T21.setX 31 (.int .i64 0) ({ s1 with p := { s1.p with o0 := ok, o1 := oa, o2 := ob, o3 := oc, o4 := od, o5 := oe, o6 := of, t := tv, rt := 0 }, rd := nilS } : Wk) rfl
    have A22 := A21.cell (g := w.heap.size + 1) (fun q => q.2.1 rfl) 31 (.int .i64 0)
    have C22 := C21.setCell_far (a := ⟨w.heap.size + 1, 31, none⟩) (by simp) (.int .i64 0)
    have O22 := O21.setCell_far (a := ⟨w.heap.size + 1, 31, none⟩) (by simp) (.int .i64 0)
    clear T21 A21 C21 O21
    have e203 : (((((v5).setCell ⟨w.heap.size + 1, 30, none⟩ (.int .u64 tv)).setCell ⟨w.heap.size + 1, 29, none⟩ (.slice none 0 0)).setCell ⟨w.heap.size + 1, 31, none⟩ (.int .i64 0)).cell? ⟨w.heap.size + 1, 32, none⟩).isSome = true := by rw [T22.X.cells, f32]; rfl
    have T23 := T22.setX 32 (.bool false) ({ s1 with p := { s1.p with o0 := ok, o1 := oa, o2 := ob, o3 := oc, o4 := od, o5 := oe, o6 := of, t := tv, rt := 0, gv := false }, rd := nilS } : Wk) rfl
    have A23 := A22.cell (g := w.heap.size + 1) (fun q => q.2.1 rfl) 32 (.bool false)
    have C23 := C22.setCell_far (a := ⟨w.heap.size + 1, 32, none⟩) (by simp) (.bool false)
    have O23 := O22.setCell_far (a := ⟨w.heap.size + 1, 32, none⟩) (by simp) (.bool false)
    clear T22 A22 C22 O22
    obtain ⟨v6, hv6⟩ : ∃ u, u = ((((v5).setCell ⟨w.heap.size + 1, 30, none⟩ (.int .u64 tv)).setCell ⟨w.heap.size + 1, 29, none⟩ (.slice none 0 0)).setCell ⟨w.heap.size + 1, 31, none⟩ (.int .i64 0)).setCell ⟨w.heap.size + 1, 32, none⟩ (.bool false) := ⟨_, rfl⟩
    rw [← hv6] at T23 A23 C23 O23
    go_upto_region 9 with fail
    rw [← hv6]
    clear hv6 e200 e201 e202 e203 x5 z5
    have xs1 := T23.X.cells
    have zs1 := T23.X.frozen
    have e204 : ((v6).cell? ⟨w.heap.size + 1, 18, none⟩).isSome = true := by rw [T23.X.cells, f18]; rfl
    have T24 := T23.setX 18 (.int .i64 0) ({ s1 with p := { s1.p with o0 := ok, o1 := oa, o2 := ob, o3 := oc, o4 := od, o5 := oe, o6 := of, t := tv, rt := 0, gv := false, b := 0 }, rd := nilS } : Wk) rfl
    have A24 := A23.cell (g := w.heap.size + 1) (fun q => q.2.1 rfl) 18 (.int .i64 0)
    have C24 := C23.setCell_far (a := ⟨w.heap.size + 1, 18, none⟩) (by simp) (.int .i64 0)
    have O24 := O23.setCell_far (a := ⟨w.heap.size + 1, 18, none⟩) (by simp) (.int .i64 0)
    clear T23 A23 C23 O23
    have e205 : (((v6).setCell ⟨w.heap.size + 1, 18, none⟩ (.int .i64 0)).cell? ⟨w.heap.size + 1, 19, none⟩).isSome = true := by rw [T24.X.cells, f19]; rfl
    have T25 := T24.setX 19 (.int .i64 0) ({ s1 with p := { s1.p with o0 := ok, o1 := oa, o2 := ob, o3 := oc, o4 := od, o5 := oe, o6 := of, t := tv, rt := 0, gv := false, b := 0, k := 0 }, rd := nilS } : Wk) rfl
    have A25 := A24.cell (g := w.heap.size + 1) (fun q => q.2.1 rfl) 19 (.int .i64 0)
    have C25 := C24.setCell_far (a := ⟨w.heap.size + 1, 19, none⟩) (by simp) (.int .i64 0)
    have O25 := O24.setCell_far (a := ⟨w.heap.size + 1, 19, none⟩) (by simp) (.int .i64 0)
    clear T24 A24 C24 O24
    have e206 : ((((v6).setCell ⟨w.heap.size + 1, 18, none⟩ (.int .i64 0)).setCell ⟨w.heap.size + 1, 19, none⟩ (.int .i64 0)).cell? ⟨w.heap.size + 1, 20, none⟩).isSome = true := by rw [T25.X.cells, f20]; rfl
    have T26 := T25.setX 20 (.int .i64 0) ({ s1 with p := { s1.p with o0 := ok, o1 := oa, o2 := ob, o3 := oc, o4 := od, o5 := oe, o6 := of, t := tv, rt := 0, gv := false, b := 0, k := 0, i := 0 }, rd := nilS } : Wk) rfl
    have A26 := A25.cell (g := w.heap.size + 1) (fun q => q.2.1 rfl) 20 (.int .i64 0)
    have C26 := C25.setCell_far (a := ⟨w.heap.size + 1, 20, none⟩) (by simp) (.int .i64 0)
    have O26 := O25.setCell_far (a := ⟨w.heap.size + 1, 20, none⟩) (by simp) (.int .i64 0)
    clear T25 A25 C25 O25
    have e207 : (((((v6).setCell ⟨w.heap.size + 1, 18, none⟩ (.int .i64 0)).setCell ⟨w.heap.size + 1, 19, none⟩ (.int .i64 0)).setCell ⟨w.heap.size + 1, 20, none⟩ (.int .i64 0)).cell? ⟨w.heap.size + 1, 21, none⟩).isSome = true := by rw [T26.X.cells, f21]; rfl
    have T27 := T26.setX 21 (.int .i64 0) ({ s1 with p := { s1.p with o0 := ok, o1 := oa, o2 := ob, o3 := oc, o4 := od, o5 := oe, o6 := of, t := tv, rt := 0, gv := false, b := 0, k := 0, i := 0, c := 0 }, rd := nilS } : Wk) rfl
    have A27 := A26.cell (g := w.heap.size + 1) (fun q => q.2.1 rfl) 21 (.int .i64 0)
    have C27 := C26.setCell_far (a := ⟨w.heap.size + 1, 21, none⟩) (by simp) (.int .i64 0)
    have O27 := O26.setCell_far (a := ⟨w.heap.size + 1, 21, none⟩) (by simp) (.int .i64 0)
    clear T26 A26 C26 O26
    have e208 : ((((((v6).setCell ⟨w.heap.size + 1, 18, none⟩ (.int .i64 0)).setCell ⟨w.heap.size + 1, 19, none⟩ (.int .i64 0)).setCell ⟨w.heap.size + 1, 20, none⟩ (.int .i64 0)).setCell ⟨w.heap.size + 1, 21, none⟩ (.int .i64 0)).cell? ⟨w.heap.size + 1, 28, none⟩).isSome = true := by rw [T27.X.cells, f28]; rfl
    have T28 := T27.setX 28 (.int .i64 0) ({ s1 with p := { s1.p with o0 := ok, o1 := oa, o2 := ob, o3 := oc, o4 := od, o5 := oe, o6 := of, t := tv, rt := 0, gv := false, b := 0, k := 0, i := 0, c := 0, j := 0 }, rd := nilS } : Wk) rfl
    have A28 := A27.cell (g := w.heap.size + 1) (fun q => q.2.1 rfl) 28 (.int .i64 0)
    have C28 := C27.setCell_far (a := ⟨w.heap.size + 1, 28, none⟩) (by simp) (.int .i64 0)
    have O28 := O27.setCell_far (a := ⟨w.heap.size + 1, 28, none⟩) (by simp) (.int .i64 0)
    clear T27 A27 C27 O27
    obtain ⟨v7, hv7⟩ : ∃ u, u = (((((v6).setCell ⟨w.heap.size + 1, 18, none⟩ (.int .i64 0)).setCell ⟨w.heap.size + 1, 19, none⟩ (.int .i64 0)).setCell ⟨w.heap.size + 1, 20, none⟩ (.int .i64 0)).setCell ⟨w.heap.size + 1, 21, none⟩ (.int .i64 0)).setCell ⟨w.heap.size + 1, 28, none⟩ (.int .i64 0) := ⟨_, rfl⟩
    rw [← hv7] at T28 A28 C28 O28
    go_upto_region 10 with fail
    rw [← hv7]
    clear hv7 e204 e205 e206 e207 e208 xs1 zs1
    have TF := T28
    have CF := C28
    have OF := O28
    have lF := TF.lt
    have lFF := TF.below.size
    have AF : LiesP (fun b => P b ∧ b ≠ w.heap.size + 1 ∧ b ≠ w.heap.size + 3) v7 ({ s1 with p := { s1.p with o0 := ok, o1 := oa, o2 := ob, o3 := oc, o4 := od, o5 := oe, o6 := of, t := tv, rt := 0, gv := false, b := 0, k := 0, i := 0, c := 0, j := 0 }, rd := nilS } : Wk) (freshS x ok oa ob oc od oe of tv) := ⟨by unfold freshS; rw [hk, A28.p]; rfl, A28.rk, A28.l0, A28.l1, A28.l2, A28.hl, ⟨Reads.nil _ _, .inl rfl⟩⟩
    have hxF : Few 900 (freshS x ok oa ob oc od oe of tv) := ⟨hx.rk, hx.l0, hx.l1, hx.l2, hx.hl, Nat.zero_le _⟩
    clear T28 A28 C28 O28
    have hT : (freshS x ok oa ob oc od oe of tv).p.t = tv := by unfold freshS; rw [hk]; rfl
    have HC := Lib.hid (fStart (P := fun b => P b ∧ b ≠ w.heap.size + 1 ∧ b ≠ w.heap.size + 3) c (fun b hb => ⟨hP b (by omega), by omega, by omega⟩) AF hf hxF (by rw [hT]; exact ht))
    clear AF hT hk
    go_wp2_with (first | (refine wpList_load_row rfl 24 _ rfl w.heap.size rfl _ (ccM c) (0, 0) _ (by exact CF) Tryz.underlying24 rfl (by kernel_rfl) ?_) | (refine wpList_load_row rfl 34 _ rfl (w.heap.size + 1) rfl _ (wc ({ s1 with p := { s1.p with o0 := ok, o1 := oa, o2 := ob, o3 := oc, o4 := od, o5 := oe, o6 := of, t := tv, rt := 0, gv := false, b := 0, k := 0, i := 0, c := 0, j := 0 }, rd := nilS } : Wk)) (0, 0) _ (by exact TF.X) Tryz.underlying34 rfl (by kernel_rfl) ?_))
    refine HC.out.mono ?_
    rintro e w9 ⟨s9, rfl, A9, hb9⟩
    have T9 := TF.keep hb9
    clear CF OF
    go_wp2_with (first | (refine wpList_store_row rfl 34 _ _ rfl (w.heap.size + 3) (wc s9) rfl rfl _ _ (by exact T9.Z) (by kernel_rfl) (by kernel_rfl) (by kernel_rfl) ?_))
    have ZF := T9.rowZ s9
    refine bodyPost_ret (v := wv s9) ?_ rfl ⟨s9, rfl, ((A9.row (g := w.heap.size + 3) (fun q => q.2.2 rfl) _).mono (fun b _ q => q.1)), ZF.below⟩
    exact results_cell_row (p := 8) (ty := 34) Tryz.results12 _ _ (w.heap.size + 3) 34 _ (0, 0) _ rfl ZF.Z Tryz.underlying34 rfl (by kernel_rfl)
  | false =>
    have e200 : ((v5).cell? ⟨w.heap.size + 1, 29, none⟩).isSome = true := by rw [T5.X.cells, f29]; rfl
    have T20 := T5.setX 29 (.slice none 0 0) ({ s1 with p := { s1.p with o0 := ok, o1 := oa, o2 := ob, o3 := oc, o4 := od, o5 := oe, o6 := of, t := 0 }, rd := nilS } : Wk) rfl
    have A20 := A5.cell (g := w.heap.size + 1) (fun q => q.2.1 rfl) 29 (.slice none 0 0)
    have C20 := C5.setCell_far (a := ⟨w.heap.size + 1, 29, none⟩) (by simp) (.slice none 0 0)
    have O20 := O5.setCell_far (a := ⟨w.heap.size + 1, 29, none⟩) (by simp) (.slice none 0 0)
    clear T5 A5 C5 O5
    have e201 : (((v5).setCell ⟨w.heap.size + 1, 29, none⟩ (.slice none 0 0)).cell? ⟨w.heap.size + 1, 31, none⟩).isSome = true := by rw [T20.X.cells, f31]; rfl
    have T21 := T20.setX 31 (.int .i64 0) ({ s1 with p := { s1.p with o0 := ok, o1 := oa, o2 := ob, o3 := oc, o4 := od, o5 := oe, o6 := of, t := 0, rt := 0 }, rd := nilS } : Wk) rfl
    have A21 := A20.cell (g := w.heap.size + 1) (fun q => q.2.1 rfl) 31 (.int .i64 0)
    have C21 := C20.setCell_far (a := ⟨w.heap.size + 1, 31, none⟩) (by simp) (.int .i64 0)
    have O21 := O20.setCell_far (a := ⟨w.heap.size + 1, 31, none⟩) (by simp) (.int .i64 0)
    clear T20 A20 C20 O20
    have e202 : ((((v5).setCell ⟨w.heap.size + 1, 29, none⟩ (.slice none 0 0)).setCell ⟨w.heap.size + 1, 31, none⟩ (.int .i64 0)).cell? ⟨w.heap.size + 1, 32, none⟩).isSome = true := by rw [T21.X.cells, f32]; rfl
    have T22 := T21.setX 32 (.bool false) ({ s1 with p := { s1.p with o0 := ok, o1 := oa, o2 := ob, o3 := oc, o4 := od, o5 := oe, o6 := of, t := 0, rt := 0, gv := false }, rd := nilS } : Wk) rfl
    have A22 := A21.cell (g := w.heap.size + 1) (fun q => q.2.1 rfl) 32 (.bool false)
    have C22 := C21.setCell_far (a := ⟨w.heap.size + 1, 32, none⟩) (by simp) (.bool false)
    have O22 := O21.setCell_far (a := ⟨w.heap.size + 1, 32, none⟩) (by simp) (.bool false)
    clear T21 A21 C21 O21
    obtain ⟨v6, hv6⟩ : ∃ u, u = (((v5).setCell ⟨w.heap.size + 1, 29, none⟩ (.slice none 0 0)).setCell ⟨w.heap.size + 1, 31, none⟩ (.int .i64 0)).setCell ⟨w.heap.size + 1, 32, none⟩ (.bool false) := ⟨_, rfl⟩
    rw [← hv6] at T22 A22 C22 O22
    go_upto_region 9 with fail
    rw [← hv6]
    clear hv6 e200 e201 e202 x5 z5
    have xs1 := T22.X.cells
    have zs1 := T22.X.frozen
    have e203 : ((v6).cell? ⟨w.heap.size + 1, 18, none⟩).isSome = true := by rw [T22.X.cells, f18]; rfl
    have T23 := T22.setX 18 (.int .i64 0) ({ s1 with p := { s1.p with o0 := ok, o1 := oa, o2 := ob, o3 := oc, o4 := od, o5 := oe, o6 := of, t := 0, rt := 0, gv := false, b := 0 }, rd := nilS } : Wk) rfl
    have A23 := A22.cell (g := w.heap.size + 1) (fun q => q.2.1 rfl) 18 (.int .i64 0)
    have C23 := C22.setCell_far (a := ⟨w.heap.size + 1, 18, none⟩) (by simp) (.int .i64 0)
    have O23 := O22.setCell_far (a := ⟨w.heap.size + 1, 18, none⟩) (by simp) (.int .i64 0)
    clear T22 A22 C22 O22
    have e204 : (((v6).setCell ⟨w.heap.size + 1, 18, none⟩ (.int .i64 0)).cell? ⟨w.heap.size + 1, 19, none⟩).isSome = true := by rw [T23.X.cells, f19]; rfl
    have T24 := T23.setX 19 (.int .i64 0) ({ s1 with p := { s1.p with o0 := ok, o1 := oa, o2 := ob, o3 := oc, o4 := od, o5 := oe, o6 := of, t := 0, rt := 0, gv := false, b := 0, k := 0 }, rd := nilS } : Wk) rfl
    have A24 := A23.cell (g := w.heap.size + 1) (fun q => q.2.1 rfl) 19 (.int .i64 0)
    have C24 := C23.setCell_far (a := ⟨w.heap.size + 1, 19, none⟩) (by simp) (.int .i64 0)
    have O24 := O23.setCell_far (a := ⟨w.heap.size + 1, 19, none⟩) (by simp) (.int .i64 0)
    clear T23 A23 C23 O23
    have e205 : ((((v6).setCell ⟨w.heap.size + 1, 18, none⟩ (.int .i64 0)).setCell ⟨w.heap.size + 1, 19, none⟩ (.int .i64 0)).cell? ⟨w.heap.size + 1, 20, none⟩).isSome = true := by rw [T24.X.cells, f20]; rfl
    have T25 := T24.setX 20 (.int .i64 0) ({ s1 with p := { s1.p with o0 := ok, o1 := oa, o2 := ob, o3 := oc, o4 := od, o5 := oe, o6 := of, t := 0, rt := 0, gv := false, b := 0, k := 0, i := 0 }, rd := nilS } : Wk) rfl
    have A25 := A24.cell (g := w.heap.size + 1) (fun q => q.2.1 rfl) 20 (.int .i64 0)
    have C25 := C24.setCell_far (a := ⟨w.heap.size + 1, 20, none⟩) (by simp) (.int .i64 0)
    have O25 := O24.setCell_far (a := ⟨w.heap.size + 1, 20, none⟩) (by simp) (.int .i64 0)
    clear T24 A24 C24 O24
    have e206 : (((((v6).setCell ⟨w.heap.size + 1, 18, none⟩ (.int .i64 0)).setCell ⟨w.heap.size + 1, 19, none⟩ (.int .i64 0)).setCell ⟨w.heap.size + 1, 20, none⟩ (.int .i64 0)).cell? ⟨w.heap.size + 1, 21, none⟩).isSome = true := by rw [T25.X.cells, f21]; rfl
    have T26 := T25.setX 21 (.int .i64 0) ({ s1 with p := { s1.p with o0 := ok, o1 := oa, o2 := ob, o3 := oc, o4 := od, o5 := oe, o6 := of, t := 0, rt := 0, gv := false, b := 0, k := 0, i := 0, c := 0 }, rd := nilS } : Wk) rfl
    have A26 := A25.cell (g := w.heap.size + 1) (fun q => q.2.1 rfl) 21 (.int .i64 0)
    have C26 := C25.setCell_far (a := ⟨w.heap.size + 1, 21, none⟩) (by simp) (.int .i64 0)
    have O26 := O25.setCell_far (a := ⟨w.heap.size + 1, 21, none⟩) (by simp) (.int .i64 0)
    clear T25 A25 C25 O25
    have e207 : ((((((v6).setCell ⟨w.heap.size + 1, 18, none⟩ (.int .i64 0)).setCell ⟨w.heap.size + 1, 19, none⟩ (.int .i64 0)).setCell ⟨w.heap.size + 1, 20, none⟩ (.int .i64 0)).setCell ⟨w.heap.size + 1, 21, none⟩ (.int .i64 0)).cell? ⟨w.heap.size + 1, 28, none⟩).isSome = true := by rw [T26.X.cells, f28]; rfl
    have T27 := T26.setX 28 (.int .i64 0) ({ s1 with p := { s1.p with o0 := ok, o1 := oa, o2 := ob, o3 := oc, o4 := od, o5 := oe, o6 := of, t := 0, rt := 0, gv := false, b := 0, k := 0, i := 0, c := 0, j := 0 }, rd := nilS } : Wk) rfl
    have A27 := A26.cell (g := w.heap.size + 1) (fun q => q.2.1 rfl) 28 (.int .i64 0)
    have C27 := C26.setCell_far (a := ⟨w.heap.size + 1, 28, none⟩) (by simp) (.int .i64 0)
    have O27 := O26.setCell_far (a := ⟨w.heap.size + 1, 28, none⟩) (by simp) (.int .i64 0)
    clear T26 A26 C26 O26
    obtain ⟨v7, hv7⟩ : ∃ u, u = (((((v6).setCell ⟨w.heap.size + 1, 18, none⟩ (.int .i64 0)).setCell ⟨w.heap.size + 1, 19, none⟩ (.int .i64 0)).setCell ⟨w.heap.size + 1, 20, none⟩ (.int .i64 0)).setCell ⟨w.heap.size + 1, 21, none⟩ (.int .i64 0)).setCell ⟨w.heap.size + 1, 28, none⟩ (.int .i64 0) := ⟨_, rfl⟩
    rw [← hv7] at T27 A27 C27 O27
    go_upto_region 10 with fail
    rw [← hv7]
    clear hv7 e203 e204 e205 e206 e207 xs1 zs1
    have TF := T27
    have CF := C27
    have OF := O27
    have lF := TF.lt
    have lFF := TF.below.size
    have AF : LiesP (fun b => P b ∧ b ≠ w.heap.size + 1 ∧ b ≠ w.heap.size + 3) v7 ({ s1 with p := { s1.p with o0 := ok, o1 := oa, o2 := ob, o3 := oc, o4 := od, o5 := oe, o6 := of, t := 0, rt := 0, gv := false, b := 0, k := 0, i := 0, c := 0, j := 0 }, rd := nilS } : Wk) (freshS x ok oa ob oc od oe of tv) := ⟨by unfold freshS; rw [hk, A27.p]; rfl, A27.rk, A27.l0, A27.l1, A27.l2, A27.hl, ⟨Reads.nil _ _, .inl rfl⟩⟩
    have hxF : Few 900 (freshS x ok oa ob oc od oe of tv) := ⟨hx.rk, hx.l0, hx.l1, hx.l2, hx.hl, Nat.zero_le _⟩
    clear T27 A27 C27 O27
    have hT : (freshS x ok oa ob oc od oe of tv).p.t = 0 := by unfold freshS; rw [hk]; rfl
    have HC := Lib.hid (fStart (P := fun b => P b ∧ b ≠ w.heap.size + 1 ∧ b ≠ w.heap.size + 3) c (fun b hb => ⟨hP b (by omega), by omega, by omega⟩) AF hf hxF (by rw [hT]; decide))
    clear AF hT hk
    go_wp2_with (first | (refine wpList_load_row rfl 24 _ rfl w.heap.size rfl _ (ccM c) (0, 0) _ (by exact CF) Tryz.underlying24 rfl (by kernel_rfl) ?_) | (refine wpList_load_row rfl 34 _ rfl (w.heap.size + 1) rfl _ (wc ({ s1 with p := { s1.p with o0 := ok, o1 := oa, o2 := ob, o3 := oc, o4 := od, o5 := oe, o6 := of, t := 0, rt := 0, gv := false, b := 0, k := 0, i := 0, c := 0, j := 0 }, rd := nilS } : Wk)) (0, 0) _ (by exact TF.X) Tryz.underlying34 rfl (by kernel_rfl) ?_))
    refine HC.out.mono ?_
    rintro e w9 ⟨s9, rfl, A9, hb9⟩
    have T9 := TF.keep hb9
    clear CF OF
    go_wp2_with (first | (refine wpList_store_row rfl 34 _ _ rfl (w.heap.size + 3) (wc s9) rfl rfl _ _ (by exact T9.Z) (by kernel_rfl) (by kernel_rfl) (by kernel_rfl) ?_))
    have ZF := T9.rowZ s9
    refine bodyPost_ret (v := wv s9) ?_ rfl ⟨s9, rfl, ((A9.row (g := w.heap.size + 3) (fun q => q.2.2 rfl) _).mono (fun b _ q => q.1)), ZF.below⟩
    exact results_cell_row (p := 8) (ty := 34) Tryz.results12 _ _ (w.heap.size + 3) 34 _ (0, 0) _ rfl ZF.Z Tryz.underlying34 rfl (by kernel_rfl)
set_option maxRecDepth 100000 in
set_option maxHeartbeats 8000000 in
theorem rBegin (c : Cfg) (hf : c.Wf) {P : Nat → Prop} {w : World} {s : Wk} {x : St} (hP : ∀ b, w.heap.size ≤ b → P b) (A : LiesP P w s x) (hx : Few 900 x) (ok oa ob oc : Int) (od : Bool) (oe of tv : Int) (ht : 0 ≤ tv ∧ tv < 18446744073709551616) :
    Calls Tryz.prog 13 #[cv c, wv s, opV ok oa ob oc od oe of, .int .u64 tv] w (FW P w (beginS c x ok oa ob oc od oe of tv)) := by
  obtain ⟨y, hey⟩ : ∃ y, y = beginS c x ok oa ob oc od oe of tv := ⟨_, rfl⟩
  rw [← hey]
  have HEY := Lib.hid hey
  clear hey
  have f30 : ∀ s : Wk, (wc s)[30]? = some (.int .u64 s.p.t) := fun _ => rfl
  have f31 : ∀ s : Wk, (wc s)[31]? = some (.int .i64 s.p.rt) := fun _ => rfl
  have f32 : ∀ s : Wk, (wc s)[32]? = some (.bool s.p.gv) := fun _ => rfl
  have f18 : ∀ s : Wk, (wc s)[18]? = some (.int .i64 s.p.b) := fun _ => rfl
  have f19 : ∀ s : Wk, (wc s)[19]? = some (.int .i64 s.p.k) := fun _ => rfl
  have f20 : ∀ s : Wk, (wc s)[20]? = some (.int .i64 s.p.i) := fun _ => rfl
  have f21 : ∀ s : Wk, (wc s)[21]? = some (.int .i64 s.p.c) := fun _ => rfl
  have f28 : ∀ s : Wk, (wc s)[28]? = some (.int .i64 s.p.j) := fun _ => rfl
  have f0 : ∀ s : Wk, (wc s)[0]? = some (.int .i64 s.p.ln) := fun _ => rfl
  have f29 : ∀ s : Wk, (wc s)[29]? = some (.slice s.rd.ad s.rd.len s.rd.cap) := fun _ => rfl
  have h1 : (w.alloc (.cells (ccM c) 24)).heap.size = w.heap.size + 1 := by simp
  have h2 : ((w.alloc (.cells (ccM c) 24)).alloc (.cells (wc s) 34)).heap.size = w.heap.size + 2 := by simp
  have h3 : (((w.alloc (.cells (ccM c) 24)).alloc (.cells (wc s) 34)).alloc (.cells #[.int .i64 ok, .int .u64 oa, .int .u64 ob, .int .i64 oc, .bool od, .int .i64 oe, .int .i64 of] 26)).heap.size = w.heap.size + 3 := by simp
  have X0 := Bk.new (w.alloc (.cells (ccM c) 24)) (wc s) 34
  rw [h1] at X0
  have Z0 := Bk.new (((w.alloc (.cells (ccM c) 24)).alloc (.cells (wc s) 34)).alloc (.cells #[.int .i64 ok, .int .u64 oa, .int .u64 ob, .int .i64 oc, .bool od, .int .i64 oe, .int .i64 of] 26)) (wc wz) 34
  rw [h3] at Z0
  have O00 := Bk.new ((w.alloc (.cells (ccM c) 24)).alloc (.cells (wc s) 34)) #[.int .i64 ok, .int .u64 oa, .int .u64 ob, .int .i64 oc, .bool od, .int .i64 oe, .int .i64 of] 26
  rw [h2] at O00
  have bl0 : Below w.heap.size w ((((w.alloc (.cells (ccM c) 24)).alloc (.cells (wc s) 34)).alloc (.cells #[.int .i64 ok, .int .u64 oa, .int .u64 ob, .int .i64 oc, .bool od, .int .i64 oe, .int .i64 of] 26)).alloc (.cells (wc wz) 34)) := ((((Below.refl _ _).alloc (Nat.le_refl _) _).alloc (by omega) _).alloc (by omega) _).alloc (by omega) _
  have T0 : Two w (w.heap.size + 1) (w.heap.size + 3) s wz ((((w.alloc (.cells (ccM c) 24)).alloc (.cells (wc s) 34)).alloc (.cells #[.int .i64 ok, .int .u64 oa, .int .u64 ob, .int .i64 oc, .bool od, .int .i64 oe, .int .i64 of] 26)).alloc (.cells (wc wz) 34)) := ⟨(X0.alloc _).alloc _, Z0, bl0, by omega, by omega, by omega⟩
  have C0 : Bk ((((w.alloc (.cells (ccM c) 24)).alloc (.cells (wc s) 34)).alloc (.cells #[.int .i64 ok, .int .u64 oa, .int .u64 ob, .int .i64 oc, .bool od, .int .i64 oe, .int .i64 of] 26)).alloc (.cells (wc wz) 34)) w.heap.size (ccM c) 24 := (((Bk.new w (ccM c) 24).alloc _).alloc _).alloc _
  have O0 : Bk ((((w.alloc (.cells (ccM c) 24)).alloc (.cells (wc s) 34)).alloc (.cells #[.int .i64 ok, .int .u64 oa, .int .u64 ob, .int .i64 oc, .bool od, .int .i64 oe, .int .i64 of] 26)).alloc (.cells (wc wz) 34)) (w.heap.size + 2) #[.int .i64 ok, .int .u64 oa, .int .u64 ob, .int .i64 oc, .bool od, .int .i64 oe, .int .i64 of] 26 := O00.alloc _
  have AQ := (A.mono (Q := (fun b => P b ∧ b ≠ w.heap.size + 1 ∧ b ≠ w.heap.size + 3)) (fun b hb q => ⟨q, by omega, by omega⟩)).keep T0.below
  obtain ⟨v0, hv0⟩ : ∃ u, u = ((((w.alloc (.cells (ccM c) 24)).alloc (.cells (wc s) 34)).alloc (.cells #[.int .i64 ok, .int .u64 oa, .int .u64 ob, .int .i64 oc, .bool od, .int .i64 oe, .int .i64 of] 26)).alloc (.cells (wc wz) 34)) := ⟨_, rfl⟩
  rw [← hv0] at T0 C0 O0 AQ
  have l0 := T0.lt
  have l00 := T0.below.size
  clear X0 Z0 O00 bl0 h1 h2 h3
  go_enter Tryz.func13, Tryz.ntmps13
  have T3 := T0.rowX ({ s with p := { s.p with o0 := ok, o1 := oa, o2 := ob, o3 := oc, o4 := od, o5 := oe, o6 := of } } : Wk)
  have A3 := AQ.row (g := w.heap.size + 1) (fun q => q.2.1 rfl) (wc ({ s with p := { s.p with o0 := ok, o1 := oa, o2 := ob, o3 := oc, o4 := od, o5 := oe, o6 := of } } : Wk))
  have C3 := C0.setRow_far (g' := w.heap.size + 1) (by omega) (wc ({ s with p := { s.p with o0 := ok, o1 := oa, o2 := ob, o3 := oc, o4 := od, o5 := oe, o6 := of } } : Wk))
  have O3 := O0.setRow_far (g' := w.heap.size + 1) (by omega) (wc ({ s with p := { s.p with o0 := ok, o1 := oa, o2 := ob, o3 := oc, o4 := od, o5 := oe, o6 := of } } : Wk))
  obtain ⟨v3, hv3⟩ : ∃ u, u = v0.setRow (w.heap.size + 1) (wc ({ s with p := { s.p with o0 := ok, o1 := oa, o2 := ob, o3 := oc, o4 := od, o5 := oe, o6 := of } } : Wk)) := ⟨_, rfl⟩
  have hs3 : v3.heap.size = v0.heap.size := by rw [hv3]; simp
  rw [← hv3] at T3 A3 C3 O3
  have TX := T0.X
  have x3 := T3.X.cells
  have z3 := T3.X.frozen
  have e100 : (v3.cell? ⟨w.heap.size + 1, 30, none⟩).isSome = true := by rw [x3, f30]; rfl
  have T4 := T3.setX 30 (.int .u64 0) ({ s with p := { s.p with o0 := ok, o1 := oa, o2 := ob, o3 := oc, o4 := od, o5 := oe, o6 := of, t := 0 } } : Wk) rfl
  have A4 := A3.cell (g := w.heap.size + 1) (fun q => q.2.1 rfl) 30 (.int .u64 0)
  have C4 := C3.setCell_far (a := ⟨w.heap.size + 1, 30, none⟩) (by simp) (.int .u64 0)
  have O4 := O3.setCell_far (a := ⟨w.heap.size + 1, 30, none⟩) (by simp) (.int .u64 0)
  have HAS := Lib.hid (rAsks ok oa ob oc od oe of (v3.setCell ⟨w.heap.size + 1, 30, none⟩ (.int .u64 0)))
  go_wp2_with (first | ((with_reducible refine wpList_alloc_wz rfl rfl ?_); rw [← hv0]; clear hv0) | ((refine Sub.wpList_store_sub rfl 26 _ _ rfl (w.heap.size + 1) 1 #[.int .i64 ok, .int .u64 oa, .int .u64 ob, .int .i64 oc, .bool od, .int .i64 oe, .int .i64 of] rfl rfl 34 (wc s) (wc ({ s with p := { s.p with o0 := ok, o1 := oa, o2 := ob, o3 := oc, o4 := od, o5 := oe, o6 := of } } : Wk)) (by exact TX) (by kernel_rfl) (Nat.le_of_ble_eq_true (by kernel_rfl)) (by kernel_rfl) (by kernel_rfl) ?_); rw [← hv3]; clear hv3 TX) | (refine wpList_load_row rfl 26 _ rfl (w.heap.size + 2) rfl _ #[.int .i64 ok, .int .u64 oa, .int .u64 ob, .int .i64 oc, .bool od, .int .i64 oe, .int .i64 of] (0, 0) _ (by exact O0) Tryz.underlying26 rfl (by kernel_rfl) ?_) | (refine wpList_load_row rfl 26 _ rfl (w.heap.size + 2) rfl _ #[.int .i64 ok, .int .u64 oa, .int .u64 ob, .int .i64 oc, .bool od, .int .i64 oe, .int .i64 of] (0, 0) _ (by exact O3) Tryz.underlying26 rfl (by kernel_rfl) ?_) | (refine wpList_load_row rfl 26 _ rfl (w.heap.size + 2) rfl _ #[.int .i64 ok, .int .u64 oa, .int .u64 ob, .int .i64 oc, .bool od, .int .i64 oe, .int .i64 of] (0, 0) _ (by exact O4) Tryz.underlying26 rfl (by kernel_rfl) ?_))
  refine HAS.out.mono ?_
  rintro en v5 ⟨rfl, hb5⟩
  have T5 := T4.keep hb5
  have A5 := A4.keep hb5
  have C5 := C4.keep hb5
  have O5 := O4.keep hb5
  have l5 := T5.lt
  have hs5 := hb5.size
  have x5 := T5.X.cells
  have z5 := T5.X.frozen
  clear e100 x3 z3 HAS T4 A4 C4 O4 hb5
  have e2 : (freshS x ok oa ob oc od oe of tv).p.o0 = ok ∧ (freshS x ok oa ob oc od oe of tv).p.pn = x.p.pn ∧ (freshS x ok oa ob oc od oe of tv).p.br = x.p.br ∧ (freshS x ok oa ob oc od oe of tv).p.o3 = oc := ⟨rfl, rfl, rfl, rfl⟩
  cases hk : asksB ok with
  | true =>
    have e200 : ((v5).cell? ⟨w.heap.size + 1, 30, none⟩).isSome = true := by rw [T5.X.cells, f30]; rfl
    have T20 := T5.setX 30 (.int .u64 tv) ({ s with p := { s.p with o0 := ok, o1 := oa, o2 := ob, o3 := oc, o4 := od, o5 := oe, o6 := of, t := tv } } : Wk) rfl
    have A20 := A5.cell (g := w.heap.size + 1) (fun q => q.2.1 rfl) 30 (.int .u64 tv)
    have C20 := C5.setCell_far (a := ⟨w.heap.size + 1, 30, none⟩) (by simp) (.int .u64 tv)
    have O20 := O5.setCell_far (a := ⟨w.heap.size + 1, 30, none⟩) (by simp) (.int .u64 tv)
    clear T5 A5 C5 O5
    have e201 : (((v5).setCell ⟨w.heap.size + 1, 30, none⟩ (.int .u64 tv)).cell? ⟨w.heap.size + 1, 29, none⟩).isSome = true := by rw [T20.X.cells, f29]; rfl
    have T21 := T20.setX 29 (.slice none 0 0) ({ s with p := { s.p with o0 := ok, o1 := oa, o2 := ob, o3 := oc, o4 := od, o5 := oe, o6 := of, t := tv }, rd := nilS } : Wk) rfl
    have A21 := A20.cell (g := w.heap.size + 1) (fun q => q.2.1 rfl) 29 (.slice none 0 0)
    have C21 := C20.setCell_far (a := ⟨w.heap.size + 1, 29, none⟩) (by simp) (.slice none 0 0)
    have O21 := O20.setCell_far (a := ⟨w.heap.size + 1, 29, none⟩) (by simp) (.slice none 0 0)
    clear T20 A20 C20 O20
    have e202 : ((((v5).setCell ⟨w.heap.size + 1, 30, none⟩ (.int .u64 tv)).setCell ⟨w.heap.size + 1, 29, none⟩ (.slice none 0 0)).cell? ⟨w.heap.size + 1, 31, none⟩).isSome = true := by rw [T21.X.cells, f31]; rfl
    have T22 := T21.setX 31 (.int .i64 0) ({ s with p := { s.p with o0 := ok, o1 := oa, o2 := ob, o3 := oc, o4 := od, o5 := oe, o6 := of, t := tv, rt := 0 }, rd := nilS } : Wk) rfl
    have A22 := A21.cell (g := w.heap.size + 1) (fun q => q.2.1 rfl) 31 (.int .i64 0)
    have C22 := C21.setCell_far (a := ⟨w.heap.size + 1, 31, none⟩) (by simp) (.int .i64 0)
    have O22 := O21.setCell_far (a := ⟨w.heap.size + 1, 31, none⟩) (by simp) (.int .i64 0)
    clear T21 A21 C21 O21
    have e203 : (((((v5).setCell ⟨w.heap.size + 1, 30, none⟩ (.int .u64 tv)).setCell ⟨w.heap.size + 1, 29, none⟩ (.slice none 0 0)).setCell ⟨w.heap.size + 1, 31, none⟩ (.int .i64 0)).cell? ⟨w.heap.size + 1, 32, none⟩).isSome = true := by rw [T22.X.cells, f32]; rfl
    have T23 := T22.setX 32 (.bool false) ({ s with p := { s.p with o0 := ok, o1 := oa, o2 := ob, o3 := oc, o4 := od, o5 := oe, o6 := of, t := tv, rt := 0, gv := false }, rd := nilS } : Wk) rfl
    have A23 := A22.cell (g := w.heap.size + 1) (fun q => q.2.1 rfl) 32 (.bool false)
    have C23 := C22.setCell_far (a := ⟨w.heap.size + 1, 32, none⟩) (by simp) (.bool false)
    have O23 := O22.setCell_far (a := ⟨w.heap.size + 1, 32, none⟩) (by simp) (.bool false)
    clear T22 A22 C22 O22
    obtain ⟨v6, hv6⟩ : ∃ u, u = ((((v5).setCell ⟨w.heap.size + 1, 30, none⟩ (.int .u64 tv)).setCell ⟨w.heap.size + 1, 29, none⟩ (.slice none 0 0)).setCell ⟨w.heap.size + 1, 31, none⟩ (.int .i64 0)).setCell ⟨w.heap.size + 1, 32, none⟩ (.bool false) := ⟨_, rfl⟩
    rw [← hv6] at T23 A23 C23 O23
    go_upto_region 8 with fail
    rw [← hv6]
    clear hv6 e200 e201 e202 e203 x5 z5
    have xs1 := T23.X.cells
    have zs1 := T23.X.frozen
    have e204 : ((v6).cell? ⟨w.heap.size + 1, 18, none⟩).isSome = true := by rw [T23.X.cells, f18]; rfl
    have T24 := T23.setX 18 (.int .i64 0) ({ s with p := { s.p with o0 := ok, o1 := oa, o2 := ob, o3 := oc, o4 := od, o5 := oe, o6 := of, t := tv, rt := 0, gv := false, b := 0 }, rd := nilS } : Wk) rfl
    have A24 := A23.cell (g := w.heap.size + 1) (fun q => q.2.1 rfl) 18 (.int .i64 0)
    have C24 := C23.setCell_far (a := ⟨w.heap.size + 1, 18, none⟩) (by simp) (.int .i64 0)
    have O24 := O23.setCell_far (a := ⟨w.heap.size + 1, 18, none⟩) (by simp) (.int .i64 0)
    clear T23 A23 C23 O23
    have e205 : (((v6).setCell ⟨w.heap.size + 1, 18, none⟩ (.int .i64 0)).cell? ⟨w.heap.size + 1, 19, none⟩).isSome = true := by rw [T24.X.cells, f19]; rfl
    have T25 := T24.setX 19 (.int .i64 0) ({ s with p := { s.p with o0 := ok, o1 := oa, o2 := ob, o3 := oc, o4 := od, o5 := oe, o6 := of, t := tv, rt := 0, gv := false, b := 0, k := 0 }, rd := nilS } : Wk) rfl
    have A25 := A24.cell (g := w.heap.size + 1) (fun q => q.2.1 rfl) 19 (.int .i64 0)
    have C25 := C24.setCell_far (a := ⟨w.heap.size + 1, 19, none⟩) (by simp) (.int .i64 0)
    have O25 := O24.setCell_far (a := ⟨w.heap.size + 1, 19, none⟩) (by simp) (.int .i64 0)
    clear T24 A24 C24 O24
    have e206 : ((((v6).setCell ⟨w.heap.size + 1, 18, none⟩ (.int .i64 0)).setCell ⟨w.heap.size + 1, 19, none⟩ (.int .i64 0)).cell? ⟨w.heap.size + 1, 20, none⟩).isSome = true := by rw [T25.X.cells, f20]; rfl
    have T26 := T25.setX 20 (.int .i64 0) ({ s with p := { s.p with o0 := ok, o1 := oa, o2 := ob, o3 := oc, o4 := od, o5 := oe, o6 := of, t := tv, rt := 0, gv := false, b := 0, k := 0, i := 0 }, rd := nilS } : Wk) rfl
    have A26 := A25.cell (g := w.heap.size + 1) (fun q => q.2.1 rfl) 20 (.int .i64 0)
    have C26 := C25.setCell_far (a := ⟨w.heap.size + 1, 20, none⟩) (by simp) (.int .i64 0)
    have O26 := O25.setCell_far (a := ⟨w.heap.size + 1, 20, none⟩) (by simp) (.int .i64 0)
    clear T25 A25 C25 O25
    have e207 : (((((v6).setCell ⟨w.heap.size + 1, 18, none⟩ (.int .i64 0)).setCell ⟨w.heap.size + 1, 19, none⟩ (.int .i64 0)).setCell ⟨w.heap.size + 1, 20, none⟩ (.int .i64 0)).cell? ⟨w.heap.size + 1, 21, none⟩).isSome = true := by rw [T26.X.cells, f21]; rfl
    have T27 := T26.setX 21 (.int .i64 0) ({ s with p := { s.p with o0 := ok, o1 := oa, o2 := ob, o3 := oc, o4 := od, o5 := oe, o6 := of, t := tv, rt := 0, gv := false, b := 0, k := 0, i := 0, c := 0 }, rd := nilS } : Wk) rfl
    have A27 := A26.cell (g := w.heap.size + 1) (fun q => q.2.1 rfl) 21 (.int .i64 0)
    have C27 := C26.setCell_far (a := ⟨w.heap.size + 1, 21, none⟩) (by simp) (.int .i64 0)
    have O27 := O26.setCell_far (a := ⟨w.heap.size + 1, 21, none⟩) (by simp) (.int .i64 0)
    clear T26 A26 C26 O26
    have e208 : ((((((v6).setCell ⟨w.heap.size + 1, 18, none⟩ (.int .i64 0)).setCell ⟨w.heap.size + 1, 19, none⟩ (.int .i64 0)).setCell ⟨w.heap.size + 1, 20, none⟩ (.int .i64 0)).setCell ⟨w.heap.size + 1, 21, none⟩ (.int .i64 0)).cell? ⟨w.heap.size + 1, 28, none⟩).isSome = true := by rw [T27.X.cells, f28]; rfl
    have T28 := T27.setX 28 (.int .i64 0) ({ s with p := { s.p with o0 := ok, o1 := oa, o2 := ob, o3 := oc, o4 := od, o5 := oe, o6 := of, t := tv, rt := 0, gv := false, b := 0, k := 0, i := 0, c := 0, j := 0 }, rd := nilS } : Wk) rfl
    have A28 := A27.cell (g := w.heap.size + 1) (fun q => q.2.1 rfl) 28 (.int .i64 0)
    have C28 := C27.setCell_far (a := ⟨w.heap.size + 1, 28, none⟩) (by simp) (.int .i64 0)
    have O28 := O27.setCell_far (a := ⟨w.heap.size + 1, 28, none⟩) (by simp) (.int .i64 0)
    clear T27 A27 C27 O27
    obtain ⟨v7, hv7⟩ : ∃ u, u = (((((v6).setCell ⟨w.heap.size + 1, 18, none⟩ (.int .i64 0)).setCell ⟨w.heap.size + 1, 19, none⟩ (.int .i64 0)).setCell ⟨w.heap.size + 1, 20, none⟩ (.int .i64 0)).setCell ⟨w.heap.size + 1, 21, none⟩ (.int .i64 0)).setCell ⟨w.heap.size + 1, 28, none⟩ (.int .i64 0) := ⟨_, rfl⟩
    rw [← hv7] at T28 A28 C28 O28
    go_upto_region 13 with fail
    rw [← hv7]
    clear hv7 e204 e205 e206 e207 e208 xs1 zs1
    have TF := T28
    have CF := C28
    have OF := O28
    have lF := TF.lt
    have lFF := TF.below.size
    have AF : LiesP (fun b => P b ∧ b ≠ w.heap.size + 1 ∧ b ≠ w.heap.size + 3) v7 ({ s with p := { s.p with o0 := ok, o1 := oa, o2 := ob, o3 := oc, o4 := od, o5 := oe, o6 := of, t := tv, rt := 0, gv := false, b := 0, k := 0, i := 0, c := 0, j := 0 }, rd := nilS } : Wk) (freshS x ok oa ob oc od oe of tv) := ⟨by unfold freshS; rw [hk, A28.p]; rfl, A28.rk, A28.l0, A28.l1, A28.l2, A28.hl, ⟨Reads.nil _ _, .inl rfl⟩⟩
    have hxF : Few 900 (freshS x ok oa ob oc od oe of tv) := ⟨hx.rk, hx.l0, hx.l1, hx.l2, hx.hl, Nat.zero_le _⟩
    clear T28 A28 C28 O28
    obtain ⟨pb, h_pn⟩ : ∃ k, x.p.pn = k := ⟨_, rfl⟩
    obtain ⟨br0, h_br⟩ : ∃ k, x.p.br = k := ⟨_, rfl⟩
    have q8 : (wc ({ s with p := { s.p with o0 := ok, o1 := oa, o2 := ob, o3 := oc, o4 := od, o5 := oe, o6 := of, t := tv, rt := 0, gv := false, b := 0, k := 0, i := 0, c := 0, j := 0 }, rd := nilS } : Wk))[8]? = some (.bool pb) := by rw [show (wc ({ s with p := { s.p with o0 := ok, o1 := oa, o2 := ob, o3 := oc, o4 := od, o5 := oe, o6 := of, t := tv, rt := 0, gv := false, b := 0, k := 0, i := 0, c := 0, j := 0 }, rd := nilS } : Wk))[8]? = some (.bool s.p.pn) from rfl, A.p, h_pn]
    have q22 : (wc ({ s with p := { s.p with o0 := ok, o1 := oa, o2 := ob, o3 := oc, o4 := od, o5 := oe, o6 := of, t := tv, rt := 0, gv := false, b := 0, k := 0, i := 0, c := 0, j := 0 }, rd := nilS } : Wk))[22]? = some (.int .i64 br0) := by rw [show (wc ({ s with p := { s.p with o0 := ok, o1 := oa, o2 := ob, o3 := oc, o4 := od, o5 := oe, o6 := of, t := tv, rt := 0, gv := false, b := 0, k := 0, i := 0, c := 0, j := 0 }, rd := nilS } : Wk))[22]? = some (.int .i64 s.p.br) from rfl, A.p, h_br]
    have hey := HEY.out
    unfold beginS startS at hey
    have HEY := Lib.hid hey
    clear hey
    have hey := HEY.out
    rw [e2.1, e2.2.1, e2.2.2.1, e2.2.2.2, h_pn, h_br] at hey
    have HEY := Lib.hid hey
    clear hey
    have h_pn' := h_pn
    clear e2 h_pn h_br
    have xF := TF.X.cells
    have oF := OF.cells
    have h1 : ¬ ok = 1 := by intro e; subst e; simp [asksB] at hk
    have hey := HEY.out
    rw [if_neg h1] at hey
    have HEY := Lib.hid hey
    clear hey
    have t1 : (ok == 1) = false := by simp [h1]
    have h2 : ¬ ok = 2 := by intro e; subst e; simp [asksB] at hk
    have hey := HEY.out
    rw [if_neg h2] at hey
    have HEY := Lib.hid hey
    clear hey
    have t2 : (ok == 2) = false := by simp [h2]
    have h7 : ¬ ok = 7 := by intro e; subst e; simp [asksB] at hk
    have hey := HEY.out
    rw [if_neg h7] at hey
    have HEY := Lib.hid hey
    clear hey
    have t7 : (ok == 7) = false := by simp [h7]
    have h8 : ¬ ok = 8 := by intro e; subst e; simp [asksB] at hk
    have hey := HEY.out
    rw [if_neg h8] at hey
    have HEY := Lib.hid hey
    clear hey
    have t8 : (ok == 8) = false := by simp [h8]
    have h9 : ¬ ok = 9 := by intro e; subst e; simp [asksB] at hk
    have hey := HEY.out
    rw [if_neg h9] at hey
    have HEY := Lib.hid hey
    clear hey
    have t9 : (ok == 9) = false := by simp [h9]
    have hq : ok = 4 ∨ ok = 5 ∨ ok = 6 := by unfold asksB at hk; simp at hk; omega
    have hey := HEY.out
    rw [if_pos hq] at hey
    have HEY := Lib.hid hey
    clear hey
    have hsh := asks_shares hk
    have hT : (freshS x ok oa ob oc od oe of tv).p.t = tv := by unfold freshS; rw [hk]; rfl
    have hey := HEY.out
    rw [hT] at hey
    have HEY := Lib.hid hey
    clear hey
    clear hT hq h1 h2 h7 h8 h9
    have HS_ := Lib.hid (hsh ▸ rShares ok oa ob oc od oe of (v7))
    go_wp2_with (first | (refine wpList_load_row rfl 26 _ rfl (w.heap.size + 2) rfl _ #[.int .i64 ok, .int .u64 oa, .int .u64 ob, .int .i64 oc, .bool od, .int .i64 oe, .int .i64 of] (0, 0) _ (by exact OF) Tryz.underlying26 rfl (by kernel_rfl) ?_) | (refine wpList_load_row_w rfl 24 _ rfl w.heap.size rfl _ (ccM c) (0, 0) _ (by exact CF) Tryz.underlying24 rfl (by kernel_rfl) ?_))
    refine HS_.out.mono ?_
    rintro en y1 ⟨rfl, hb_⟩
    clear HS_
    have TG := TF.keep hb_
    have AG := AF.keep hb_
    have CG := CF.keep hb_
    have OG := OF.keep hb_
    have lG := TG.lt
    have lGG := hb_.size
    clear TF AF CF OF hb_
    have TF := TG
    have AF := AG
    have CF := CG
    have OF := OG
    clear TG AG CG OG
    have HS_ := Lib.hid (hk ▸ rAsks ok oa ob oc od oe of y1)
    go_wp2_with (first | (refine wpList_load_row rfl 26 _ rfl (w.heap.size + 2) rfl _ #[.int .i64 ok, .int .u64 oa, .int .u64 ob, .int .i64 oc, .bool od, .int .i64 oe, .int .i64 of] (0, 0) _ (by exact OF) Tryz.underlying26 rfl (by kernel_rfl) ?_) | (refine wpList_load_row_w rfl 24 _ rfl w.heap.size rfl _ (ccM c) (0, 0) _ (by exact CF) Tryz.underlying24 rfl (by kernel_rfl) ?_))
    refine HS_.out.mono ?_
    rintro en y2 ⟨rfl, hb_⟩
    clear HS_
    have TG := TF.keep hb_
    have AG := AF.keep hb_
    have CG := CF.keep hb_
    have OG := OF.keep hb_
    have lG := TG.lt
    have lGG := hb_.size
    clear TF AF CF OF hb_
    have TF := TG
    have AF := AG
    have CF := CG
    have OF := OG
    clear TG AG CG OG
    have HG0 := rGood c hf tv ht y2
    unfold LvRet at HG0
    clear hsh hk
    cases hgd : goodB c tv with
    | false =>
      have hey := HEY.out
      rw [if_neg (by rw [hgd]; decide)] at hey
      have HEY := Lib.hid hey
      clear hey
      rw [hgd] at HG0
      clear hgd
      have HS_ := Lib.hid HG0
      clear HG0
      go_wp2_with (first | (refine wpList_load_row rfl 26 _ rfl (w.heap.size + 2) rfl _ #[.int .i64 ok, .int .u64 oa, .int .u64 ob, .int .i64 oc, .bool od, .int .i64 oe, .int .i64 of] (0, 0) _ (by exact OF) Tryz.underlying26 rfl (by kernel_rfl) ?_) | (refine wpList_load_row_w rfl 24 _ rfl w.heap.size rfl _ (ccM c) (0, 0) _ (by exact CF) Tryz.underlying24 rfl (by kernel_rfl) ?_))
      refine HS_.out.mono ?_
      rintro en y3 ⟨rfl, hb_⟩
      clear HS_
      have TG := TF.keep hb_
      have AG := AF.keep hb_
      have CG := CF.keep hb_
      have OG := OF.keep hb_
      have lG := TG.lt
      have lGG := hb_.size
      clear TF AF CF OF hb_
      have TF := TG
      have AF := AG
      have CF := CG
      have OF := OG
      clear TG AG CG OG
      have HC := Lib.hid (rOver (P := fun b => P b ∧ b ≠ w.heap.size + 1 ∧ b ≠ w.heap.size + 3) (fun b hb => ⟨hP b (by omega), by omega, by omega⟩) AF 8)
      clear AF
      go_wp2_with (first | (refine wpList_load_row rfl 34 _ rfl (w.heap.size + 1) rfl _ (wc ({ s with p := { s.p with o0 := ok, o1 := oa, o2 := ob, o3 := oc, o4 := od, o5 := oe, o6 := of, t := tv, rt := 0, gv := false, b := 0, k := 0, i := 0, c := 0, j := 0 }, rd := nilS } : Wk)) (0, 0) _ (by exact TF.X) Tryz.underlying34 rfl (by kernel_rfl) ?_))
      refine HC.out.mono ?_
      rintro e w9 ⟨s9, rfl, A9, hb9⟩
      have T9 := TF.keep hb9
      clear CF OF
      go_wp2_with (first | (refine wpList_store_row rfl 34 _ _ rfl (w.heap.size + 3) (wc s9) rfl rfl _ _ (by exact T9.Z) (by kernel_rfl) (by kernel_rfl) (by kernel_rfl) ?_))
      have ZF := T9.rowZ s9
      obtain rfl := HEY.out
      refine bodyPost_ret (v := wv s9) ?_ rfl ⟨s9, rfl, ((A9.row (g := w.heap.size + 3) (fun q => q.2.2 rfl) _).mono (fun b _ q => q.1)), ZF.below⟩
      exact results_cell_row (p := 8) (ty := 34) Tryz.results13 _ _ (w.heap.size + 3) 34 _ (0, 0) _ rfl ZF.Z Tryz.underlying34 rfl (by kernel_rfl)
    | true =>
      have hey := HEY.out
      rw [if_pos hgd] at hey
      have HEY := Lib.hid hey
      clear hey
      rw [hgd] at HG0
      clear hgd
      have HS_ := Lib.hid HG0
      clear HG0
      go_wp2_with (first | (refine wpList_load_row rfl 26 _ rfl (w.heap.size + 2) rfl _ #[.int .i64 ok, .int .u64 oa, .int .u64 ob, .int .i64 oc, .bool od, .int .i64 oe, .int .i64 of] (0, 0) _ (by exact OF) Tryz.underlying26 rfl (by kernel_rfl) ?_) | (refine wpList_load_row_w rfl 24 _ rfl w.heap.size rfl _ (ccM c) (0, 0) _ (by exact CF) Tryz.underlying24 rfl (by kernel_rfl) ?_))
      refine HS_.out.mono ?_
      rintro en y3 ⟨rfl, hb_⟩
      clear HS_
      have TG := TF.keep hb_
      have AG := AF.keep hb_
      have CG := CF.keep hb_
      have OG := OF.keep hb_
      have lG := TG.lt
      have lGG := hb_.size
      clear TF AF CF OF hb_
      have TF := TG
      have AF := AG
      have CF := CG
      have OF := OG
      clear TG AG CG OG
      have hey := HEY.out
      unfold enterS at hey
      have HEY := Lib.hid hey
      clear hey
      have hey := HEY.out
      rw [show (freshS x ok oa ob oc od oe of tv).p.pn = x.p.pn from rfl, h_pn'] at hey
      have HEY := Lib.hid hey
      clear hey
      have xG := TF.X.cells
      cases pb with
      | true =>
        have hey := HEY.out
        rw [if_pos rfl] at hey
        have HEY := Lib.hid hey
        clear hey
        have HC := Lib.hid (rBody (P := fun b => P b ∧ b ≠ w.heap.size + 1 ∧ b ≠ w.heap.size + 3) (fun b hb => ⟨hP b (by omega), by omega, by omega⟩) AF hxF)
        clear AF
        go_wp2_with (first | (refine wpList_load_row rfl 34 _ rfl (w.heap.size + 1) rfl _ (wc ({ s with p := { s.p with o0 := ok, o1 := oa, o2 := ob, o3 := oc, o4 := od, o5 := oe, o6 := of, t := tv, rt := 0, gv := false, b := 0, k := 0, i := 0, c := 0, j := 0 }, rd := nilS } : Wk)) (0, 0) _ (by exact TF.X) Tryz.underlying34 rfl (by kernel_rfl) ?_))
        refine HC.out.mono ?_
        rintro e w9 ⟨s9, rfl, A9, hb9⟩
        have T9 := TF.keep hb9
        clear CF OF
        go_wp2_with (first | (refine wpList_store_row rfl 34 _ _ rfl (w.heap.size + 3) (wc s9) rfl rfl _ _ (by exact T9.Z) (by kernel_rfl) (by kernel_rfl) (by kernel_rfl) ?_))
        have ZF := T9.rowZ s9
        obtain rfl := HEY.out
        refine bodyPost_ret (v := wv s9) ?_ rfl ⟨s9, rfl, ((A9.row (g := w.heap.size + 3) (fun q => q.2.2 rfl) _).mono (fun b _ q => q.1)), ZF.below⟩
        exact results_cell_row (p := 8) (ty := 34) Tryz.results13 _ _ (w.heap.size + 3) 34 _ (0, 0) _ rfl ZF.Z Tryz.underlying34 rfl (by kernel_rfl)
      | false =>
        have hey := HEY.out
        rw [if_neg (by decide)] at hey
        have HEY := Lib.hid hey
        clear hey
        have HC := Lib.hid (rTo (P := fun b => P b ∧ b ≠ w.heap.size + 1 ∧ b ≠ w.heap.size + 3) (fun b hb => ⟨hP b (by omega), by omega, by omega⟩) AF 1)
        clear AF
        go_wp2_with (first | (refine wpList_load_row rfl 34 _ rfl (w.heap.size + 1) rfl _ (wc ({ s with p := { s.p with o0 := ok, o1 := oa, o2 := ob, o3 := oc, o4 := od, o5 := oe, o6 := of, t := tv, rt := 0, gv := false, b := 0, k := 0, i := 0, c := 0, j := 0 }, rd := nilS } : Wk)) (0, 0) _ (by exact TF.X) Tryz.underlying34 rfl (by kernel_rfl) ?_))
        refine HC.out.mono ?_
        rintro e w9 ⟨s9, rfl, A9, hb9⟩
        have T9 := TF.keep hb9
        clear CF OF
        go_wp2_with (first | (refine wpList_store_row rfl 34 _ _ rfl (w.heap.size + 3) (wc s9) rfl rfl _ _ (by exact T9.Z) (by kernel_rfl) (by kernel_rfl) (by kernel_rfl) ?_))
        have ZF := T9.rowZ s9
        obtain rfl := HEY.out
        refine bodyPost_ret (v := wv s9) ?_ rfl ⟨s9, rfl, ((A9.row (g := w.heap.size + 3) (fun q => q.2.2 rfl) _).mono (fun b _ q => q.1)), ZF.below⟩
        exact results_cell_row (p := 8) (ty := 34) Tryz.results13 _ _ (w.heap.size + 3) 34 _ (0, 0) _ rfl ZF.Z Tryz.underlying34 rfl (by kernel_rfl)
  | false =>
    have e200 : ((v5).cell? ⟨w.heap.size + 1, 29, none⟩).isSome = true := by rw [T5.X.cells, f29]; rfl
    have T20 := T5.setX 29 (.slice none 0 0) ({ s with p := { s.p with o0 := ok, o1 := oa, o2 := ob, o3 := oc, o4 := od, o5 := oe, o6 := of, t := 0 }, rd := nilS } : Wk) rfl
    have A20 := A5.cell (g := w.heap.size + 1) (fun q => q.2.1 rfl) 29 (.slice none 0 0)
    have C20 := C5.setCell_far (a := ⟨w.heap.size + 1, 29, none⟩) (by simp) (.slice none 0 0)
    have O20 := O5.setCell_far (a := ⟨w.heap.size + 1, 29, none⟩) (by simp) (.slice none 0 0)
    clear T5 A5 C5 O5
    have e201 : (((v5).setCell ⟨w.heap.size + 1, 29, none⟩ (.slice none 0 0)).cell? ⟨w.heap.size + 1, 31, none⟩).isSome = true := by rw [T20.X.cells, f31]; rfl
    have T21 := T20.setX 31 (.int .i64 0) ({ s with p := { s.p with o0 := ok, o1 := oa, o2 := ob, o3 := oc, o4 := od, o5 := oe, o6 := of, t := 0, rt := 0 }, rd := nilS } : Wk) rfl
    have A21 := A20.cell (g := w.heap.size + 1) (fun q => q.2.1 rfl) 31 (.int .i64 0)
    have C21 := C20.setCell_far (a := ⟨w.heap.size + 1, 31, none⟩) (by simp) (.int .i64 0)
    have O21 := O20.setCell_far (a := ⟨w.heap.size + 1, 31, none⟩) (by simp) (.int .i64 0)
    clear T20 A20 C20 O20
    have e202 : ((((v5).setCell ⟨w.heap.size + 1, 29, none⟩ (.slice none 0 0)).setCell ⟨w.heap.size + 1, 31, none⟩ (.int .i64 0)).cell? ⟨w.heap.size + 1, 32, none⟩).isSome = true := by rw [T21.X.cells, f32]; rfl
    have T22 := T21.setX 32 (.bool false) ({ s with p := { s.p with o0 := ok, o1 := oa, o2 := ob, o3 := oc, o4 := od, o5 := oe, o6 := of, t := 0, rt := 0, gv := false }, rd := nilS } : Wk) rfl
    have A22 := A21.cell (g := w.heap.size + 1) (fun q => q.2.1 rfl) 32 (.bool false)
    have C22 := C21.setCell_far (a := ⟨w.heap.size + 1, 32, none⟩) (by simp) (.bool false)
    have O22 := O21.setCell_far (a := ⟨w.heap.size + 1, 32, none⟩) (by simp) (.bool false)
    clear T21 A21 C21 O21
    obtain ⟨v6, hv6⟩ : ∃ u, u = (((v5).setCell ⟨w.heap.size + 1, 29, none⟩ (.slice none 0 0)).setCell ⟨w.heap.size + 1, 31, none⟩ (.int .i64 0)).setCell ⟨w.heap.size + 1, 32, none⟩ (.bool false) := ⟨_, rfl⟩
    rw [← hv6] at T22 A22 C22 O22
    go_upto_region 8 with fail
    rw [← hv6]
    clear hv6 e200 e201 e202 x5 z5
    have xs1 := T22.X.cells
    have zs1 := T22.X.frozen
    have e203 : ((v6).cell? ⟨w.heap.size + 1, 18, none⟩).isSome = true := by rw [T22.X.cells, f18]; rfl
    have T23 := T22.setX 18 (.int .i64 0) ({ s with p := { s.p with o0 := ok, o1 := oa, o2 := ob, o3 := oc, o4 := od, o5 := oe, o6 := of, t := 0, rt := 0, gv := false, b := 0 }, rd := nilS } : Wk) rfl
    have A23 := A22.cell (g := w.heap.size + 1) (fun q => q.2.1 rfl) 18 (.int .i64 0)
    have C23 := C22.setCell_far (a := ⟨w.heap.size + 1, 18, none⟩) (by simp) (.int .i64 0)
    have O23 := O22.setCell_far (a := ⟨w.heap.size + 1, 18, none⟩) (by simp) (.int .i64 0)
    clear T22 A22 C22 O22
    have e204 : (((v6).setCell ⟨w.heap.size + 1, 18, none⟩ (.int .i64 0)).cell? ⟨w.heap.size + 1, 19, none⟩).isSome = true := by rw [T23.X.cells, f19]; rfl
    have T24 := T23.setX 19 (.int .i64 0) ({ s with p := { s.p with o0 := ok, o1 := oa, o2 := ob, o3 := oc, o4 := od, o5 := oe, o6 := of, t := 0, rt := 0, gv := false, b := 0, k := 0 }, rd := nilS } : Wk) rfl
    have A24 := A23.cell (g := w.heap.size + 1) (fun q => q.2.1 rfl) 19 (.int .i64 0)
    have C24 := C23.setCell_far (a := ⟨w.heap.size + 1, 19, none⟩) (by simp) (.int .i64 0)
    have O24 := O23.setCell_far (a := ⟨w.heap.size + 1, 19, none⟩) (by simp) (.int .i64 0)
    clear T23 A23 C23 O23
    have e205 : ((((v6).setCell ⟨w.heap.size + 1, 18, none⟩ (.int .i64 0)).setCell ⟨w.heap.size + 1, 19, none⟩ (.int .i64 0)).cell? ⟨w.heap.size + 1, 20, none⟩).isSome = true := by rw [T24.X.cells, f20]; rfl
    have T25 := T24.setX 20 (.int .i64 0) ({ s with p := { s.p with o0 := ok, o1 := oa, o2 := ob, o3 := oc, o4 := od, o5 := oe, o6 := of, t := 0, rt := 0, gv := false, b := 0, k := 0, i := 0 }, rd := nilS } : Wk) rfl
    have A25 := A24.cell (g := w.heap.size + 1) (fun q => q.2.1 rfl) 20 (.int .i64 0)
    have C25 := C24.setCell_far (a := ⟨w.heap.size + 1, 20, none⟩) (by simp) (.int .i64 0)
    have O25 := O24.setCell_far (a := ⟨w.heap.size + 1, 20, none⟩) (by simp) (.int .i64 0)
    clear T24 A24 C24 O24
    have e206 : (((((v6).setCell ⟨w.heap.size + 1, 18, none⟩ (.int .i64 0)).setCell ⟨w.heap.size + 1, 19, none⟩ (.int .i64 0)).setCell ⟨w.heap.size + 1, 20, none⟩ (.int .i64 0)).cell? ⟨w.heap.size + 1, 21, none⟩).isSome = true := by rw [T25.X.cells, f21]; rfl
    have T26 := T25.setX 21 (.int .i64 0) ({ s with p := { s.p with o0 := ok, o1 := oa, o2 := ob, o3 := oc, o4 := od, o5 := oe, o6 := of, t := 0, rt := 0, gv := false, b := 0, k := 0, i := 0, c := 0 }, rd := nilS } : Wk) rfl
    have A26 := A25.cell (g := w.heap.size + 1) (fun q => q.2.1 rfl) 21 (.int .i64 0)
    have C26 := C25.setCell_far (a := ⟨w.heap.size + 1, 21, none⟩) (by simp) (.int .i64 0)
    have O26 := O25.setCell_far (a := ⟨w.heap.size + 1, 21, none⟩) (by simp) (.int .i64 0)
    clear T25 A25 C25 O25
    have e207 : ((((((v6).setCell ⟨w.heap.size + 1, 18, none⟩ (.int .i64 0)).setCell ⟨w.heap.size + 1, 19, none⟩ (.int .i64 0)).setCell ⟨w.heap.size + 1, 20, none⟩ (.int .i64 0)).setCell ⟨w.heap.size + 1, 21, none⟩ (.int .i64 0)).cell? ⟨w.heap.size + 1, 28, none⟩).isSome = true := by rw [T26.X.cells, f28]; rfl
    have T27 := T26.setX 28 (.int .i64 0) ({ s with p := { s.p with o0 := ok, o1 := oa, o2 := ob, o3 := oc, o4 := od, o5 := oe, o6 := of, t := 0, rt := 0, gv := false, b := 0, k := 0, i := 0, c := 0, j := 0 }, rd := nilS } : Wk) rfl
    have A27 := A26.cell (g := w.heap.size + 1) (fun q => q.2.1 rfl) 28 (.int .i64 0)
    have C27 := C26.setCell_far (a := ⟨w.heap.size + 1, 28, none⟩) (by simp) (.int .i64 0)
    have O27 := O26.setCell_far (a := ⟨w.heap.size + 1, 28, none⟩) (by simp) (.int .i64 0)
    clear T26 A26 C26 O26
    obtain ⟨v7, hv7⟩ : ∃ u, u = (((((v6).setCell ⟨w.heap.size + 1, 18, none⟩ (.int .i64 0)).setCell ⟨w.heap.size + 1, 19, none⟩ (.int .i64 0)).setCell ⟨w.heap.size + 1, 20, none⟩ (.int .i64 0)).setCell ⟨w.heap.size + 1, 21, none⟩ (.int .i64 0)).setCell ⟨w.heap.size + 1, 28, none⟩ (.int .i64 0) := ⟨_, rfl⟩
    rw [← hv7] at T27 A27 C27 O27
    go_upto_region 13 with fail
    rw [← hv7]
    clear hv7 e203 e204 e205 e206 e207 xs1 zs1
    have TF := T27
    have CF := C27
    have OF := O27
    have lF := TF.lt
    have lFF := TF.below.size
    have AF : LiesP (fun b => P b ∧ b ≠ w.heap.size + 1 ∧ b ≠ w.heap.size + 3) v7 ({ s with p := { s.p with o0 := ok, o1 := oa, o2 := ob, o3 := oc, o4 := od, o5 := oe, o6 := of, t := 0, rt := 0, gv := false, b := 0, k := 0, i := 0, c := 0, j := 0 }, rd := nilS } : Wk) (freshS x ok oa ob oc od oe of tv) := ⟨by unfold freshS; rw [hk, A27.p]; rfl, A27.rk, A27.l0, A27.l1, A27.l2, A27.hl, ⟨Reads.nil _ _, .inl rfl⟩⟩
    have hxF : Few 900 (freshS x ok oa ob oc od oe of tv) := ⟨hx.rk, hx.l0, hx.l1, hx.l2, hx.hl, Nat.zero_le _⟩
    clear T27 A27 C27 O27
    obtain ⟨pb, h_pn⟩ : ∃ k, x.p.pn = k := ⟨_, rfl⟩
    obtain ⟨br0, h_br⟩ : ∃ k, x.p.br = k := ⟨_, rfl⟩
    have q8 : (wc ({ s with p := { s.p with o0 := ok, o1 := oa, o2 := ob, o3 := oc, o4 := od, o5 := oe, o6 := of, t := 0, rt := 0, gv := false, b := 0, k := 0, i := 0, c := 0, j := 0 }, rd := nilS } : Wk))[8]? = some (.bool pb) := by rw [show (wc ({ s with p := { s.p with o0 := ok, o1 := oa, o2 := ob, o3 := oc, o4 := od, o5 := oe, o6 := of, t := 0, rt := 0, gv := false, b := 0, k := 0, i := 0, c := 0, j := 0 }, rd := nilS } : Wk))[8]? = some (.bool s.p.pn) from rfl, A.p, h_pn]
    have q22 : (wc ({ s with p := { s.p with o0 := ok, o1 := oa, o2 := ob, o3 := oc, o4 := od, o5 := oe, o6 := of, t := 0, rt := 0, gv := false, b := 0, k := 0, i := 0, c := 0, j := 0 }, rd := nilS } : Wk))[22]? = some (.int .i64 br0) := by rw [show (wc ({ s with p := { s.p with o0 := ok, o1 := oa, o2 := ob, o3 := oc, o4 := od, o5 := oe, o6 := of, t := 0, rt := 0, gv := false, b := 0, k := 0, i := 0, c := 0, j := 0 }, rd := nilS } : Wk))[22]? = some (.int .i64 s.p.br) from rfl, A.p, h_br]
    have hey := HEY.out
    unfold beginS startS at hey
    have HEY := Lib.hid hey
    clear hey
    have hey := HEY.out
    rw [e2.1, e2.2.1, e2.2.2.1, e2.2.2.2, h_pn, h_br] at hey
    have HEY := Lib.hid hey
    clear hey
    have h_pn' := h_pn
    clear e2 h_pn h_br
    have xF := TF.X.cells
    have oF := OF.cells
    by_cases h1 : ok = 1
    · have t1 : (ok == 1) = true := by simp [h1]
      have hey := HEY.out
      rw [if_pos h1] at hey
      have HEY := Lib.hid hey
      clear hey
      clear h1
      have hey := HEY.out
      unfold unlessS at hey
      have HEY := Lib.hid hey
      clear hey
      cases pb with
      | true =>
        have hey := HEY.out
        rw [if_pos rfl] at hey
        have HEY := Lib.hid hey
        clear hey
        have HC := Lib.hid (rOver (P := fun b => P b ∧ b ≠ w.heap.size + 1 ∧ b ≠ w.heap.size + 3) (fun b hb => ⟨hP b (by omega), by omega, by omega⟩) AF 9)
        clear AF
        go_wp2_with (first | (refine wpList_load_row rfl 34 _ rfl (w.heap.size + 1) rfl _ (wc ({ s with p := { s.p with o0 := ok, o1 := oa, o2 := ob, o3 := oc, o4 := od, o5 := oe, o6 := of, t := 0, rt := 0, gv := false, b := 0, k := 0, i := 0, c := 0, j := 0 }, rd := nilS } : Wk)) (0, 0) _ (by exact TF.X) Tryz.underlying34 rfl (by kernel_rfl) ?_))
        refine HC.out.mono ?_
        rintro e w9 ⟨s9, rfl, A9, hb9⟩
        have T9 := TF.keep hb9
        clear CF OF
        go_wp2_with (first | (refine wpList_store_row rfl 34 _ _ rfl (w.heap.size + 3) (wc s9) rfl rfl _ _ (by exact T9.Z) (by kernel_rfl) (by kernel_rfl) (by kernel_rfl) ?_))
        have ZF := T9.rowZ s9
        obtain rfl := HEY.out
        refine bodyPost_ret (v := wv s9) ?_ rfl ⟨s9, rfl, ((A9.row (g := w.heap.size + 3) (fun q => q.2.2 rfl) _).mono (fun b _ q => q.1)), ZF.below⟩
        exact results_cell_row (p := 8) (ty := 34) Tryz.results13 _ _ (w.heap.size + 3) 34 _ (0, 0) _ rfl ZF.Z Tryz.underlying34 rfl (by kernel_rfl)
      | false =>
        have hey := HEY.out
        rw [if_neg (by decide)] at hey
        have HEY := Lib.hid hey
        clear hey
        have HC := Lib.hid (rTo (P := fun b => P b ∧ b ≠ w.heap.size + 1 ∧ b ≠ w.heap.size + 3) (fun b hb => ⟨hP b (by omega), by omega, by omega⟩) AF 1)
        clear AF
        go_wp2_with (first | (refine wpList_load_row rfl 34 _ rfl (w.heap.size + 1) rfl _ (wc ({ s with p := { s.p with o0 := ok, o1 := oa, o2 := ob, o3 := oc, o4 := od, o5 := oe, o6 := of, t := 0, rt := 0, gv := false, b := 0, k := 0, i := 0, c := 0, j := 0 }, rd := nilS } : Wk)) (0, 0) _ (by exact TF.X) Tryz.underlying34 rfl (by kernel_rfl) ?_))
        refine HC.out.mono ?_
        rintro e w9 ⟨s9, rfl, A9, hb9⟩
        have T9 := TF.keep hb9
        clear CF OF
        go_wp2_with (first | (refine wpList_store_row rfl 34 _ _ rfl (w.heap.size + 3) (wc s9) rfl rfl _ _ (by exact T9.Z) (by kernel_rfl) (by kernel_rfl) (by kernel_rfl) ?_))
        have ZF := T9.rowZ s9
        obtain rfl := HEY.out
        refine bodyPost_ret (v := wv s9) ?_ rfl ⟨s9, rfl, ((A9.row (g := w.heap.size + 3) (fun q => q.2.2 rfl) _).mono (fun b _ q => q.1)), ZF.below⟩
        exact results_cell_row (p := 8) (ty := 34) Tryz.results13 _ _ (w.heap.size + 3) 34 _ (0, 0) _ rfl ZF.Z Tryz.underlying34 rfl (by kernel_rfl)
    have hey := HEY.out
    rw [if_neg h1] at hey
    have HEY := Lib.hid hey
    clear hey
    have t1 : (ok == 1) = false := by simp [h1]
    by_cases h2 : ok = 2
    · have t2 : (ok == 2) = true := by simp [h2]
      have hey := HEY.out
      rw [if_pos h2] at hey
      have HEY := Lib.hid hey
      clear hey
      clear h2
      cases pb with
      | true =>
        have hey := HEY.out
        unfold unlessS at hey
        have HEY := Lib.hid hey
        clear hey
        have hey := HEY.out
        rw [if_neg (by decide)] at hey
        have HEY := Lib.hid hey
        clear hey
        have HC := Lib.hid (rTo (P := fun b => P b ∧ b ≠ w.heap.size + 1 ∧ b ≠ w.heap.size + 3) (fun b hb => ⟨hP b (by omega), by omega, by omega⟩) AF 90)
        clear AF
        go_wp2_with (first | (refine wpList_load_row rfl 34 _ rfl (w.heap.size + 1) rfl _ (wc ({ s with p := { s.p with o0 := ok, o1 := oa, o2 := ob, o3 := oc, o4 := od, o5 := oe, o6 := of, t := 0, rt := 0, gv := false, b := 0, k := 0, i := 0, c := 0, j := 0 }, rd := nilS } : Wk)) (0, 0) _ (by exact TF.X) Tryz.underlying34 rfl (by kernel_rfl) ?_))
        refine HC.out.mono ?_
        rintro e w9 ⟨s9, rfl, A9, hb9⟩
        have T9 := TF.keep hb9
        clear CF OF
        go_wp2_with (first | (refine wpList_store_row rfl 34 _ _ rfl (w.heap.size + 3) (wc s9) rfl rfl _ _ (by exact T9.Z) (by kernel_rfl) (by kernel_rfl) (by kernel_rfl) ?_))
        have ZF := T9.rowZ s9
        obtain rfl := HEY.out
        refine bodyPost_ret (v := wv s9) ?_ rfl ⟨s9, rfl, ((A9.row (g := w.heap.size + 3) (fun q => q.2.2 rfl) _).mono (fun b _ q => q.1)), ZF.below⟩
        exact results_cell_row (p := 8) (ty := 34) Tryz.results13 _ _ (w.heap.size + 3) 34 _ (0, 0) _ rfl ZF.Z Tryz.underlying34 rfl (by kernel_rfl)
      | false =>
        have hey := HEY.out
        unfold unlessS at hey
        have HEY := Lib.hid hey
        clear hey
        have hey := HEY.out
        rw [if_pos (by decide)] at hey
        have HEY := Lib.hid hey
        clear hey
        have HC := Lib.hid (rOver (P := fun b => P b ∧ b ≠ w.heap.size + 1 ∧ b ≠ w.heap.size + 3) (fun b hb => ⟨hP b (by omega), by omega, by omega⟩) AF 9)
        clear AF
        go_wp2_with (first | (refine wpList_load_row rfl 34 _ rfl (w.heap.size + 1) rfl _ (wc ({ s with p := { s.p with o0 := ok, o1 := oa, o2 := ob, o3 := oc, o4 := od, o5 := oe, o6 := of, t := 0, rt := 0, gv := false, b := 0, k := 0, i := 0, c := 0, j := 0 }, rd := nilS } : Wk)) (0, 0) _ (by exact TF.X) Tryz.underlying34 rfl (by kernel_rfl) ?_))
        refine HC.out.mono ?_
        rintro e w9 ⟨s9, rfl, A9, hb9⟩
        have T9 := TF.keep hb9
        clear CF OF
        go_wp2_with (first | (refine wpList_store_row rfl 34 _ _ rfl (w.heap.size + 3) (wc s9) rfl rfl _ _ (by exact T9.Z) (by kernel_rfl) (by kernel_rfl) (by kernel_rfl) ?_))
        have ZF := T9.rowZ s9
        obtain rfl := HEY.out
        refine bodyPost_ret (v := wv s9) ?_ rfl ⟨s9, rfl, ((A9.row (g := w.heap.size + 3) (fun q => q.2.2 rfl) _).mono (fun b _ q => q.1)), ZF.below⟩
        exact results_cell_row (p := 8) (ty := 34) Tryz.results13 _ _ (w.heap.size + 3) 34 _ (0, 0) _ rfl ZF.Z Tryz.underlying34 rfl (by kernel_rfl)
    have hey := HEY.out
    rw [if_neg h2] at hey
    have HEY := Lib.hid hey
    clear hey
    have t2 : (ok == 2) = false := by simp [h2]
    by_cases h7 : ok = 7
    · have t7 : (ok == 7) = true := by simp [h7]
      have hey := HEY.out
      rw [if_pos h7] at hey
      have HEY := Lib.hid hey
      clear hey
      clear h7
      cases pb with
      | false =>
        have hey := HEY.out
        unfold unlessS at hey
        have HEY := Lib.hid hey
        clear hey
        have hey := HEY.out
        rw [if_pos (by simp)] at hey
        have HEY := Lib.hid hey
        clear hey
        have HC := Lib.hid (rOver (P := fun b => P b ∧ b ≠ w.heap.size + 1 ∧ b ≠ w.heap.size + 3) (fun b hb => ⟨hP b (by omega), by omega, by omega⟩) AF 9)
        clear AF
        go_wp2_with (first | (refine wpList_load_row rfl 34 _ rfl (w.heap.size + 1) rfl _ (wc ({ s with p := { s.p with o0 := ok, o1 := oa, o2 := ob, o3 := oc, o4 := od, o5 := oe, o6 := of, t := 0, rt := 0, gv := false, b := 0, k := 0, i := 0, c := 0, j := 0 }, rd := nilS } : Wk)) (0, 0) _ (by exact TF.X) Tryz.underlying34 rfl (by kernel_rfl) ?_))
        refine HC.out.mono ?_
        rintro e w9 ⟨s9, rfl, A9, hb9⟩
        have T9 := TF.keep hb9
        clear CF OF
        go_wp2_with (first | (refine wpList_store_row rfl 34 _ _ rfl (w.heap.size + 3) (wc s9) rfl rfl _ _ (by exact T9.Z) (by kernel_rfl) (by kernel_rfl) (by kernel_rfl) ?_))
        have ZF := T9.rowZ s9
        obtain rfl := HEY.out
        refine bodyPost_ret (v := wv s9) ?_ rfl ⟨s9, rfl, ((A9.row (g := w.heap.size + 3) (fun q => q.2.2 rfl) _).mono (fun b _ q => q.1)), ZF.below⟩
        exact results_cell_row (p := 8) (ty := 34) Tryz.results13 _ _ (w.heap.size + 3) 34 _ (0, 0) _ rfl ZF.Z Tryz.underlying34 rfl (by kernel_rfl)
      | true =>
        by_cases hb0 : br0 = 0
        · have u0 : (br0 == 0) = true := by simp [hb0]
          have hey := HEY.out
          unfold unlessS at hey
          have HEY := Lib.hid hey
          clear hey
          have hey := HEY.out
          rw [if_pos (by simp [hb0])] at hey
          have HEY := Lib.hid hey
          clear hey
          clear hb0
          have HC := Lib.hid (rOver (P := fun b => P b ∧ b ≠ w.heap.size + 1 ∧ b ≠ w.heap.size + 3) (fun b hb => ⟨hP b (by omega), by omega, by omega⟩) AF 9)
          clear AF
          go_wp2_with (first | (refine wpList_load_row rfl 34 _ rfl (w.heap.size + 1) rfl _ (wc ({ s with p := { s.p with o0 := ok, o1 := oa, o2 := ob, o3 := oc, o4 := od, o5 := oe, o6 := of, t := 0, rt := 0, gv := false, b := 0, k := 0, i := 0, c := 0, j := 0 }, rd := nilS } : Wk)) (0, 0) _ (by exact TF.X) Tryz.underlying34 rfl (by kernel_rfl) ?_))
          refine HC.out.mono ?_
          rintro e w9 ⟨s9, rfl, A9, hb9⟩
          have T9 := TF.keep hb9
          clear CF OF
          go_wp2_with (first | (refine wpList_store_row rfl 34 _ _ rfl (w.heap.size + 3) (wc s9) rfl rfl _ _ (by exact T9.Z) (by kernel_rfl) (by kernel_rfl) (by kernel_rfl) ?_))
          have ZF := T9.rowZ s9
          obtain rfl := HEY.out
          refine bodyPost_ret (v := wv s9) ?_ rfl ⟨s9, rfl, ((A9.row (g := w.heap.size + 3) (fun q => q.2.2 rfl) _).mono (fun b _ q => q.1)), ZF.below⟩
          exact results_cell_row (p := 8) (ty := 34) Tryz.results13 _ _ (w.heap.size + 3) 34 _ (0, 0) _ rfl ZF.Z Tryz.underlying34 rfl (by kernel_rfl)
        · have u0 : (br0 == 0) = false := by simp [hb0]
          have hey := HEY.out
          unfold unlessS at hey
          have HEY := Lib.hid hey
          clear hey
          have hey := HEY.out
          rw [if_neg (by simp [hb0])] at hey
          have HEY := Lib.hid hey
          clear hey
          clear hb0
          have HC := Lib.hid (rTo (P := fun b => P b ∧ b ≠ w.heap.size + 1 ∧ b ≠ w.heap.size + 3) (fun b hb => ⟨hP b (by omega), by omega, by omega⟩) AF 62)
          clear AF
          go_wp2_with (first | (refine wpList_load_row rfl 34 _ rfl (w.heap.size + 1) rfl _ (wc ({ s with p := { s.p with o0 := ok, o1 := oa, o2 := ob, o3 := oc, o4 := od, o5 := oe, o6 := of, t := 0, rt := 0, gv := false, b := 0, k := 0, i := 0, c := 0, j := 0 }, rd := nilS } : Wk)) (0, 0) _ (by exact TF.X) Tryz.underlying34 rfl (by kernel_rfl) ?_))
          refine HC.out.mono ?_
          rintro e w9 ⟨s9, rfl, A9, hb9⟩
          have T9 := TF.keep hb9
          clear CF OF
          go_wp2_with (first | (refine wpList_store_row rfl 34 _ _ rfl (w.heap.size + 3) (wc s9) rfl rfl _ _ (by exact T9.Z) (by kernel_rfl) (by kernel_rfl) (by kernel_rfl) ?_))
          have ZF := T9.rowZ s9
          obtain rfl := HEY.out
          refine bodyPost_ret (v := wv s9) ?_ rfl ⟨s9, rfl, ((A9.row (g := w.heap.size + 3) (fun q => q.2.2 rfl) _).mono (fun b _ q => q.1)), ZF.below⟩
          exact results_cell_row (p := 8) (ty := 34) Tryz.results13 _ _ (w.heap.size + 3) 34 _ (0, 0) _ rfl ZF.Z Tryz.underlying34 rfl (by kernel_rfl)
    have hey := HEY.out
    rw [if_neg h7] at hey
    have HEY := Lib.hid hey
    clear hey
    have t7 : (ok == 7) = false := by simp [h7]
    by_cases h8 : ok = 8
    · have t8 : (ok == 8) = true := by simp [h8]
      have hey := HEY.out
      rw [if_pos h8] at hey
      have HEY := Lib.hid hey
      clear hey
      clear h8
      have HC := Lib.hid (rTo (P := fun b => P b ∧ b ≠ w.heap.size + 1 ∧ b ≠ w.heap.size + 3) (fun b hb => ⟨hP b (by omega), by omega, by omega⟩) AF 70)
      clear AF
      go_wp2_with (first | (refine wpList_load_row rfl 34 _ rfl (w.heap.size + 1) rfl _ (wc ({ s with p := { s.p with o0 := ok, o1 := oa, o2 := ob, o3 := oc, o4 := od, o5 := oe, o6 := of, t := 0, rt := 0, gv := false, b := 0, k := 0, i := 0, c := 0, j := 0 }, rd := nilS } : Wk)) (0, 0) _ (by exact TF.X) Tryz.underlying34 rfl (by kernel_rfl) ?_))
      refine HC.out.mono ?_
      rintro e w9 ⟨s9, rfl, A9, hb9⟩
      have T9 := TF.keep hb9
      clear CF OF
      go_wp2_with (first | (refine wpList_store_row rfl 34 _ _ rfl (w.heap.size + 3) (wc s9) rfl rfl _ _ (by exact T9.Z) (by kernel_rfl) (by kernel_rfl) (by kernel_rfl) ?_))
      have ZF := T9.rowZ s9
      obtain rfl := HEY.out
      refine bodyPost_ret (v := wv s9) ?_ rfl ⟨s9, rfl, ((A9.row (g := w.heap.size + 3) (fun q => q.2.2 rfl) _).mono (fun b _ q => q.1)), ZF.below⟩
      exact results_cell_row (p := 8) (ty := 34) Tryz.results13 _ _ (w.heap.size + 3) 34 _ (0, 0) _ rfl ZF.Z Tryz.underlying34 rfl (by kernel_rfl)
    have hey := HEY.out
    rw [if_neg h8] at hey
    have HEY := Lib.hid hey
    clear hey
    have t8 : (ok == 8) = false := by simp [h8]
    by_cases h9 : ok = 9
    · have t9 : (ok == 9) = true := by simp [h9]
      have hey := HEY.out
      rw [if_pos h9] at hey
      have HEY := Lib.hid hey
      clear hey
      clear h9
      have c1 : ∀ k, (ccM c)[1]? = some k → k = .int .i64 c.sl := fun k h => by injection (h.symm.trans (rfl : (ccM c)[1]? = some (.int .i64 c.sl)))
      have cF := CF.cells
      by_cases hs : oc < 0
      · have u1 : decide (oc < 0) = true := by simp [hs]
        have hey := HEY.out
        unfold unlessS at hey
        have HEY := Lib.hid hey
        clear hey
        have hey := HEY.out
        rw [if_pos (by simp [hs])] at hey
        have HEY := Lib.hid hey
        clear hey
        clear hs c1
        have HC := Lib.hid (rOver (P := fun b => P b ∧ b ≠ w.heap.size + 1 ∧ b ≠ w.heap.size + 3) (fun b hb => ⟨hP b (by omega), by omega, by omega⟩) AF 8)
        clear AF
        go_wp2_with (first | (refine wpList_load_row rfl 34 _ rfl (w.heap.size + 1) rfl _ (wc ({ s with p := { s.p with o0 := ok, o1 := oa, o2 := ob, o3 := oc, o4 := od, o5 := oe, o6 := of, t := 0, rt := 0, gv := false, b := 0, k := 0, i := 0, c := 0, j := 0 }, rd := nilS } : Wk)) (0, 0) _ (by exact TF.X) Tryz.underlying34 rfl (by kernel_rfl) ?_))
        refine HC.out.mono ?_
        rintro e w9 ⟨s9, rfl, A9, hb9⟩
        have T9 := TF.keep hb9
        clear CF OF
        go_wp2_with (first | (refine wpList_store_row rfl 34 _ _ rfl (w.heap.size + 3) (wc s9) rfl rfl _ _ (by exact T9.Z) (by kernel_rfl) (by kernel_rfl) (by kernel_rfl) ?_))
        have ZF := T9.rowZ s9
        obtain rfl := HEY.out
        refine bodyPost_ret (v := wv s9) ?_ rfl ⟨s9, rfl, ((A9.row (g := w.heap.size + 3) (fun q => q.2.2 rfl) _).mono (fun b _ q => q.1)), ZF.below⟩
        exact results_cell_row (p := 8) (ty := 34) Tryz.results13 _ _ (w.heap.size + 3) 34 _ (0, 0) _ rfl ZF.Z Tryz.underlying34 rfl (by kernel_rfl)
      · have u1 : decide (oc < 0) = false := by simp; omega
        by_cases hs2 : c.sl ≤ oc
        · have u2 : decide (c.sl ≤ oc) = true := by simp [hs2]
          have hey := HEY.out
          unfold unlessS at hey
          have HEY := Lib.hid hey
          clear hey
          have hey := HEY.out
          rw [if_pos (by simp [hs2])] at hey
          have HEY := Lib.hid hey
          clear hey
          clear hs hs2 c1
          have HC := Lib.hid (rOver (P := fun b => P b ∧ b ≠ w.heap.size + 1 ∧ b ≠ w.heap.size + 3) (fun b hb => ⟨hP b (by omega), by omega, by omega⟩) AF 8)
          clear AF
          go_wp2_with (first | (refine wpList_load_row rfl 34 _ rfl (w.heap.size + 1) rfl _ (wc ({ s with p := { s.p with o0 := ok, o1 := oa, o2 := ob, o3 := oc, o4 := od, o5 := oe, o6 := of, t := 0, rt := 0, gv := false, b := 0, k := 0, i := 0, c := 0, j := 0 }, rd := nilS } : Wk)) (0, 0) _ (by exact TF.X) Tryz.underlying34 rfl (by kernel_rfl) ?_))
          refine HC.out.mono ?_
          rintro e w9 ⟨s9, rfl, A9, hb9⟩
          have T9 := TF.keep hb9
          clear CF OF
          go_wp2_with (first | (refine wpList_store_row rfl 34 _ _ rfl (w.heap.size + 3) (wc s9) rfl rfl _ _ (by exact T9.Z) (by kernel_rfl) (by kernel_rfl) (by kernel_rfl) ?_))
          have ZF := T9.rowZ s9
          obtain rfl := HEY.out
          refine bodyPost_ret (v := wv s9) ?_ rfl ⟨s9, rfl, ((A9.row (g := w.heap.size + 3) (fun q => q.2.2 rfl) _).mono (fun b _ q => q.1)), ZF.below⟩
          exact results_cell_row (p := 8) (ty := 34) Tryz.results13 _ _ (w.heap.size + 3) 34 _ (0, 0) _ rfl ZF.Z Tryz.underlying34 rfl (by kernel_rfl)
        · have u2 : decide (c.sl ≤ oc) = false := by simp; omega
          have hey := HEY.out
          unfold unlessS at hey
          have HEY := Lib.hid hey
          clear hey
          have hey := HEY.out
          rw [if_neg (by simp; omega)] at hey
          have HEY := Lib.hid hey
          clear hey
          clear hs hs2 c1
          have HC := Lib.hid (rTo (P := fun b => P b ∧ b ≠ w.heap.size + 1 ∧ b ≠ w.heap.size + 3) (fun b hb => ⟨hP b (by omega), by omega, by omega⟩) AF 36)
          clear AF
          go_wp2_with (first | (refine wpList_load_row rfl 34 _ rfl (w.heap.size + 1) rfl _ (wc ({ s with p := { s.p with o0 := ok, o1 := oa, o2 := ob, o3 := oc, o4 := od, o5 := oe, o6 := of, t := 0, rt := 0, gv := false, b := 0, k := 0, i := 0, c := 0, j := 0 }, rd := nilS } : Wk)) (0, 0) _ (by exact TF.X) Tryz.underlying34 rfl (by kernel_rfl) ?_))
          refine HC.out.mono ?_
          rintro e w9 ⟨s9, rfl, A9, hb9⟩
          have T9 := TF.keep hb9
          clear CF OF
          go_wp2_with (first | (refine wpList_store_row rfl 34 _ _ rfl (w.heap.size + 3) (wc s9) rfl rfl _ _ (by exact T9.Z) (by kernel_rfl) (by kernel_rfl) (by kernel_rfl) ?_))
          have ZF := T9.rowZ s9
          obtain rfl := HEY.out
          refine bodyPost_ret (v := wv s9) ?_ rfl ⟨s9, rfl, ((A9.row (g := w.heap.size + 3) (fun q => q.2.2 rfl) _).mono (fun b _ q => q.1)), ZF.below⟩
          exact results_cell_row (p := 8) (ty := 34) Tryz.results13 _ _ (w.heap.size + 3) 34 _ (0, 0) _ rfl ZF.Z Tryz.underlying34 rfl (by kernel_rfl)
    have hey := HEY.out
    rw [if_neg h9] at hey
    have HEY := Lib.hid hey
    clear hey
    have t9 : (ok == 9) = false := by simp [h9]
    have hq : ¬ (ok = 4 ∨ ok = 5 ∨ ok = 6) := by intro h; unfold asksB at hk; simp at hk; omega
    have hey := HEY.out
    rw [if_neg hq] at hey
    have HEY := Lib.hid hey
    clear hey
    by_cases h3 : ok = 3
    · skip
      have hey := HEY.out
      rw [if_pos h3] at hey
      have HEY := Lib.hid hey
      clear hey
      have hsh : sharesB ok = true := by subst h3; rfl
      clear h3 hq h1 h2 h7 h8 h9
      have HS_ := Lib.hid (hsh ▸ rShares ok oa ob oc od oe of (v7))
      go_wp2_with (first | (refine wpList_load_row rfl 26 _ rfl (w.heap.size + 2) rfl _ #[.int .i64 ok, .int .u64 oa, .int .u64 ob, .int .i64 oc, .bool od, .int .i64 oe, .int .i64 of] (0, 0) _ (by exact OF) Tryz.underlying26 rfl (by kernel_rfl) ?_) | (refine wpList_load_row_w rfl 24 _ rfl w.heap.size rfl _ (ccM c) (0, 0) _ (by exact CF) Tryz.underlying24 rfl (by kernel_rfl) ?_))
      refine HS_.out.mono ?_
      rintro en y1 ⟨rfl, hb_⟩
      clear HS_
      have TG := TF.keep hb_
      have AG := AF.keep hb_
      have CG := CF.keep hb_
      have OG := OF.keep hb_
      have lG := TG.lt
      have lGG := hb_.size
      clear TF AF CF OF hb_
      have TF := TG
      have AF := AG
      have CF := CG
      have OF := OG
      clear TG AG CG OG
      have HS_ := Lib.hid (hk ▸ rAsks ok oa ob oc od oe of y1)
      go_wp2_with (first | (refine wpList_load_row rfl 26 _ rfl (w.heap.size + 2) rfl _ #[.int .i64 ok, .int .u64 oa, .int .u64 ob, .int .i64 oc, .bool od, .int .i64 oe, .int .i64 of] (0, 0) _ (by exact OF) Tryz.underlying26 rfl (by kernel_rfl) ?_) | (refine wpList_load_row_w rfl 24 _ rfl w.heap.size rfl _ (ccM c) (0, 0) _ (by exact CF) Tryz.underlying24 rfl (by kernel_rfl) ?_))
      refine HS_.out.mono ?_
      rintro en y2 ⟨rfl, hb_⟩
      clear HS_
      have TG := TF.keep hb_
      have AG := AF.keep hb_
      have CG := CF.keep hb_
      have OG := OF.keep hb_
      have lG := TG.lt
      have lGG := hb_.size
      clear TF AF CF OF hb_
      have TF := TG
      have AF := AG
      have CF := CG
      have OF := OG
      clear TG AG CG OG
      clear hk hsh
      have hey := HEY.out
      unfold enterS at hey
      have HEY := Lib.hid hey
      clear hey
      have hey := HEY.out
      rw [show (freshS x ok oa ob oc od oe of tv).p.pn = x.p.pn from rfl, h_pn'] at hey
      have HEY := Lib.hid hey
      clear hey
      have xG := TF.X.cells
      cases pb with
      | true =>
        have hey := HEY.out
        rw [if_pos rfl] at hey
        have HEY := Lib.hid hey
        clear hey
        have HC := Lib.hid (rBody (P := fun b => P b ∧ b ≠ w.heap.size + 1 ∧ b ≠ w.heap.size + 3) (fun b hb => ⟨hP b (by omega), by omega, by omega⟩) AF hxF)
        clear AF
        go_wp2_with (first | (refine wpList_load_row rfl 34 _ rfl (w.heap.size + 1) rfl _ (wc ({ s with p := { s.p with o0 := ok, o1 := oa, o2 := ob, o3 := oc, o4 := od, o5 := oe, o6 := of, t := 0, rt := 0, gv := false, b := 0, k := 0, i := 0, c := 0, j := 0 }, rd := nilS } : Wk)) (0, 0) _ (by exact TF.X) Tryz.underlying34 rfl (by kernel_rfl) ?_))
        refine HC.out.mono ?_
        rintro e w9 ⟨s9, rfl, A9, hb9⟩
        have T9 := TF.keep hb9
        clear CF OF
        go_wp2_with (first | (refine wpList_store_row rfl 34 _ _ rfl (w.heap.size + 3) (wc s9) rfl rfl _ _ (by exact T9.Z) (by kernel_rfl) (by kernel_rfl) (by kernel_rfl) ?_))
        have ZF := T9.rowZ s9
        obtain rfl := HEY.out
        refine bodyPost_ret (v := wv s9) ?_ rfl ⟨s9, rfl, ((A9.row (g := w.heap.size + 3) (fun q => q.2.2 rfl) _).mono (fun b _ q => q.1)), ZF.below⟩
        exact results_cell_row (p := 8) (ty := 34) Tryz.results13 _ _ (w.heap.size + 3) 34 _ (0, 0) _ rfl ZF.Z Tryz.underlying34 rfl (by kernel_rfl)
      | false =>
        have hey := HEY.out
        rw [if_neg (by decide)] at hey
        have HEY := Lib.hid hey
        clear hey
        have HC := Lib.hid (rTo (P := fun b => P b ∧ b ≠ w.heap.size + 1 ∧ b ≠ w.heap.size + 3) (fun b hb => ⟨hP b (by omega), by omega, by omega⟩) AF 1)
        clear AF
        go_wp2_with (first | (refine wpList_load_row rfl 34 _ rfl (w.heap.size + 1) rfl _ (wc ({ s with p := { s.p with o0 := ok, o1 := oa, o2 := ob, o3 := oc, o4 := od, o5 := oe, o6 := of, t := 0, rt := 0, gv := false, b := 0, k := 0, i := 0, c := 0, j := 0 }, rd := nilS } : Wk)) (0, 0) _ (by exact TF.X) Tryz.underlying34 rfl (by kernel_rfl) ?_))
        refine HC.out.mono ?_
        rintro e w9 ⟨s9, rfl, A9, hb9⟩
        have T9 := TF.keep hb9
        clear CF OF
        go_wp2_with (first | (refine wpList_store_row rfl 34 _ _ rfl (w.heap.size + 3) (wc s9) rfl rfl _ _ (by exact T9.Z) (by kernel_rfl) (by kernel_rfl) (by kernel_rfl) ?_))
        have ZF := T9.rowZ s9
        obtain rfl := HEY.out
        refine bodyPost_ret (v := wv s9) ?_ rfl ⟨s9, rfl, ((A9.row (g := w.heap.size + 3) (fun q => q.2.2 rfl) _).mono (fun b _ q => q.1)), ZF.below⟩
        exact results_cell_row (p := 8) (ty := 34) Tryz.results13 _ _ (w.heap.size + 3) 34 _ (0, 0) _ rfl ZF.Z Tryz.underlying34 rfl (by kernel_rfl)
    have hey := HEY.out
    rw [if_neg h3] at hey
    have HEY := Lib.hid hey
    clear hey
    have hsh : sharesB ok = false := by unfold sharesB; simp; omega
    clear h3 hq h1 h2 h7 h8 h9
    have HS_ := Lib.hid (hsh ▸ rShares ok oa ob oc od oe of (v7))
    go_wp2_with (first | (refine wpList_load_row rfl 26 _ rfl (w.heap.size + 2) rfl _ #[.int .i64 ok, .int .u64 oa, .int .u64 ob, .int .i64 oc, .bool od, .int .i64 oe, .int .i64 of] (0, 0) _ (by exact OF) Tryz.underlying26 rfl (by kernel_rfl) ?_) | (refine wpList_load_row_w rfl 24 _ rfl w.heap.size rfl _ (ccM c) (0, 0) _ (by exact CF) Tryz.underlying24 rfl (by kernel_rfl) ?_))
    refine HS_.out.mono ?_
    rintro en y1 ⟨rfl, hb_⟩
    clear HS_
    have TG := TF.keep hb_
    have AG := AF.keep hb_
    have CG := CF.keep hb_
    have OG := OF.keep hb_
    have lG := TG.lt
    have lGG := hb_.size
    clear TF AF CF OF hb_
    have TF := TG
    have AF := AG
    have CF := CG
    have OF := OG
    clear TG AG CG OG
    have HC := Lib.hid (rOver (P := fun b => P b ∧ b ≠ w.heap.size + 1 ∧ b ≠ w.heap.size + 3) (fun b hb => ⟨hP b (by omega), by omega, by omega⟩) AF 3)
    clear AF
    go_wp2_with (first | (refine wpList_load_row rfl 34 _ rfl (w.heap.size + 1) rfl _ (wc ({ s with p := { s.p with o0 := ok, o1 := oa, o2 := ob, o3 := oc, o4 := od, o5 := oe, o6 := of, t := 0, rt := 0, gv := false, b := 0, k := 0, i := 0, c := 0, j := 0 }, rd := nilS } : Wk)) (0, 0) _ (by exact TF.X) Tryz.underlying34 rfl (by kernel_rfl) ?_))
    refine HC.out.mono ?_
    rintro e w9 ⟨s9, rfl, A9, hb9⟩
    have T9 := TF.keep hb9
    clear CF OF
    go_wp2_with (first | (refine wpList_store_row rfl 34 _ _ rfl (w.heap.size + 3) (wc s9) rfl rfl _ _ (by exact T9.Z) (by kernel_rfl) (by kernel_rfl) (by kernel_rfl) ?_))
    have ZF := T9.rowZ s9
    obtain rfl := HEY.out
    refine bodyPost_ret (v := wv s9) ?_ rfl ⟨s9, rfl, ((A9.row (g := w.heap.size + 3) (fun q => q.2.2 rfl) _).mono (fun b _ q => q.1)), ZF.below⟩
    exact results_cell_row (p := 8) (ty := 34) Tryz.results13 _ _ (w.heap.size + 3) 34 _ (0, 0) _ rfl ZF.Z Tryz.underlying34 rfl (by kernel_rfl)
end Go.Proofs.YtgpdkagmacpghaaGreat.Me
