/- The steps of layer 13 (made by genstp.py). -/
import Derived.Test.YtgpdkagmacpghaaGreatFols
import Derived.Test.YtgpdkagmacpghaaGreatEpochLines
import Derived.Test.YtgpdkagmacpghaaGreatEntryLine
namespace Go.Proofs.YtgpdkagmacpghaaGreat.Me
open Go Go.RowKit Go.ChangeMaps Go.Proofs.YtgpdkagmacpghaaGreat.Gro Go.Proofs.YtgpdkagmacpghaaGreat.Own Go.Proofs.YtgpdkagmacpghaaGreat.Wd Go.Proofs.YtgpdkagmacpghaaGreat.Ap Go.Proofs.YtgpdkagmacpghaaGreat.Pl Go.Proofs.YtgpdkagmacpghaaGreat.Wo Go.Proofs.YtgpdkagmacpghaaGreat.Mr
set_option linter.unusedVariables false
set_option linter.unusedSimpArgs false
def ofRes (r : Res) (x : St) : Rs := ⟨r.a, r.L, { x with p := r.p }, r.way, r.ok⟩
theorem gs_of {B g gl cap : Nat} {c : Cfg} {r : Res} {x : St} {w w' : World} {e : Ending} (h : GPost B g gl cap c r x w e w') : GS B g gl cap c (ofRes r x) w e w' := by
  obtain ⟨s2, h1, h2, h3, h4⟩ := h
  exact ⟨s2, h1, h2.liesF, h3, h4⟩
def nextS13 (x : St) : St := { x with p := { x.p with j := wrap64 (x.p.j + 1) } }
def nextW13 (c : Cfg) (x : St) : Int := if c.wd ≤ wrap64 (x.p.j + 1) then 1 else 0
def fillR (c : Cfg) (a : Acc) (L : List Int) (x : St) : Rs :=
  ⟨acc L 2 (aWrd c (wrap64 (x.p.b - 1)) x.p.j) (IntKind.u64.wrap (x.p.o2 + IntKind.u64.wrap x.p.j)) 0, stL L (aWrd c (wrap64 (x.p.b - 1)) x.p.j) (IntKind.u64.wrap (x.p.o2 + IntKind.u64.wrap x.p.j)), nextS13 x, nextW13 c x, true⟩
theorem rdpT {P : Nat → Prop} {w u : World} {k : IntKind} {y : Sl} {l : List Int} {a b : Nat} (h : RdP P w k y l) (t : Touch a b w u) (h1 : ∀ d, P d → d ≠ a) (h2 : ∀ d, P d → d ≠ b) : RdP P u k y l :=
  ⟨readsTouchT h.1 t (h.2.imp_right fun q d hd => h1 _ (q d hd)) (h.2.imp_right fun q d hd => h2 _ (q d hd)), h.2⟩
def FW3 (P : Nat → Prop) (w : World) (y : St) (way : Int) (e : Ending) (w' : World) : Prop := ∃ s', e = .returned (.tuple #[wv s', .int .i64 way, .bool true]) ∧ LiesP P w' s' y ∧ Below w.heap.size w w'
set_option maxRecDepth 100000 in
set_option maxHeartbeats 8000000 in
theorem fAlone {P : Nat → Prop} {B : Nat} {w : World} {g gl cap : Nat} {c : Cfg} {a : Acc} {L : List Int} (M : MemAt B w g c a gl cap L) (s : Wk) (x : St) (hP : ∀ b, w.heap.size ≤ b → P b) (h : Lies w s x) {r : Rs} {fi a9 : Nat} (hfi : ∀ args w, (callFunc fi args).run Tryz.prog w = .ok (.enter fi args) w) (K : Bk w a9 #[fnV fi] 182)
    (HI : RowKit.Hid (∀ w1, MemAt B w1 g c a gl cap L → Lies w1 s x → Calls Tryz.prog fi #[.pointer (some ⟨g, 0, none⟩), wv s] w1 (GS B g gl cap c r w1))) (wk : Int) :
    Calls Tryz.prog 156 #[.pointer (some ⟨g, 0, none⟩), .int .i64 wk, wv s, .pointer (some ⟨a9, 0, none⟩)] w (GSP P B g gl cap c r w) := by
  have T0 := Two.start w s
  have mlt := M.lt
  have lk := K.lt
  have M0 := M.keep T0.below
  have h0 := h.keep T0.below
  have K0 := K.keep T0.below
  have ll := T0.lt
  obtain ⟨v0, hv0⟩ : ∃ u, u = (w.alloc (.cells (wc s) 34)).alloc (.cells (wc wz) 34) := ⟨_, rfl⟩
  rw [← hv0] at T0 M0 h0 K0 ll
  have k0 : v0.cell? ⟨a9, 0, none⟩ = some (fnV fi) := by rw [K0.cells]; rfl
  have lk0 := K0.lt
  have HC := Lib.hid (HI.out v0 M0 h0)
  clear HI
  go_enter Tryz.func156, Tryz.ntmps156
  go_wp2_with (first | ((with_reducible refine wpList_alloc_wz rfl rfl ?_); rw [← hv0]; clear hv0) | (refine wpList_load_row rfl 34 _ rfl (w.heap.size) rfl _ (wc s) (0, 0) _ (by exact T0.X) Tryz.underlying34 rfl (by kernel_rfl) ?_))
  refine HC.out.mono ?_
  rintro e w5 ⟨s5, rfl, A5, M5, T5⟩
  have Z5 := T5.bk T0.Z (by omega) (by omega)
  have s5' := T5.size
  obtain ⟨ra, rL, rx, rw', rok⟩ := r
  simp only at *
  go_wp2_with (first | (refine wpList_store_row rfl 34 _ _ rfl (w.heap.size + 1) (wc s5) rfl rfl _ _ (by exact Z5) (by kernel_rfl) (by kernel_rfl) (by kernel_rfl) ?_))
  have ZF := Z5.setRow (wc s5)
  refine bodyPost_ret (v := .tuple #[wv s5, .int .i64 rw', .bool rok]) ?_ rfl ⟨_, rfl, LiesP.of (A5.setRow (g := w.heap.size + 1) (by omega) (wc s5)) (fun b _ q => hP b (by omega)), M5.apart (g' := w.heap.size + 1) (gl' := w.heap.size + 1) ((Touch.refl _ _ _).setRow _) (by omega) (by omega) (by omega) (by omega), touchW T0.below T5 (by omega) _⟩
  exact Rw.results_cell_slot2 (p := 7) (q := 8) (r := 9) (ty := 34) Tryz.results156 _ _ (w.heap.size + 1) 34 _ (0, 0) _ rfl ZF Tryz.underlying34 rfl (by kernel_rfl)
set_option maxRecDepth 100000 in
set_option maxHeartbeats 8000000 in
theorem fNext {P : Nat → Prop} {w : World} {s : Wk} {x : St} (hP : ∀ b, w.heap.size ≤ b → P b) (A : LiesP P w s x) {B g gl cap : Nat} {c : Cfg} {a : Acc} {L : List Int} (M : MemAt B w g c a gl cap L) :
    Calls Tryz.prog 172 #[.pointer (some ⟨g, 0, none⟩), wv s] w (FW3 P w (nextS13 x) (nextW13 c x)) := by
  unfold nextS13 nextW13
  have ej : s.p.j = x.p.j := by rw [A.p]
  rw [← ej]
  clear ej
  obtain ⟨j1, hj⟩ : ∃ j, j = wrap64 (s.p.j + 1) := ⟨_, rfl⟩
  have hj' : IntKind.i64.wrap (s.p.j + 1) = j1 := (IntWalk.i64_left _).trans hj.symm
  rw [← hj]
  have mlt := M.lt
  clear hj
  have f28 : ∀ s : Wk, (wc s)[28]? = some (.int .i64 s.p.j) := fun _ => rfl
  have T0 := Two.start w s
  have AQ := (A.mono (Q := fun b => P b ∧ b ≠ w.heap.size ∧ b ≠ w.heap.size + 1) (fun b hb q => ⟨q, by omega, by omega⟩)).keep T0.below
  obtain ⟨v0, hv0⟩ : ∃ u, u = (w.alloc (.cells (wc s) 34)).alloc (.cells (wc wz) 34) := ⟨_, rfl⟩
  rw [← hv0] at T0 AQ
  have x0 := T0.X.cells
  have z0 := T0.X.frozen
  have e101 := by have h := T0.X.cells 28; exact congrArg Option.isSome (h.trans (f28 _))
  simp only [Option.isSome_some] at e101
  have T1 := T0.setX 28 (.int .i64 j1) ({ s with p := { s.p with j := j1 } } : Wk) rfl
  have AQ10 := AQ.cell (g := w.heap.size) (fun q => q.2.1 rfl) 28 (.int .i64 j1)
  have M1 := M.keep (T1.below)
  have lt9 := T1.lt
  have mlt1 := M1.lt
  by_cases hw : c.wd ≤ j1
  · rw [if_pos hw]
    have tw : decide (c.wd ≤ j1) = true := by simp [hw]
    clear hw
    go_enter Tryz.func172, Tryz.ntmps172
    go_wp2_with (first | ((with_reducible refine wpList_alloc_wz rfl rfl ?_); rw [← hv0]; clear hv0))
    obtain ⟨v1, hv1⟩ : ∃ u, u = v0.setCell ⟨w.heap.size, 28, none⟩ (.int .i64 j1) := ⟨_, rfl⟩
    rw [← hv1] at T1 M1 lt9 AQ10 ⊢
    clear hv1
    have hS0 : Below v1.heap.size v1 v1.drew := Below.drew (Below.refl _ _)
    refine wp_region_held_drew (S := fun w' => Below v1.heap.size v1 w') (by kernel_rfl) hS0 (fun hHeld => ?_)
    clear hS0
    generalize v1.drew = w6 at *
    refine wpAnyH_take (i := 0) (oi := _) (v := .pointer (some ⟨w.heap.size, 28, none⟩)) rfl (by kernel_rfl) (by kernel_rfl) (by kernel_rfl) (fun _ _ _ h => h) (Or.inl ⟨by rfl, fun w' hSw => by go_simp⟩) hHeld ?_
    try simp only [Act.put, List.getElem_toArray, List.getElem_cons_succ, List.getElem_cons_zero, List.setIfInBounds_toArray, List.set_cons_succ, List.set_cons_zero]
    refine wpAnyH_take (i := 1) (oi := _) (v := .int .i64 j1) rfl (by kernel_rfl) (by kernel_rfl) (by kernel_rfl) (fun _ _ _ h => h) (Or.inl ⟨by rfl, fun w' hSw => by have xx := (T1.keep hSw).X.cells; go_simp⟩) hHeld ?_
    try simp only [Act.put, List.getElem_toArray, List.getElem_cons_succ, List.getElem_cons_zero, List.setIfInBounds_toArray, List.set_cons_succ, List.set_cons_zero]
    refine wpAnyH_take (i := 2) (oi := _) (v := .pointer (some ⟨g, 0, none⟩)) rfl (by kernel_rfl) (by kernel_rfl) (by kernel_rfl) (fun _ _ _ h => h) (Or.inl ⟨by rfl, fun w' hSw => by go_simp⟩) hHeld ?_
    try simp only [Act.put, List.getElem_toArray, List.getElem_cons_succ, List.getElem_cons_zero, List.setIfInBounds_toArray, List.set_cons_succ, List.set_cons_zero]
    refine wpAnyH_take (i := 3) (oi := _) (v := .pointer (some ⟨g, 0, none⟩)) rfl (by kernel_rfl) (by kernel_rfl) (by kernel_rfl) (fun _ _ _ h => h) (Or.inl ⟨by rfl, fun w' hSw => by go_simp⟩) hHeld ?_
    try simp only [Act.put, List.getElem_toArray, List.getElem_cons_succ, List.getElem_cons_zero, List.setIfInBounds_toArray, List.set_cons_succ, List.set_cons_zero]
    refine wpAnyH_take (i := 4) (oi := _) (v := .pointer (some ⟨g, 0, none⟩)) rfl (by kernel_rfl) (by kernel_rfl) (by kernel_rfl) (fun _ _ _ h => h) (Or.inl ⟨by rfl, fun w' hSw => by go_simp⟩) hHeld ?_
    try simp only [Act.put, List.getElem_toArray, List.getElem_cons_succ, List.getElem_cons_zero, List.setIfInBounds_toArray, List.set_cons_succ, List.set_cons_zero]
    refine wpAnyH_take (i := 5) (oi := _) (v := .pointer (some ⟨g, 0, none⟩)) rfl (by kernel_rfl) (by kernel_rfl) (by kernel_rfl) (fun _ _ _ h => h) (Or.inl ⟨by rfl, fun w' hSw => by go_simp⟩) hHeld ?_
    try simp only [Act.put, List.getElem_toArray, List.getElem_cons_succ, List.getElem_cons_zero, List.setIfInBounds_toArray, List.set_cons_succ, List.set_cons_zero]
    refine wpAnyH_take (i := 6) (oi := _) (v := .pointer (some ⟨g, 3, none⟩)) rfl (by kernel_rfl) (by kernel_rfl) (by kernel_rfl) (fun _ _ _ h => h) (Or.inl ⟨by rfl, fun w' hSw => by go_simp⟩) hHeld ?_
    try simp only [Act.put, List.getElem_toArray, List.getElem_cons_succ, List.getElem_cons_zero, List.setIfInBounds_toArray, List.set_cons_succ, List.set_cons_zero]
    refine wpAnyH_take (i := 7) (oi := _) (v := .int .i64 c.wd) rfl (by kernel_rfl) (by kernel_rfl) (by kernel_rfl) (fun _ _ _ h => h) (Or.inl ⟨by rfl, fun w' hSw => by have xx := (M1.keep hSw).B.cells; go_simp⟩) hHeld ?_
    try simp only [Act.put, List.getElem_toArray, List.getElem_cons_succ, List.getElem_cons_zero, List.setIfInBounds_toArray, List.set_cons_succ, List.set_cons_zero]
    refine wpAnyH_take (i := 8) (oi := _) (v := .bool true) rfl (by kernel_rfl) (by kernel_rfl) (by kernel_rfl) (fun _ _ _ h => h) (Or.inl ⟨by rfl, fun w' hSw => by go_simp⟩) hHeld ?_
    try simp only [Act.put, List.getElem_toArray, List.getElem_cons_succ, List.getElem_cons_zero, List.setIfInBounds_toArray, List.set_cons_succ, List.set_cons_zero]
    refine wpAnyH_done (by kernel_rfl) ?_ _
    have hb6 := hHeld
    clear hHeld
    have T6 := T1.keep hb6
    have A6 := (AQ10.pl (p := { s.p with j := j1 }) (p' := { x.p with j := j1 }) (by rw [AQ10.p])).keep hb6
    clear z0 x0 T1 T0
    go_wp2_with (first | (refine wpList_load_row rfl 34 _ rfl (w.heap.size) rfl _ (wc ({ s with p := { s.p with j := j1 } } : Wk)) (0, 0) _ (by exact T6.X) Tryz.underlying34 rfl (by kernel_rfl) ?_) | (refine wpList_store_row rfl 34 _ _ rfl (w.heap.size + 1) (wc ({ s with p := { s.p with j := j1 } } : Wk)) rfl rfl _ _ (by exact T6.Z) (by kernel_rfl) (by kernel_rfl) (by kernel_rfl) ?_))
    have ZF := T6.rowZ ({ s with p := { s.p with j := j1 } } : Wk)
    refine bodyPost_ret (v := .tuple #[wv ({ s with p := { s.p with j := j1 } } : Wk), .int .i64 1, .bool true]) ?_ rfl ⟨_, rfl, ((A6.row (g := w.heap.size + 1) (fun q => q.2.2 rfl) _).mono (fun b _ q => q.1)), ZF.below⟩
    exact Rw.results_cell_slot2 (p := 4) (q := 5) (r := 6) (ty := 34) Tryz.results172 _ _ (w.heap.size + 1) 34 _ (0, 0) _ rfl ZF.Z Tryz.underlying34 rfl (by kernel_rfl)
  · rw [if_neg hw]
    have tw : decide (c.wd ≤ j1) = false := by simp; omega
    clear hw
    go_enter Tryz.func172, Tryz.ntmps172
    go_wp2_with (first | ((with_reducible refine wpList_alloc_wz rfl rfl ?_); rw [← hv0]; clear hv0))
    obtain ⟨v1, hv1⟩ : ∃ u, u = v0.setCell ⟨w.heap.size, 28, none⟩ (.int .i64 j1) := ⟨_, rfl⟩
    rw [← hv1] at T1 M1 lt9 AQ10 ⊢
    clear hv1
    have hS0 : Below v1.heap.size v1 v1.drew := Below.drew (Below.refl _ _)
    refine wp_region_held_drew (S := fun w' => Below v1.heap.size v1 w') (by kernel_rfl) hS0 (fun hHeld => ?_)
    clear hS0
    generalize v1.drew = w6 at *
    refine wpAnyH_take (i := 0) (oi := _) (v := .pointer (some ⟨w.heap.size, 28, none⟩)) rfl (by kernel_rfl) (by kernel_rfl) (by kernel_rfl) (fun _ _ _ h => h) (Or.inl ⟨by rfl, fun w' hSw => by go_simp⟩) hHeld ?_
    try simp only [Act.put, List.getElem_toArray, List.getElem_cons_succ, List.getElem_cons_zero, List.setIfInBounds_toArray, List.set_cons_succ, List.set_cons_zero]
    refine wpAnyH_take (i := 1) (oi := _) (v := .int .i64 j1) rfl (by kernel_rfl) (by kernel_rfl) (by kernel_rfl) (fun _ _ _ h => h) (Or.inl ⟨by rfl, fun w' hSw => by have xx := (T1.keep hSw).X.cells; go_simp⟩) hHeld ?_
    try simp only [Act.put, List.getElem_toArray, List.getElem_cons_succ, List.getElem_cons_zero, List.setIfInBounds_toArray, List.set_cons_succ, List.set_cons_zero]
    refine wpAnyH_take (i := 2) (oi := _) (v := .pointer (some ⟨g, 0, none⟩)) rfl (by kernel_rfl) (by kernel_rfl) (by kernel_rfl) (fun _ _ _ h => h) (Or.inl ⟨by rfl, fun w' hSw => by go_simp⟩) hHeld ?_
    try simp only [Act.put, List.getElem_toArray, List.getElem_cons_succ, List.getElem_cons_zero, List.setIfInBounds_toArray, List.set_cons_succ, List.set_cons_zero]
    refine wpAnyH_take (i := 3) (oi := _) (v := .pointer (some ⟨g, 0, none⟩)) rfl (by kernel_rfl) (by kernel_rfl) (by kernel_rfl) (fun _ _ _ h => h) (Or.inl ⟨by rfl, fun w' hSw => by go_simp⟩) hHeld ?_
    try simp only [Act.put, List.getElem_toArray, List.getElem_cons_succ, List.getElem_cons_zero, List.setIfInBounds_toArray, List.set_cons_succ, List.set_cons_zero]
    refine wpAnyH_take (i := 4) (oi := _) (v := .pointer (some ⟨g, 0, none⟩)) rfl (by kernel_rfl) (by kernel_rfl) (by kernel_rfl) (fun _ _ _ h => h) (Or.inl ⟨by rfl, fun w' hSw => by go_simp⟩) hHeld ?_
    try simp only [Act.put, List.getElem_toArray, List.getElem_cons_succ, List.getElem_cons_zero, List.setIfInBounds_toArray, List.set_cons_succ, List.set_cons_zero]
    refine wpAnyH_take (i := 5) (oi := _) (v := .pointer (some ⟨g, 0, none⟩)) rfl (by kernel_rfl) (by kernel_rfl) (by kernel_rfl) (fun _ _ _ h => h) (Or.inl ⟨by rfl, fun w' hSw => by go_simp⟩) hHeld ?_
    try simp only [Act.put, List.getElem_toArray, List.getElem_cons_succ, List.getElem_cons_zero, List.setIfInBounds_toArray, List.set_cons_succ, List.set_cons_zero]
    refine wpAnyH_take (i := 6) (oi := _) (v := .pointer (some ⟨g, 3, none⟩)) rfl (by kernel_rfl) (by kernel_rfl) (by kernel_rfl) (fun _ _ _ h => h) (Or.inl ⟨by rfl, fun w' hSw => by go_simp⟩) hHeld ?_
    try simp only [Act.put, List.getElem_toArray, List.getElem_cons_succ, List.getElem_cons_zero, List.setIfInBounds_toArray, List.set_cons_succ, List.set_cons_zero]
    refine wpAnyH_take (i := 7) (oi := _) (v := .int .i64 c.wd) rfl (by kernel_rfl) (by kernel_rfl) (by kernel_rfl) (fun _ _ _ h => h) (Or.inl ⟨by rfl, fun w' hSw => by have xx := (M1.keep hSw).B.cells; go_simp⟩) hHeld ?_
    try simp only [Act.put, List.getElem_toArray, List.getElem_cons_succ, List.getElem_cons_zero, List.setIfInBounds_toArray, List.set_cons_succ, List.set_cons_zero]
    refine wpAnyH_take (i := 8) (oi := _) (v := .bool false) rfl (by kernel_rfl) (by kernel_rfl) (by kernel_rfl) (fun _ _ _ h => h) (Or.inl ⟨by rfl, fun w' hSw => by go_simp⟩) hHeld ?_
    try simp only [Act.put, List.getElem_toArray, List.getElem_cons_succ, List.getElem_cons_zero, List.setIfInBounds_toArray, List.set_cons_succ, List.set_cons_zero]
    refine wpAnyH_done (by kernel_rfl) ?_ _
    have hb6 := hHeld
    clear hHeld
    have T6 := T1.keep hb6
    have A6 := (AQ10.pl (p := { s.p with j := j1 }) (p' := { x.p with j := j1 }) (by rw [AQ10.p])).keep hb6
    clear z0 x0 T1 T0
    go_wp2_with (first | (refine wpList_load_row rfl 34 _ rfl (w.heap.size) rfl _ (wc ({ s with p := { s.p with j := j1 } } : Wk)) (0, 0) _ (by exact T6.X) Tryz.underlying34 rfl (by kernel_rfl) ?_) | (refine wpList_store_row rfl 34 _ _ rfl (w.heap.size + 1) (wc ({ s with p := { s.p with j := j1 } } : Wk)) rfl rfl _ _ (by exact T6.Z) (by kernel_rfl) (by kernel_rfl) (by kernel_rfl) ?_))
    have ZF := T6.rowZ ({ s with p := { s.p with j := j1 } } : Wk)
    refine bodyPost_ret (v := .tuple #[wv ({ s with p := { s.p with j := j1 } } : Wk), .int .i64 0, .bool true]) ?_ rfl ⟨_, rfl, ((A6.row (g := w.heap.size + 1) (fun q => q.2.2 rfl) _).mono (fun b _ q => q.1)), ZF.below⟩
    exact Rw.results_cell_slot2 (p := 4) (q := 5) (r := 6) (ty := 34) Tryz.results172 _ _ (w.heap.size + 1) 34 _ (0, 0) _ rfl ZF.Z Tryz.underlying34 rfl (by kernel_rfl)
set_option maxRecDepth 100000 in
set_option maxHeartbeats 8000000 in
theorem fFill {P : Nat → Prop} {B : Nat} {w : World} {g gl cap : Nat} {c : Cfg} {a : Acc} {L : List Int} (M : MemAt B w g c a gl cap L) (hf : c.Wf) (hm : L.length ≤ 1000) (s : Wk) (x : St) (hP : ∀ b, w.heap.size ≤ b → P b) (hG : ∀ b, P b → b ≠ g ∧ b ≠ gl) (A : LiesP P w s x) (wk : Int) :
    Calls Tryz.prog 146 #[.pointer (some ⟨g, 0, none⟩), .int .i64 wk, wv s] w (GSP P B g gl cap c (fillR c a L x) w) := by
  have mlt := M.lt
  have f28 : ∀ s : Wk, (wc s)[28]? = some (.int .i64 s.p.j) := fun _ => rfl
  have f18 : ∀ s : Wk, (wc s)[18]? = some (.int .i64 s.p.b) := fun _ => rfl
  have f3 : ∀ s : Wk, (wc s)[3]? = some (.int .u64 s.p.o2) := fun _ => rfl
  have T0 := Two.start w s
  have AQ := (A.mono (Q := fun b => P b ∧ b ≠ w.heap.size ∧ b ≠ w.heap.size + 1) (fun b hb q => ⟨q, by omega, by omega⟩)).keep T0.below
  obtain ⟨v0, hv0⟩ : ∃ u, u = (w.alloc (.cells (wc s) 34)).alloc (.cells (wc wz) 34) := ⟨_, rfl⟩
  rw [← hv0] at T0 AQ
  have x0 := T0.X.cells
  have z0 := T0.X.frozen
  have M0 := M.keep T0.below
  have lt0 := T0.lt
  have ll0 := T0.below.size
  have ep := A.p
  obtain ⟨b1, hb1⟩ : ∃ k, k = wrap64 (x.p.b - 1) := ⟨_, rfl⟩
  have hb1' : IntKind.i64.wrap (x.p.b - 1) = b1 := (IntWalk.i64_left _).trans hb1.symm
  obtain ⟨vj, hvj⟩ : ∃ v, v = IntKind.u64.wrap x.p.j := ⟨_, rfl⟩
  obtain ⟨vv, hvv⟩ : ∃ v, v = IntKind.u64.wrap (x.p.o2 + vj) := ⟨_, rfl⟩
  obtain ⟨ka, hka⟩ : ∃ k, k = aWrd c b1 x.p.j := ⟨_, rfl⟩
  have q28 : (wc s)[28]? = some (.int .i64 x.p.j) := by rw [f28, ep]
  have q18 : (wc s)[18]? = some (.int .i64 x.p.b) := by rw [f18, ep]
  have q3 : (wc s)[3]? = some (.int .u64 x.p.o2) := by rw [f3, ep]
  have HWD := Lib.hid (fun w => hka ▸ word c hf b1 x.p.j w)
  have hR : fillR c a L x = ⟨acc L 2 ka vv 0, stL L ka vv, nextS13 x, nextW13 c x, true⟩ := by unfold fillR; rw [← hb1, ← hvj, ← hvv, ← hka]
  rw [hR]
  have HVJ := hvj.symm
  have HVV := hvv.symm
  obtain ⟨jj, hjj⟩ : ∃ j, j = x.p.j := ⟨_, rfl⟩
  obtain ⟨oo, hoo⟩ : ∃ j, j = x.p.o2 := ⟨_, rfl⟩
  obtain ⟨bb, hbb⟩ : ∃ j, j = x.p.b := ⟨_, rfl⟩
  rw [← hjj] at q28 HWD HVJ
  rw [← hoo] at q3 HVV
  rw [← hbb] at q18 hb1'
  clear hb1 hvj hvv hka ep f28 f18 f3 hR hjj hoo hbb
  go_enter Tryz.func146, Tryz.ntmps146
  go_wp2_with (first | ((with_reducible refine wpList_alloc_wz rfl rfl ?_); rw [← hv0]; clear hv0))
  have hz0 : Below v0.heap.size v0 v0.drew := Below.drew (Below.refl _ _)
  refine wp_region_held_drew (S := fun w' => Bk w' w.heap.size (wc s) 34 ∧ ∃ a' y', Bk w' g (mc c a' y') 130) (by kernel_rfl) ⟨T0.X.keep hz0, _, _, (M0.keep hz0).B⟩ (fun hHeld => ?_)
  generalize v0.drew = z0' at *
  refine wpAnyH_take (i := 0) (oi := _) (v := .pointer (some ⟨g, 0, none⟩)) rfl (by kernel_rfl) (by kernel_rfl) (by kernel_rfl) (fun _ _ _ h => h) (Or.inl ⟨by rfl, fun w' hSw => by go_simp⟩) hHeld ?_
  try simp only [Act.put, List.getElem_toArray, List.getElem_cons_succ, List.getElem_cons_zero, List.setIfInBounds_toArray, List.set_cons_succ, List.set_cons_zero]
  refine wpAnyH_take (i := 1) (oi := _) (v := .pointer (some ⟨g, 0, none⟩)) rfl (by kernel_rfl) (by kernel_rfl) (by kernel_rfl) (fun _ _ _ h => h) (Or.inl ⟨by rfl, fun w' hSw => by go_simp⟩) hHeld ?_
  try simp only [Act.put, List.getElem_toArray, List.getElem_cons_succ, List.getElem_cons_zero, List.setIfInBounds_toArray, List.set_cons_succ, List.set_cons_zero]
  refine wpAnyH_take (i := 2) (oi := _) (v := .pointer (some ⟨g, 0, none⟩)) rfl (by kernel_rfl) (by kernel_rfl) (by kernel_rfl) (fun _ _ _ h => h) (Or.inl ⟨by rfl, fun w' hSw => by go_simp⟩) hHeld ?_
  try simp only [Act.put, List.getElem_toArray, List.getElem_cons_succ, List.getElem_cons_zero, List.setIfInBounds_toArray, List.set_cons_succ, List.set_cons_zero]
  refine wpAnyH_take (i := 3) (oi := _) (v := .pointer (some ⟨g, 0, none⟩)) rfl (by kernel_rfl) (by kernel_rfl) (by kernel_rfl) (fun _ _ _ h => h) (Or.inl ⟨by rfl, fun w' hSw => by go_simp⟩) hHeld ?_
  try simp only [Act.put, List.getElem_toArray, List.getElem_cons_succ, List.getElem_cons_zero, List.setIfInBounds_toArray, List.set_cons_succ, List.set_cons_zero]
  refine wpAnyH_take (i := 4) (oi := _) (v := cv c) rfl (by kernel_rfl) (by kernel_rfl) (by kernel_rfl) (fun _ _ _ h => h) (Or.inl ⟨by rfl, fun w' hSw => by obtain ⟨_, _, _, hBB⟩ := hSw; have xx := hBB.cells; go_simp⟩) hHeld ?_
  try simp only [Act.put, List.getElem_toArray, List.getElem_cons_succ, List.getElem_cons_zero, List.setIfInBounds_toArray, List.set_cons_succ, List.set_cons_zero]
  refine wpAnyH_take (i := 5) (oi := _) (v := .pointer (some ⟨w.heap.size, 18, none⟩)) rfl (by kernel_rfl) (by kernel_rfl) (by kernel_rfl) (fun _ _ _ h => h) (Or.inl ⟨by rfl, fun w' hSw => by go_simp⟩) hHeld ?_
  try simp only [Act.put, List.getElem_toArray, List.getElem_cons_succ, List.getElem_cons_zero, List.setIfInBounds_toArray, List.set_cons_succ, List.set_cons_zero]
  refine wpAnyH_take (i := 6) (oi := _) (v := .int .i64 bb) rfl (by kernel_rfl) (by kernel_rfl) (by kernel_rfl) (fun _ _ _ h => h) (Or.inl ⟨by rfl, fun w' hSw => by have xx := hSw.1.cells; go_simp⟩) hHeld ?_
  try simp only [Act.put, List.getElem_toArray, List.getElem_cons_succ, List.getElem_cons_zero, List.setIfInBounds_toArray, List.set_cons_succ, List.set_cons_zero]
  refine wpAnyH_take (i := 7) (oi := _) (v := .int .i64 b1) rfl (by kernel_rfl) (by kernel_rfl) (by kernel_rfl) (fun _ _ _ h => h) (Or.inl ⟨by rfl, fun w' hSw => by go_simp⟩) hHeld ?_
  try simp only [Act.put, List.getElem_toArray, List.getElem_cons_succ, List.getElem_cons_zero, List.setIfInBounds_toArray, List.set_cons_succ, List.set_cons_zero]
  refine wpAnyH_take (i := 8) (oi := _) (v := .pointer (some ⟨w.heap.size, 28, none⟩)) rfl (by kernel_rfl) (by kernel_rfl) (by kernel_rfl) (fun _ _ _ h => h) (Or.inl ⟨by rfl, fun w' hSw => by go_simp⟩) hHeld ?_
  try simp only [Act.put, List.getElem_toArray, List.getElem_cons_succ, List.getElem_cons_zero, List.setIfInBounds_toArray, List.set_cons_succ, List.set_cons_zero]
  refine wpAnyH_take (i := 9) (oi := _) (v := .int .i64 jj) rfl (by kernel_rfl) (by kernel_rfl) (by kernel_rfl) (fun _ _ _ h => h) (Or.inl ⟨by rfl, fun w' hSw => by have xx := hSw.1.cells; go_simp⟩) hHeld ?_
  try simp only [Act.put, List.getElem_toArray, List.getElem_cons_succ, List.getElem_cons_zero, List.setIfInBounds_toArray, List.set_cons_succ, List.set_cons_zero]
  refine wpAnyH_take (i := 11) (oi := _) (v := .pointer (some ⟨w.heap.size, 1, none⟩)) rfl (by kernel_rfl) (by kernel_rfl) (by kernel_rfl) (fun _ _ _ h => h) (Or.inl ⟨by rfl, fun w' hSw => by go_simp⟩) hHeld ?_
  try simp only [Act.put, List.getElem_toArray, List.getElem_cons_succ, List.getElem_cons_zero, List.setIfInBounds_toArray, List.set_cons_succ, List.set_cons_zero]
  refine wpAnyH_take (i := 12) (oi := _) (v := .pointer (some ⟨w.heap.size, 3, none⟩)) rfl (by kernel_rfl) (by kernel_rfl) (by kernel_rfl) (fun _ _ _ h => h) (Or.inl ⟨by rfl, fun w' hSw => by go_simp⟩) hHeld ?_
  try simp only [Act.put, List.getElem_toArray, List.getElem_cons_succ, List.getElem_cons_zero, List.setIfInBounds_toArray, List.set_cons_succ, List.set_cons_zero]
  refine wpAnyH_take (i := 13) (oi := _) (v := .int .u64 oo) rfl (by kernel_rfl) (by kernel_rfl) (by kernel_rfl) (fun _ _ _ h => h) (Or.inl ⟨by rfl, fun w' hSw => by have xx := hSw.1.cells; go_simp⟩) hHeld ?_
  try simp only [Act.put, List.getElem_toArray, List.getElem_cons_succ, List.getElem_cons_zero, List.setIfInBounds_toArray, List.set_cons_succ, List.set_cons_zero]
  refine wpAnyH_take (i := 14) (oi := _) (v := .pointer (some ⟨w.heap.size, 28, none⟩)) rfl (by kernel_rfl) (by kernel_rfl) (by kernel_rfl) (fun _ _ _ h => h) (Or.inl ⟨by rfl, fun w' hSw => by go_simp⟩) hHeld ?_
  try simp only [Act.put, List.getElem_toArray, List.getElem_cons_succ, List.getElem_cons_zero, List.setIfInBounds_toArray, List.set_cons_succ, List.set_cons_zero]
  refine wpAnyH_take (i := 15) (oi := _) (v := .int .i64 jj) rfl (by kernel_rfl) (by kernel_rfl) (by kernel_rfl) (fun _ _ _ h => h) (Or.inl ⟨by rfl, fun w' hSw => by have xx := hSw.1.cells; go_simp⟩) hHeld ?_
  try simp only [Act.put, List.getElem_toArray, List.getElem_cons_succ, List.getElem_cons_zero, List.setIfInBounds_toArray, List.set_cons_succ, List.set_cons_zero]
  refine wpAnyH_take (i := 16) (oi := _) (v := .int .u64 vj) rfl (by kernel_rfl) (by kernel_rfl) (by kernel_rfl) (fun _ _ _ h => h) (Or.inl ⟨by rfl, fun w' hSw => by go_simp⟩) hHeld ?_
  try simp only [Act.put, List.getElem_toArray, List.getElem_cons_succ, List.getElem_cons_zero, List.setIfInBounds_toArray, List.set_cons_succ, List.set_cons_zero]
  refine wpAnyH_take (i := 17) (oi := _) (v := .int .u64 vv) rfl (by kernel_rfl) (by kernel_rfl) (by kernel_rfl) (fun _ _ _ h => h) (Or.inl ⟨by rfl, fun w' hSw => by go_simp⟩) hHeld ?_
  try simp only [Act.put, List.getElem_toArray, List.getElem_cons_succ, List.getElem_cons_zero, List.setIfInBounds_toArray, List.set_cons_succ, List.set_cons_zero]
  refine wpAnyH_ready (rs := [10]) (by kernel_rfl) (by simp) ?_
  refine AllReadyH.cons (o := _) rfl (fun K hK => ?_) AllReadyH.nil
  go_simp
  refine (HWD.out _).mono ?_
  rintro e z1 ⟨rfl, hb⟩
  have hz1 := hz0.trans (hb.mono hz0.size)
  refine hK.out _ _ ⟨T0.X.keep hz1, _, _, (M0.keep hz1).B⟩ (fun hHeld => ?_)
  clear hK K hb
  try simp only [Act.put, List.getElem_toArray, List.getElem_cons_succ, List.getElem_cons_zero, List.setIfInBounds_toArray, List.set_cons_succ, List.set_cons_zero]
  refine wpAnyH_ready (rs := [18]) (by kernel_rfl) (by simp) ?_
  refine AllReadyH.cons (o := _) rfl (fun K hK => ?_) AllReadyH.nil
  go_simp
  refine (store_any (M0.keep hz1) hm ka vv).mono ?_
  rintro e z2 ⟨rfl, M2, T2⟩
  have X2 := T2.bk (T0.X.keep hz1) (by omega) (by omega)
  have Z2 := T2.bk (T0.Z.keep hz1) (by omega) (by omega)
  have AH := AQ.keep hz1
  have A2 : LiesP (fun b => P b ∧ b ≠ w.heap.size ∧ b ≠ w.heap.size + 1) z2 s x := ⟨AH.p, rdpT AH.rk T2 (fun b q => (hG b q.1).1) (fun b q => (hG b q.1).2), rdpT AH.l0 T2 (fun b q => (hG b q.1).1) (fun b q => (hG b q.1).2), rdpT AH.l1 T2 (fun b q => (hG b q.1).1) (fun b q => (hG b q.1).2), rdpT AH.l2 T2 (fun b q => (hG b q.1).1) (fun b q => (hG b q.1).2), rdpT AH.hl T2 (fun b q => (hG b q.1).1) (fun b q => (hG b q.1).2), rdpT AH.rd T2 (fun b q => (hG b q.1).1) (fun b q => (hG b q.1).2)⟩
  have TT2 : Touch g gl w z2 := (Touch.of_below (T0.below.trans (hz1.mono ll0))).trans T2
  have sz2 := TT2.size
  have sz3 := T2.size
  have sz4 := hz1.size
  have HP' : ∀ b, z2.heap.size ≤ b → (P b ∧ b ≠ w.heap.size ∧ b ≠ w.heap.size + 1) := fun b hb => ⟨hP b (by omega), by omega, by omega⟩
  have HNX := Lib.hid (fNext HP' A2 M2)
  refine hK.out _ _ ⟨X2, _, _, M2.B⟩ (fun hHeld => ?_)
  clear hK K
  try simp only [Act.put, List.getElem_toArray, List.getElem_cons_succ, List.getElem_cons_zero, List.setIfInBounds_toArray, List.set_cons_succ, List.set_cons_zero]
  refine wpAnyH_done (by kernel_rfl) ?_ _
  clear hHeld AH
  go_wp2_with (first | (refine wpList_load_row rfl 34 _ rfl (w.heap.size) rfl _ (wc s) (0, 0) _ (by exact X2) Tryz.underlying34 rfl (by kernel_rfl) ?_))
  refine HNX.out.mono ?_
  rintro e w5 ⟨s5, rfl, A5, hb5⟩
  have Z5 := Z2.keep hb5
  have M5 := M2.keep hb5
  have TT5 := TT2.trans (Touch.of_below hb5)
  go_wp2_with (first | (refine wpList_store_row rfl 34 _ _ rfl (w.heap.size + 1) (wc s5) rfl rfl _ _ (by exact Z5) (by kernel_rfl) (by kernel_rfl) (by kernel_rfl) ?_))
  have ZF := Z5.setRow (wc s5)
  refine bodyPost_ret (v := .tuple #[wv s5, .int .i64 (nextW13 c x), .bool true]) ?_ rfl ⟨_, rfl, (A5.row (g := w.heap.size + 1) (fun q => q.2.2 rfl) _).mono (fun b _ q => q.1), M5.apart (g' := w.heap.size + 1) (gl' := w.heap.size + 1) ((Touch.refl _ _ _).setRow _) (by omega) (by omega) (by omega) (by omega), touchZ TT5 (by omega) _⟩
  exact Rw.results_cell_slot2 (p := 6) (q := 7) (r := 8) (ty := 34) Tryz.results146 _ _ (w.heap.size + 1) 34 _ (0, 0) _ rfl ZF Tryz.underlying34 rfl (by kernel_rfl)
end Go.Proofs.YtgpdkagmacpghaaGreat.Me

/- The rules of the lines of layer 13's example, and its thirteen steps (made by genworkex.py). -/
namespace Go.Proofs.YtgpdkagmacpghaaGreat.Me
open Go Go.RowKit Go.ChangeMaps Go.Proofs.YtgpdkagmacpghaaGreat.Gro Go.Proofs.YtgpdkagmacpghaaGreat.Own Go.Proofs.YtgpdkagmacpghaaGreat.Wd Go.Proofs.YtgpdkagmacpghaaGreat.Ap Go.Proofs.YtgpdkagmacpghaaGreat.Pl Go.Proofs.YtgpdkagmacpghaaGreat.Wo Go.Proofs.YtgpdkagmacpghaaGreat.Mr
set_option linter.unusedVariables false
set_option linter.unusedSimpArgs false
abbrev noNP : Nat → World → Value → Prop := fun _ _ _ => True
set_option maxRecDepth 100000 in
theorem rg_1 : RG false 1 125 capN 126 capN noNP := by
  intro w
  refine (w_rulesF w).mono ?_
  rintro e w' ⟨b, rfl, ⟨t1, t2, s1, e1, e2, k1, f50, x5, n1, x7, y5, r43, r45, f61, t0, MM, Bt1, Bt2, Bs1, Be1, Be2, Bk1, Bf50, Bx5, Bn1, Bx7, By5, Br43, Br45, Bf61, Bt0⟩, hb, hbl⟩
  exact ⟨b, _, #[], #[], .nilFunc, rfl, MM, by kernel_rfl, rfl, rfl, trivial, rfl, hbl⟩
set_option maxRecDepth 100000 in
theorem rg_2 : RG false 2 125 capN 126 capN noNP := by
  intro w
  refine (w_rulesF w).mono ?_
  rintro e w' ⟨b, rfl, ⟨t1, t2, s1, e1, e2, k1, f50, x5, n1, x7, y5, r43, r45, f61, t0, MM, Bt1, Bt2, Bs1, Be1, Be2, Bk1, Bf50, Bx5, Bn1, Bx7, By5, Br43, Br45, Bf61, Bt0⟩, hb, hbl⟩
  exact ⟨b, _, #[], #[], .nilFunc, rfl, MM, by kernel_rfl, rfl, rfl, trivial, rfl, hbl⟩
set_option maxRecDepth 100000 in
theorem rg_3 : RG false 3 125 capN 126 capN noNP := by
  intro w
  refine (w_rulesF w).mono ?_
  rintro e w' ⟨b, rfl, ⟨t1, t2, s1, e1, e2, k1, f50, x5, n1, x7, y5, r43, r45, f61, t0, MM, Bt1, Bt2, Bs1, Be1, Be2, Bk1, Bf50, Bx5, Bn1, Bx7, By5, Br43, Br45, Bf61, Bt0⟩, hb, hbl⟩
  exact ⟨b, _, #[], #[], .nilFunc, rfl, MM, by kernel_rfl, rfl, rfl, trivial, rfl, hbl⟩
set_option maxRecDepth 100000 in
theorem rg_10 : RG false 10 156 (capB (fnV 137) 182) 162 (capB (.int .i64 50) 3) noNP := by
  intro w
  refine (w_rulesF w).mono ?_
  rintro e w' ⟨b, rfl, ⟨t1, t2, s1, e1, e2, k1, f50, x5, n1, x7, y5, r43, r45, f61, t0, MM, Bt1, Bt2, Bs1, Be1, Be2, Bk1, Bf50, Bx5, Bn1, Bx7, By5, Br43, Br45, Bf61, Bt0⟩, hb, hbl⟩
  exact ⟨b, _, #[.pointer (some ⟨k1, 0, none⟩)], #[.pointer (some ⟨f50, 0, none⟩)], (cloV 163 x5), rfl, MM, by kernel_rfl, ⟨k1, rfl, Bk1⟩, ⟨f50, rfl, Bf50⟩, trivial, rfl, hbl⟩
set_option maxRecDepth 100000 in
theorem rg_33 : RG false 33 156 (capB (fnV 137) 182) 162 (capB (.int .i64 50) 3) noNP := by
  intro w
  refine (w_rulesF w).mono ?_
  rintro e w' ⟨b, rfl, ⟨t1, t2, s1, e1, e2, k1, f50, x5, n1, x7, y5, r43, r45, f61, t0, MM, Bt1, Bt2, Bs1, Be1, Be2, Bk1, Bf50, Bx5, Bn1, Bx7, By5, Br43, Br45, Bf61, Bt0⟩, hb, hbl⟩
  exact ⟨b, _, #[.pointer (some ⟨k1, 0, none⟩)], #[.pointer (some ⟨f50, 0, none⟩)], (cloV 163 x5), rfl, MM, by kernel_rfl, ⟨k1, rfl, Bk1⟩, ⟨f50, rfl, Bf50⟩, trivial, rfl, hbl⟩
set_option maxRecDepth 100000 in
theorem rg_34 : RG false 34 156 (capB (fnV 137) 182) 162 (capB (.int .i64 50) 3) noNP := by
  intro w
  refine (w_rulesF w).mono ?_
  rintro e w' ⟨b, rfl, ⟨t1, t2, s1, e1, e2, k1, f50, x5, n1, x7, y5, r43, r45, f61, t0, MM, Bt1, Bt2, Bs1, Be1, Be2, Bk1, Bf50, Bx5, Bn1, Bx7, By5, Br43, Br45, Bf61, Bt0⟩, hb, hbl⟩
  exact ⟨b, _, #[.pointer (some ⟨k1, 0, none⟩)], #[.pointer (some ⟨f50, 0, none⟩)], (cloV 163 x5), rfl, MM, by kernel_rfl, ⟨k1, rfl, Bk1⟩, ⟨f50, rfl, Bf50⟩, trivial, rfl, hbl⟩
set_option maxRecDepth 100000 in
theorem rg_50 : RG false 50 146 capN 147 capN noNP := by
  intro w
  refine (w_rulesF w).mono ?_
  rintro e w' ⟨b, rfl, ⟨t1, t2, s1, e1, e2, k1, f50, x5, n1, x7, y5, r43, r45, f61, t0, MM, Bt1, Bt2, Bs1, Be1, Be2, Bk1, Bf50, Bx5, Bn1, Bx7, By5, Br43, Br45, Bf61, Bt0⟩, hb, hbl⟩
  exact ⟨b, _, #[], #[], .nilFunc, rfl, MM, by kernel_rfl, rfl, rfl, trivial, rfl, hbl⟩
set_option maxRecDepth 100000 in
theorem rg_20 : RG false 20 156 (capB (fnV 140) 182) 130 capN noNP := by
  intro w
  refine (w_rulesF w).mono ?_
  rintro e w' ⟨b, rfl, ⟨t1, t2, s1, e1, e2, k1, f50, x5, n1, x7, y5, r43, r45, f61, t0, MM, Bt1, Bt2, Bs1, Be1, Be2, Bk1, Bf50, Bx5, Bn1, Bx7, By5, Br43, Br45, Bf61, Bt0⟩, hb, hbl⟩
  exact ⟨b, _, #[.pointer (some ⟨n1, 0, none⟩)], #[], (cloV 163 y5), rfl, MM, by kernel_rfl, ⟨n1, rfl, Bn1⟩, rfl, trivial, rfl, hbl⟩
set_option maxRecDepth 100000 in
theorem rg_21 : RG false 21 156 (capB (fnV 140) 182) 130 capN noNP := by
  intro w
  refine (w_rulesF w).mono ?_
  rintro e w' ⟨b, rfl, ⟨t1, t2, s1, e1, e2, k1, f50, x5, n1, x7, y5, r43, r45, f61, t0, MM, Bt1, Bt2, Bs1, Be1, Be2, Bk1, Bf50, Bx5, Bn1, Bx7, By5, Br43, Br45, Bf61, Bt0⟩, hb, hbl⟩
  exact ⟨b, _, #[.pointer (some ⟨n1, 0, none⟩)], #[], (cloV 163 y5), rfl, MM, by kernel_rfl, ⟨n1, rfl, Bn1⟩, rfl, trivial, rfl, hbl⟩
set_option maxRecDepth 100000 in
theorem rg_22 : RG false 22 156 (capB (fnV 140) 182) 130 capN noNP := by
  intro w
  refine (w_rulesF w).mono ?_
  rintro e w' ⟨b, rfl, ⟨t1, t2, s1, e1, e2, k1, f50, x5, n1, x7, y5, r43, r45, f61, t0, MM, Bt1, Bt2, Bs1, Be1, Be2, Bk1, Bf50, Bx5, Bn1, Bx7, By5, Br43, Br45, Bf61, Bt0⟩, hb, hbl⟩
  exact ⟨b, _, #[.pointer (some ⟨n1, 0, none⟩)], #[], (cloV 163 y5), rfl, MM, by kernel_rfl, ⟨n1, rfl, Bn1⟩, rfl, trivial, rfl, hbl⟩
set_option maxRecDepth 100000 in
theorem rg_40 : RG false 40 156 (capB (fnV 140) 182) 130 capN noNP := by
  intro w
  refine (w_rulesF w).mono ?_
  rintro e w' ⟨b, rfl, ⟨t1, t2, s1, e1, e2, k1, f50, x5, n1, x7, y5, r43, r45, f61, t0, MM, Bt1, Bt2, Bs1, Be1, Be2, Bk1, Bf50, Bx5, Bn1, Bx7, By5, Br43, Br45, Bf61, Bt0⟩, hb, hbl⟩
  exact ⟨b, _, #[.pointer (some ⟨n1, 0, none⟩)], #[], (cloV 163 y5), rfl, MM, by kernel_rfl, ⟨n1, rfl, Bn1⟩, rfl, trivial, rfl, hbl⟩
set_option maxRecDepth 100000 in
theorem rg_41 : RG false 41 156 (capB (fnV 140) 182) 130 capN noNP := by
  intro w
  refine (w_rulesF w).mono ?_
  rintro e w' ⟨b, rfl, ⟨t1, t2, s1, e1, e2, k1, f50, x5, n1, x7, y5, r43, r45, f61, t0, MM, Bt1, Bt2, Bs1, Be1, Be2, Bk1, Bf50, Bx5, Bn1, Bx7, By5, Br43, Br45, Bf61, Bt0⟩, hb, hbl⟩
  exact ⟨b, _, #[.pointer (some ⟨n1, 0, none⟩)], #[], (cloV 163 y5), rfl, MM, by kernel_rfl, ⟨n1, rfl, Bn1⟩, rfl, trivial, rfl, hbl⟩
set_option maxRecDepth 100000 in
theorem rg_90 : RG false 90 125 capN 127 capN noNP := by
  intro w
  refine (w_rulesF w).mono ?_
  rintro e w' ⟨b, rfl, ⟨t1, t2, s1, e1, e2, k1, f50, x5, n1, x7, y5, r43, r45, f61, t0, MM, Bt1, Bt2, Bs1, Be1, Be2, Bk1, Bf50, Bx5, Bn1, Bx7, By5, Br43, Br45, Bf61, Bt0⟩, hb, hbl⟩
  exact ⟨b, _, #[], #[], .nilFunc, rfl, MM, by kernel_rfl, rfl, rfl, trivial, rfl, hbl⟩
abbrev c13 : Cfg := ⟨1, 1, 1, 1, 1, 0, 1, 1⟩
theorem c13_wf : c13.Wf := ⟨by decide, by decide⟩
theorem c13_ok : Ok c13 := chk_ok.1 (by decide)
theorem first13 : firstL c13 = [2, 0, 1, 0, 0, 1048576, 0, 0, 0] := by decide +kernel
theorem few13 (p : Pl) (n : Nat) : Few n ⟨p, [], [], [], [], [], []⟩ := ⟨Nat.zero_le _, Nat.zero_le _, Nat.zero_le _, Nat.zero_le _, Nat.zero_le _, Nat.zero_le _⟩
set_option maxRecDepth 100000 in
theorem eq13_0 (a : Acc) : ofRes (epochLn c13 a [2, 0, 1, 0, 0, 1048576, 0, 0, 0] (⟨{ pz with ln := 1, o0 := 3, o2 := 7 }, [], [], [], [], [], []⟩ : St).p 0).fin (⟨{ pz with ln := 1, o0 := 3, o2 := 7 }, [], [], [], [], [], []⟩ : St) = ⟨(ofRes (epochLn c13 a [2, 0, 1, 0, 0, 1048576, 0, 0, 0] (⟨{ pz with ln := 1, o0 := 3, o2 := 7 }, [], [], [], [], [], []⟩ : St).p 0).fin (⟨{ pz with ln := 1, o0 := 3, o2 := 7 }, [], [], [], [], [], []⟩ : St)).a, [2, 0, 1, 0, 0, 1048576, 0, 0, 0], (⟨{ pz with ep := 2, ln := 2, o0 := 3, o2 := 7 }, [], [], [], [], [], []⟩ : St), 0, true⟩ := by kernel_rfl
theorem pr13_0 : PR (⟨{ pz with ln := 1, o0 := 3, o2 := 7 }, [], [], [], [], [], []⟩ : St).p := by constructor <;> decide
set_option maxRecDepth 100000 in
theorem ex13_0 {B : Nat} {w : World} {g gl cap : Nat} {a : Acc} {s : Wk} (M : MemAt B w g c13 a gl cap [2, 0, 1, 0, 0, 1048576, 0, 0, 0]) (h : Lies w s (⟨{ pz with ln := 1, o0 := 3, o2 := 7 }, [], [], [], [], [], []⟩ : St)) : ∃ a', Calls Tryz.prog 40 #[.pointer (some ⟨g, 0, none⟩), .int .i64 0, wv s] w (WS B g gl cap c13 a' [2, 0, 1, 0, 0, 1048576, 0, 0, 0] (⟨{ pz with ep := 2, ln := 2, o0 := 3, o2 := 7 }, [], [], [], [], [], []⟩ : St) true w) := by
  refine ⟨(ofRes (epochLn c13 a [2, 0, 1, 0, 0, 1048576, 0, 0, 0] (⟨{ pz with ln := 1, o0 := 3, o2 := 7 }, [], [], [], [], [], []⟩ : St).p 0).fin (⟨{ pz with ln := 1, o0 := 3, o2 := 7 }, [], [], [], [], [], []⟩ : St)).a, workStep0 M 0 s (⟨{ pz with ln := 1, o0 := 3, o2 := 7 }, [], [], [], [], [], []⟩ : St) (few13 _ _) h (gv := false) rfl (ln := 1) rfl (capN_cap) (capN_cap) (fun h _ => h) (fun h _ _ _ => h) rg_1 Tryz.call125 (r := ⟨(ofRes (epochLn c13 a [2, 0, 1, 0, 0, 1048576, 0, 0, 0] (⟨{ pz with ln := 1, o0 := 3, o2 := 7 }, [], [], [], [], [], []⟩ : St).p 0).fin (⟨{ pz with ln := 1, o0 := 3, o2 := 7 }, [], [], [], [], [], []⟩ : St)).a, [2, 0, 1, 0, 0, 1048576, 0, 0, 0], (⟨{ pz with ep := 2, ln := 2, o0 := 3, o2 := 7 }, [], [], [], [], [], []⟩ : St), 0, true⟩) (Lib.hid ?_) ⟨by show (0 : Int) ≠ 1; decide, by show (0 : Int) ≠ 2; decide⟩⟩
  · intro P B1 w1 s1 sc hP hG M1 A1 hsc
    obtain rfl : sc = #[] := hsc
    refine (epochStepAny M1 c13_wf (by decide) (by unfold WR; decide) s1 (⟨{ pz with ln := 1, o0 := 3, o2 := 7 }, [], [], [], [], [], []⟩ : St) (few13 _ _) A1.lies pr13_0 0).mono fun e w' q => ?_
    have q2 := gs_of q
    rw [eq13_0] at q2
    exact gsp_of hP q2
set_option maxRecDepth 100000 in
theorem eq13_1 (a : Acc) : ofRes (epochLn c13 a [2, 0, 1, 0, 0, 1048576, 0, 0, 0] (⟨{ pz with ep := 2, ln := 2, o0 := 3, o2 := 7 }, [], [], [], [], [], []⟩ : St).p 0).fin (⟨{ pz with ep := 2, ln := 2, o0 := 3, o2 := 7 }, [], [], [], [], [], []⟩ : St) = ⟨(ofRes (epochLn c13 a [2, 0, 1, 0, 0, 1048576, 0, 0, 0] (⟨{ pz with ep := 2, ln := 2, o0 := 3, o2 := 7 }, [], [], [], [], [], []⟩ : St).p 0).fin (⟨{ pz with ep := 2, ln := 2, o0 := 3, o2 := 7 }, [], [], [], [], [], []⟩ : St)).a, [2, 0, 1, 5, 0, 1048576, 0, 0, 0], (⟨{ pz with ep := 2, ln := 3, o0 := 3, o2 := 7 }, [], [], [], [], [], []⟩ : St), 0, true⟩ := by kernel_rfl
theorem pr13_1 : PR (⟨{ pz with ep := 2, ln := 2, o0 := 3, o2 := 7 }, [], [], [], [], [], []⟩ : St).p := by constructor <;> decide
set_option maxRecDepth 100000 in
theorem ex13_1 {B : Nat} {w : World} {g gl cap : Nat} {a : Acc} {s : Wk} (M : MemAt B w g c13 a gl cap [2, 0, 1, 0, 0, 1048576, 0, 0, 0]) (h : Lies w s (⟨{ pz with ep := 2, ln := 2, o0 := 3, o2 := 7 }, [], [], [], [], [], []⟩ : St)) : ∃ a', Calls Tryz.prog 40 #[.pointer (some ⟨g, 0, none⟩), .int .i64 0, wv s] w (WS B g gl cap c13 a' [2, 0, 1, 5, 0, 1048576, 0, 0, 0] (⟨{ pz with ep := 2, ln := 3, o0 := 3, o2 := 7 }, [], [], [], [], [], []⟩ : St) true w) := by
  refine ⟨(ofRes (epochLn c13 a [2, 0, 1, 0, 0, 1048576, 0, 0, 0] (⟨{ pz with ep := 2, ln := 2, o0 := 3, o2 := 7 }, [], [], [], [], [], []⟩ : St).p 0).fin (⟨{ pz with ep := 2, ln := 2, o0 := 3, o2 := 7 }, [], [], [], [], [], []⟩ : St)).a, workStep0 M 0 s (⟨{ pz with ep := 2, ln := 2, o0 := 3, o2 := 7 }, [], [], [], [], [], []⟩ : St) (few13 _ _) h (gv := false) rfl (ln := 2) rfl (capN_cap) (capN_cap) (fun h _ => h) (fun h _ _ _ => h) rg_2 Tryz.call125 (r := ⟨(ofRes (epochLn c13 a [2, 0, 1, 0, 0, 1048576, 0, 0, 0] (⟨{ pz with ep := 2, ln := 2, o0 := 3, o2 := 7 }, [], [], [], [], [], []⟩ : St).p 0).fin (⟨{ pz with ep := 2, ln := 2, o0 := 3, o2 := 7 }, [], [], [], [], [], []⟩ : St)).a, [2, 0, 1, 5, 0, 1048576, 0, 0, 0], (⟨{ pz with ep := 2, ln := 3, o0 := 3, o2 := 7 }, [], [], [], [], [], []⟩ : St), 0, true⟩) (Lib.hid ?_) ⟨by show (0 : Int) ≠ 1; decide, by show (0 : Int) ≠ 2; decide⟩⟩
  · intro P B1 w1 s1 sc hP hG M1 A1 hsc
    obtain rfl : sc = #[] := hsc
    refine (epochStepAny M1 c13_wf (by decide) (by unfold WR; decide) s1 (⟨{ pz with ep := 2, ln := 2, o0 := 3, o2 := 7 }, [], [], [], [], [], []⟩ : St) (few13 _ _) A1.lies pr13_1 0).mono fun e w' q => ?_
    have q2 := gs_of q
    rw [eq13_1] at q2
    exact gsp_of hP q2
set_option maxRecDepth 100000 in
theorem eq13_2 (a : Acc) : ofRes (epochLn c13 a [2, 0, 1, 5, 0, 1048576, 0, 0, 0] (⟨{ pz with ep := 2, ln := 3, o0 := 3, o2 := 7 }, [], [], [], [], [], []⟩ : St).p 0).fin (⟨{ pz with ep := 2, ln := 3, o0 := 3, o2 := 7 }, [], [], [], [], [], []⟩ : St) = ⟨(ofRes (epochLn c13 a [2, 0, 1, 5, 0, 1048576, 0, 0, 0] (⟨{ pz with ep := 2, ln := 3, o0 := 3, o2 := 7 }, [], [], [], [], [], []⟩ : St).p 0).fin (⟨{ pz with ep := 2, ln := 3, o0 := 3, o2 := 7 }, [], [], [], [], [], []⟩ : St)).a, [2, 0, 1, 5, 0, 1048576, 0, 0, 0], (⟨{ pz with ep := 2, ln := 0, o0 := 3, o2 := 7 }, [], [], [], [], [], []⟩ : St), 1, true⟩ := by kernel_rfl
theorem pr13_2 : PR (⟨{ pz with ep := 2, ln := 3, o0 := 3, o2 := 7 }, [], [], [], [], [], []⟩ : St).p := by constructor <;> decide
set_option maxRecDepth 100000 in
theorem ex13_2 {B : Nat} {w : World} {g gl cap : Nat} {a : Acc} {s : Wk} (M : MemAt B w g c13 a gl cap [2, 0, 1, 5, 0, 1048576, 0, 0, 0]) (h : Lies w s (⟨{ pz with ep := 2, ln := 3, o0 := 3, o2 := 7 }, [], [], [], [], [], []⟩ : St)) : ∃ a', Calls Tryz.prog 40 #[.pointer (some ⟨g, 0, none⟩), .int .i64 0, wv s] w (WS B g gl cap c13 a' [2, 0, 1, 5, 0, 1048576, 0, 0, 0] (⟨{ pz with ep := 2, ln := 10, o0 := 3, o2 := 7 }, [], [], [], [], [], []⟩ : St) true w) := by
  refine ⟨(ofRes (epochLn c13 a [2, 0, 1, 5, 0, 1048576, 0, 0, 0] (⟨{ pz with ep := 2, ln := 3, o0 := 3, o2 := 7 }, [], [], [], [], [], []⟩ : St).p 0).fin (⟨{ pz with ep := 2, ln := 3, o0 := 3, o2 := 7 }, [], [], [], [], [], []⟩ : St)).a, workStep1 M 0 s (⟨{ pz with ep := 2, ln := 3, o0 := 3, o2 := 7 }, [], [], [], [], [], []⟩ : St) (few13 _ _) h (gv := false) rfl (ln := 3) rfl (capN_cap) (capN_cap) (fun h _ => h) (fun h _ _ _ => h) rg_3 Tryz.call125 (r := ⟨(ofRes (epochLn c13 a [2, 0, 1, 5, 0, 1048576, 0, 0, 0] (⟨{ pz with ep := 2, ln := 3, o0 := 3, o2 := 7 }, [], [], [], [], [], []⟩ : St).p 0).fin (⟨{ pz with ep := 2, ln := 3, o0 := 3, o2 := 7 }, [], [], [], [], [], []⟩ : St)).a, [2, 0, 1, 5, 0, 1048576, 0, 0, 0], (⟨{ pz with ep := 2, ln := 0, o0 := 3, o2 := 7 }, [], [], [], [], [], []⟩ : St), 1, true⟩) (Lib.hid ?_) rfl Tryz.call126 (Lib.hid ?_)⟩
  · intro P B1 w1 s1 sc hP hG M1 A1 hsc
    obtain rfl : sc = #[] := hsc
    refine (epochStepAny M1 c13_wf (by decide) (by unfold WR; decide) s1 (⟨{ pz with ep := 2, ln := 3, o0 := 3, o2 := 7 }, [], [], [], [], [], []⟩ : St) (few13 _ _) A1.lies pr13_2 0).mono fun e w' q => ?_
    have q2 := gs_of q
    rw [eq13_2] at q2
    exact gsp_of hP q2
  · intro P B1 w1 s1 gc hP A1 hgc
    obtain rfl : gc = #[] := hgc
    exact fInside c13 hP A1 (few13 _ _)
set_option maxRecDepth 100000 in
theorem eq13_3 (a : Acc) : tkEnd (takeLn c13 a [2, 0, 1, 5, 0, 1048576, 0, 0, 0] (⟨{ pz with ep := 2, ln := 10, o0 := 3, o2 := 7 }, [], [], [], [], [], []⟩ : St)) = ⟨(tkEnd (takeLn c13 a [2, 0, 1, 5, 0, 1048576, 0, 0, 0] (⟨{ pz with ep := 2, ln := 10, o0 := 3, o2 := 7 }, [], [], [], [], [], []⟩ : St))).a, [2, 0, 1, 5, 0, 1048576, 0, 0, 0], (⟨{ pz with ep := 2, ln := 33, o0 := 3, o2 := 7 }, [], [], [], [], [], []⟩ : St), 0, true⟩ := by kernel_rfl
theorem pr13_3 : PR (⟨{ pz with ep := 2, ln := 10, o0 := 3, o2 := 7 }, [], [], [], [], [], []⟩ : St).p := by constructor <;> decide
set_option maxRecDepth 100000 in
theorem ex13_3 {B : Nat} {w : World} {g gl cap : Nat} {a : Acc} {s : Wk} (M : MemAt B w g c13 a gl cap [2, 0, 1, 5, 0, 1048576, 0, 0, 0]) (h : Lies w s (⟨{ pz with ep := 2, ln := 10, o0 := 3, o2 := 7 }, [], [], [], [], [], []⟩ : St)) : ∃ a', Calls Tryz.prog 40 #[.pointer (some ⟨g, 0, none⟩), .int .i64 0, wv s] w (WS B g gl cap c13 a' [2, 0, 1, 5, 0, 1048576, 0, 0, 0] (⟨{ pz with ep := 2, ln := 33, o0 := 3, o2 := 7 }, [], [], [], [], [], []⟩ : St) true w) := by
  refine ⟨(tkEnd (takeLn c13 a [2, 0, 1, 5, 0, 1048576, 0, 0, 0] (⟨{ pz with ep := 2, ln := 10, o0 := 3, o2 := 7 }, [], [], [], [], [], []⟩ : St))).a, workStep0 M 0 s (⟨{ pz with ep := 2, ln := 10, o0 := 3, o2 := 7 }, [], [], [], [], [], []⟩ : St) (few13 _ _) h (gv := false) rfl (ln := 10) rfl (capB_cap _ _) (capB_cap _ _) (fun h _ => h) (fun h _ _ _ => h) rg_10 Tryz.call156 (r := ⟨(tkEnd (takeLn c13 a [2, 0, 1, 5, 0, 1048576, 0, 0, 0] (⟨{ pz with ep := 2, ln := 10, o0 := 3, o2 := 7 }, [], [], [], [], [], []⟩ : St))).a, [2, 0, 1, 5, 0, 1048576, 0, 0, 0], (⟨{ pz with ep := 2, ln := 33, o0 := 3, o2 := 7 }, [], [], [], [], [], []⟩ : St), 0, true⟩) (Lib.hid ?_) ⟨by show (0 : Int) ≠ 1; decide, by show (0 : Int) ≠ 2; decide⟩⟩
  · intro P B1 w1 s1 sc hP hG M1 A1 hsc
    obtain ⟨a9, rfl, hbx⟩ := hsc
    exact fAlone M1 s1 (⟨{ pz with ep := 2, ln := 10, o0 := 3, o2 := 7 }, [], [], [], [], [], []⟩ : St) hP A1.lies Tryz.call137 hbx.bk (Lib.hid fun w2 M2 h2 => (takeStepAny M2 c13_wf (by decide) (by unfold WR; decide) s1 (⟨{ pz with ep := 2, ln := 10, o0 := 3, o2 := 7 }, [], [], [], [], [], []⟩ : St) (few13 _ _) h2 pr13_3 (by decide) (by decide)).mono fun e w' q => by rw [eq13_3] at q; exact q) 0
set_option maxRecDepth 100000 in
theorem eq13_4 (a : Acc) : tkEnd (takeLn c13 a [2, 0, 1, 5, 0, 1048576, 0, 0, 0] (⟨{ pz with ep := 2, ln := 33, o0 := 3, o2 := 7 }, [], [], [], [], [], []⟩ : St)) = ⟨(tkEnd (takeLn c13 a [2, 0, 1, 5, 0, 1048576, 0, 0, 0] (⟨{ pz with ep := 2, ln := 33, o0 := 3, o2 := 7 }, [], [], [], [], [], []⟩ : St))).a, [2, 0, 1, 5, 0, 1048576, 0, 0, 0], (⟨{ pz with ep := 2, ln := 34, o0 := 3, o2 := 7 }, [], [], [], [], [], []⟩ : St), 0, true⟩ := by kernel_rfl
theorem pr13_4 : PR (⟨{ pz with ep := 2, ln := 33, o0 := 3, o2 := 7 }, [], [], [], [], [], []⟩ : St).p := by constructor <;> decide
set_option maxRecDepth 100000 in
theorem ex13_4 {B : Nat} {w : World} {g gl cap : Nat} {a : Acc} {s : Wk} (M : MemAt B w g c13 a gl cap [2, 0, 1, 5, 0, 1048576, 0, 0, 0]) (h : Lies w s (⟨{ pz with ep := 2, ln := 33, o0 := 3, o2 := 7 }, [], [], [], [], [], []⟩ : St)) : ∃ a', Calls Tryz.prog 40 #[.pointer (some ⟨g, 0, none⟩), .int .i64 0, wv s] w (WS B g gl cap c13 a' [2, 0, 1, 5, 0, 1048576, 0, 0, 0] (⟨{ pz with ep := 2, ln := 34, o0 := 3, o2 := 7 }, [], [], [], [], [], []⟩ : St) true w) := by
  refine ⟨(tkEnd (takeLn c13 a [2, 0, 1, 5, 0, 1048576, 0, 0, 0] (⟨{ pz with ep := 2, ln := 33, o0 := 3, o2 := 7 }, [], [], [], [], [], []⟩ : St))).a, workStep0 M 0 s (⟨{ pz with ep := 2, ln := 33, o0 := 3, o2 := 7 }, [], [], [], [], [], []⟩ : St) (few13 _ _) h (gv := false) rfl (ln := 33) rfl (capB_cap _ _) (capB_cap _ _) (fun h _ => h) (fun h _ _ _ => h) rg_33 Tryz.call156 (r := ⟨(tkEnd (takeLn c13 a [2, 0, 1, 5, 0, 1048576, 0, 0, 0] (⟨{ pz with ep := 2, ln := 33, o0 := 3, o2 := 7 }, [], [], [], [], [], []⟩ : St))).a, [2, 0, 1, 5, 0, 1048576, 0, 0, 0], (⟨{ pz with ep := 2, ln := 34, o0 := 3, o2 := 7 }, [], [], [], [], [], []⟩ : St), 0, true⟩) (Lib.hid ?_) ⟨by show (0 : Int) ≠ 1; decide, by show (0 : Int) ≠ 2; decide⟩⟩
  · intro P B1 w1 s1 sc hP hG M1 A1 hsc
    obtain ⟨a9, rfl, hbx⟩ := hsc
    exact fAlone M1 s1 (⟨{ pz with ep := 2, ln := 33, o0 := 3, o2 := 7 }, [], [], [], [], [], []⟩ : St) hP A1.lies Tryz.call137 hbx.bk (Lib.hid fun w2 M2 h2 => (takeStepAny M2 c13_wf (by decide) (by unfold WR; decide) s1 (⟨{ pz with ep := 2, ln := 33, o0 := 3, o2 := 7 }, [], [], [], [], [], []⟩ : St) (few13 _ _) h2 pr13_4 (by decide) (by decide)).mono fun e w' q => by rw [eq13_4] at q; exact q) 0
set_option maxRecDepth 100000 in
theorem eq13_5 (a : Acc) : tkEnd (takeLn c13 a [2, 0, 1, 5, 0, 1048576, 0, 0, 0] (⟨{ pz with ep := 2, ln := 34, o0 := 3, o2 := 7 }, [], [], [], [], [], []⟩ : St)) = ⟨(tkEnd (takeLn c13 a [2, 0, 1, 5, 0, 1048576, 0, 0, 0] (⟨{ pz with ep := 2, ln := 34, o0 := 3, o2 := 7 }, [], [], [], [], [], []⟩ : St))).a, [2, 0, 1, 5, 1, 1048576, 0, 0, 0], (⟨{ pz with b := 1, ep := 2, ln := 0, o0 := 3, o2 := 7 }, [], [], [], [], [], []⟩ : St), 1, true⟩ := by kernel_rfl
theorem pr13_5 : PR (⟨{ pz with ep := 2, ln := 34, o0 := 3, o2 := 7 }, [], [], [], [], [], []⟩ : St).p := by constructor <;> decide
set_option maxRecDepth 100000 in
theorem ex13_5 {B : Nat} {w : World} {g gl cap : Nat} {a : Acc} {s : Wk} (M : MemAt B w g c13 a gl cap [2, 0, 1, 5, 0, 1048576, 0, 0, 0]) (h : Lies w s (⟨{ pz with ep := 2, ln := 34, o0 := 3, o2 := 7 }, [], [], [], [], [], []⟩ : St)) : ∃ a', Calls Tryz.prog 40 #[.pointer (some ⟨g, 0, none⟩), .int .i64 0, wv s] w (WS B g gl cap c13 a' [2, 0, 1, 5, 1, 1048576, 0, 0, 0] (⟨{ pz with b := 1, ep := 2, ln := 50, o0 := 3, o2 := 7 }, [], [], [], [], [], []⟩ : St) true w) := by
  refine ⟨(tkEnd (takeLn c13 a [2, 0, 1, 5, 0, 1048576, 0, 0, 0] (⟨{ pz with ep := 2, ln := 34, o0 := 3, o2 := 7 }, [], [], [], [], [], []⟩ : St))).a, workStep1 M 0 s (⟨{ pz with ep := 2, ln := 34, o0 := 3, o2 := 7 }, [], [], [], [], [], []⟩ : St) (few13 _ _) h (gv := false) rfl (ln := 34) rfl (capB_cap _ _) (capB_cap _ _) (fun h _ => h) (fun h _ _ _ => h) rg_34 Tryz.call156 (r := ⟨(tkEnd (takeLn c13 a [2, 0, 1, 5, 0, 1048576, 0, 0, 0] (⟨{ pz with ep := 2, ln := 34, o0 := 3, o2 := 7 }, [], [], [], [], [], []⟩ : St))).a, [2, 0, 1, 5, 1, 1048576, 0, 0, 0], (⟨{ pz with b := 1, ep := 2, ln := 0, o0 := 3, o2 := 7 }, [], [], [], [], [], []⟩ : St), 1, true⟩) (Lib.hid ?_) rfl Tryz.call162 (Lib.hid ?_)⟩
  · intro P B1 w1 s1 sc hP hG M1 A1 hsc
    obtain ⟨a9, rfl, hbx⟩ := hsc
    exact fAlone M1 s1 (⟨{ pz with ep := 2, ln := 34, o0 := 3, o2 := 7 }, [], [], [], [], [], []⟩ : St) hP A1.lies Tryz.call137 hbx.bk (Lib.hid fun w2 M2 h2 => (takeStepAny M2 c13_wf (by decide) (by unfold WR; decide) s1 (⟨{ pz with ep := 2, ln := 34, o0 := 3, o2 := 7 }, [], [], [], [], [], []⟩ : St) (few13 _ _) h2 pr13_5 (by decide) (by decide)).mono fun e w' q => by rw [eq13_5] at q; exact q) 0
  · intro P B1 w1 s1 gc hP A1 hgc
    obtain ⟨a9, rfl, hbx⟩ := hgc
    exact fFirst c13 hP A1 hbx.bk
set_option maxRecDepth 100000 in
theorem eq13_6 (a : Acc) : fillR c13 a [2, 0, 1, 5, 1, 1048576, 0, 0, 0] (⟨{ pz with b := 1, ep := 2, ln := 50, o0 := 3, o2 := 7 }, [], [], [], [], [], []⟩ : St) = ⟨(fillR c13 a [2, 0, 1, 5, 1, 1048576, 0, 0, 0] (⟨{ pz with b := 1, ep := 2, ln := 50, o0 := 3, o2 := 7 }, [], [], [], [], [], []⟩ : St)).a, [2, 0, 1, 5, 1, 1048576, 0, 0, 7], (⟨{ pz with b := 1, ep := 2, j := 1, ln := 50, o0 := 3, o2 := 7 }, [], [], [], [], [], []⟩ : St), 1, true⟩ := by kernel_rfl
theorem pr13_6 : PR (⟨{ pz with b := 1, ep := 2, ln := 50, o0 := 3, o2 := 7 }, [], [], [], [], [], []⟩ : St).p := by constructor <;> decide
set_option maxRecDepth 100000 in
theorem ex13_6 {B : Nat} {w : World} {g gl cap : Nat} {a : Acc} {s : Wk} (M : MemAt B w g c13 a gl cap [2, 0, 1, 5, 1, 1048576, 0, 0, 0]) (h : Lies w s (⟨{ pz with b := 1, ep := 2, ln := 50, o0 := 3, o2 := 7 }, [], [], [], [], [], []⟩ : St)) : ∃ a', Calls Tryz.prog 40 #[.pointer (some ⟨g, 0, none⟩), .int .i64 0, wv s] w (WS B g gl cap c13 a' [2, 0, 1, 5, 1, 1048576, 0, 0, 7] (⟨{ pz with b := 1, ep := 2, j := 1, ln := 20, o0 := 3, o2 := 7 }, [], [], [], [], [], []⟩ : St) true w) := by
  refine ⟨(fillR c13 a [2, 0, 1, 5, 1, 1048576, 0, 0, 0] (⟨{ pz with b := 1, ep := 2, ln := 50, o0 := 3, o2 := 7 }, [], [], [], [], [], []⟩ : St)).a, workStep1 M 0 s (⟨{ pz with b := 1, ep := 2, ln := 50, o0 := 3, o2 := 7 }, [], [], [], [], [], []⟩ : St) (few13 _ _) h (gv := false) rfl (ln := 50) rfl (capN_cap) (capN_cap) (fun h _ => h) (fun h _ _ _ => h) rg_50 Tryz.call146 (r := ⟨(fillR c13 a [2, 0, 1, 5, 1, 1048576, 0, 0, 0] (⟨{ pz with b := 1, ep := 2, ln := 50, o0 := 3, o2 := 7 }, [], [], [], [], [], []⟩ : St)).a, [2, 0, 1, 5, 1, 1048576, 0, 0, 7], (⟨{ pz with b := 1, ep := 2, j := 1, ln := 50, o0 := 3, o2 := 7 }, [], [], [], [], [], []⟩ : St), 1, true⟩) (Lib.hid ?_) rfl Tryz.call147 (Lib.hid ?_)⟩
  · intro P B1 w1 s1 sc hP hG M1 A1 hsc
    obtain rfl : sc = #[] := hsc
    have q2 := fFill M1 c13_wf (by decide) s1 (⟨{ pz with b := 1, ep := 2, ln := 50, o0 := 3, o2 := 7 }, [], [], [], [], [], []⟩ : St) hP hG A1 0
    rw [eq13_6] at q2
    exact q2
  · intro P B1 w1 s1 gc hP A1 hgc
    obtain rfl : gc = #[] := hgc
    exact fFilled c13 hP A1
set_option maxRecDepth 100000 in
theorem eq13_7 (a : Acc) : ofRes (entryLn c13 a [2, 0, 1, 5, 1, 1048576, 0, 0, 7] (⟨{ pz with b := 1, ep := 2, j := 1, ln := 20, o0 := 3, o2 := 7 }, [], [], [], [], [], []⟩ : St).p).fin (⟨{ pz with b := 1, ep := 2, j := 1, ln := 20, o0 := 3, o2 := 7 }, [], [], [], [], [], []⟩ : St) = ⟨(ofRes (entryLn c13 a [2, 0, 1, 5, 1, 1048576, 0, 0, 7] (⟨{ pz with b := 1, ep := 2, j := 1, ln := 20, o0 := 3, o2 := 7 }, [], [], [], [], [], []⟩ : St).p).fin (⟨{ pz with b := 1, ep := 2, j := 1, ln := 20, o0 := 3, o2 := 7 }, [], [], [], [], [], []⟩ : St)).a, [2, 0, 1, 5, 1, 1048576, 0, 0, 7], (⟨{ pz with b := 1, ep := 2, h := 1, j := 1, ln := 21, o0 := 3, o2 := 7, v := 1 }, [], [], [], [], [], []⟩ : St), 0, true⟩ := by kernel_rfl
theorem pr13_7 : PR (⟨{ pz with b := 1, ep := 2, j := 1, ln := 20, o0 := 3, o2 := 7 }, [], [], [], [], [], []⟩ : St).p := by constructor <;> decide
set_option maxRecDepth 100000 in
theorem ex13_7 {B : Nat} {w : World} {g gl cap : Nat} {a : Acc} {s : Wk} (M : MemAt B w g c13 a gl cap [2, 0, 1, 5, 1, 1048576, 0, 0, 7]) (h : Lies w s (⟨{ pz with b := 1, ep := 2, j := 1, ln := 20, o0 := 3, o2 := 7 }, [], [], [], [], [], []⟩ : St)) : ∃ a', Calls Tryz.prog 40 #[.pointer (some ⟨g, 0, none⟩), .int .i64 0, wv s] w (WS B g gl cap c13 a' [2, 0, 1, 5, 1, 1048576, 0, 0, 7] (⟨{ pz with b := 1, ep := 2, h := 1, j := 1, ln := 21, o0 := 3, o2 := 7, v := 1 }, [], [], [], [], [], []⟩ : St) true w) := by
  refine ⟨(ofRes (entryLn c13 a [2, 0, 1, 5, 1, 1048576, 0, 0, 7] (⟨{ pz with b := 1, ep := 2, j := 1, ln := 20, o0 := 3, o2 := 7 }, [], [], [], [], [], []⟩ : St).p).fin (⟨{ pz with b := 1, ep := 2, j := 1, ln := 20, o0 := 3, o2 := 7 }, [], [], [], [], [], []⟩ : St)).a, workStep0 M 0 s (⟨{ pz with b := 1, ep := 2, j := 1, ln := 20, o0 := 3, o2 := 7 }, [], [], [], [], [], []⟩ : St) (few13 _ _) h (gv := false) rfl (ln := 20) rfl (capB_cap _ _) (capN_cap) (fun h _ => h) (fun h _ _ _ => h) rg_20 Tryz.call156 (r := ⟨(ofRes (entryLn c13 a [2, 0, 1, 5, 1, 1048576, 0, 0, 7] (⟨{ pz with b := 1, ep := 2, j := 1, ln := 20, o0 := 3, o2 := 7 }, [], [], [], [], [], []⟩ : St).p).fin (⟨{ pz with b := 1, ep := 2, j := 1, ln := 20, o0 := 3, o2 := 7 }, [], [], [], [], [], []⟩ : St)).a, [2, 0, 1, 5, 1, 1048576, 0, 0, 7], (⟨{ pz with b := 1, ep := 2, h := 1, j := 1, ln := 21, o0 := 3, o2 := 7, v := 1 }, [], [], [], [], [], []⟩ : St), 0, true⟩) (Lib.hid ?_) ⟨by show (0 : Int) ≠ 1; decide, by show (0 : Int) ≠ 2; decide⟩⟩
  · intro P B1 w1 s1 sc hP hG M1 A1 hsc
    obtain ⟨a9, rfl, hbx⟩ := hsc
    exact fAlone M1 s1 (⟨{ pz with b := 1, ep := 2, j := 1, ln := 20, o0 := 3, o2 := 7 }, [], [], [], [], [], []⟩ : St) hP A1.lies Tryz.call140 hbx.bk (Lib.hid fun w2 M2 h2 => (entryStepAny M2 c13_wf (by decide) (by unfold WR; decide) s1 (⟨{ pz with b := 1, ep := 2, j := 1, ln := 20, o0 := 3, o2 := 7 }, [], [], [], [], [], []⟩ : St) (few13 _ _) h2 pr13_7).mono fun e w' q => by have q2 := gs_of q; rw [eq13_7] at q2; exact q2) 0
set_option maxRecDepth 100000 in
theorem eq13_8 (a : Acc) : ofRes (entryLn c13 a [2, 0, 1, 5, 1, 1048576, 0, 0, 7] (⟨{ pz with b := 1, ep := 2, h := 1, j := 1, ln := 21, o0 := 3, o2 := 7, v := 1 }, [], [], [], [], [], []⟩ : St).p).fin (⟨{ pz with b := 1, ep := 2, h := 1, j := 1, ln := 21, o0 := 3, o2 := 7, v := 1 }, [], [], [], [], [], []⟩ : St) = ⟨(ofRes (entryLn c13 a [2, 0, 1, 5, 1, 1048576, 0, 0, 7] (⟨{ pz with b := 1, ep := 2, h := 1, j := 1, ln := 21, o0 := 3, o2 := 7, v := 1 }, [], [], [], [], [], []⟩ : St).p).fin (⟨{ pz with b := 1, ep := 2, h := 1, j := 1, ln := 21, o0 := 3, o2 := 7, v := 1 }, [], [], [], [], [], []⟩ : St)).a, [2, 0, 1, 5, 1, 1048576, 0, 0, 7], (⟨{ pz with b := 1, ep := 2, h := 1, j := 1, ln := 22, o0 := 3, o2 := 7, v := 1 }, [], [], [], [], [], []⟩ : St), 0, true⟩ := by kernel_rfl
theorem pr13_8 : PR (⟨{ pz with b := 1, ep := 2, h := 1, j := 1, ln := 21, o0 := 3, o2 := 7, v := 1 }, [], [], [], [], [], []⟩ : St).p := by constructor <;> decide
set_option maxRecDepth 100000 in
theorem ex13_8 {B : Nat} {w : World} {g gl cap : Nat} {a : Acc} {s : Wk} (M : MemAt B w g c13 a gl cap [2, 0, 1, 5, 1, 1048576, 0, 0, 7]) (h : Lies w s (⟨{ pz with b := 1, ep := 2, h := 1, j := 1, ln := 21, o0 := 3, o2 := 7, v := 1 }, [], [], [], [], [], []⟩ : St)) : ∃ a', Calls Tryz.prog 40 #[.pointer (some ⟨g, 0, none⟩), .int .i64 0, wv s] w (WS B g gl cap c13 a' [2, 0, 1, 5, 1, 1048576, 0, 0, 7] (⟨{ pz with b := 1, ep := 2, h := 1, j := 1, ln := 22, o0 := 3, o2 := 7, v := 1 }, [], [], [], [], [], []⟩ : St) true w) := by
  refine ⟨(ofRes (entryLn c13 a [2, 0, 1, 5, 1, 1048576, 0, 0, 7] (⟨{ pz with b := 1, ep := 2, h := 1, j := 1, ln := 21, o0 := 3, o2 := 7, v := 1 }, [], [], [], [], [], []⟩ : St).p).fin (⟨{ pz with b := 1, ep := 2, h := 1, j := 1, ln := 21, o0 := 3, o2 := 7, v := 1 }, [], [], [], [], [], []⟩ : St)).a, workStep0 M 0 s (⟨{ pz with b := 1, ep := 2, h := 1, j := 1, ln := 21, o0 := 3, o2 := 7, v := 1 }, [], [], [], [], [], []⟩ : St) (few13 _ _) h (gv := false) rfl (ln := 21) rfl (capB_cap _ _) (capN_cap) (fun h _ => h) (fun h _ _ _ => h) rg_21 Tryz.call156 (r := ⟨(ofRes (entryLn c13 a [2, 0, 1, 5, 1, 1048576, 0, 0, 7] (⟨{ pz with b := 1, ep := 2, h := 1, j := 1, ln := 21, o0 := 3, o2 := 7, v := 1 }, [], [], [], [], [], []⟩ : St).p).fin (⟨{ pz with b := 1, ep := 2, h := 1, j := 1, ln := 21, o0 := 3, o2 := 7, v := 1 }, [], [], [], [], [], []⟩ : St)).a, [2, 0, 1, 5, 1, 1048576, 0, 0, 7], (⟨{ pz with b := 1, ep := 2, h := 1, j := 1, ln := 22, o0 := 3, o2 := 7, v := 1 }, [], [], [], [], [], []⟩ : St), 0, true⟩) (Lib.hid ?_) ⟨by show (0 : Int) ≠ 1; decide, by show (0 : Int) ≠ 2; decide⟩⟩
  · intro P B1 w1 s1 sc hP hG M1 A1 hsc
    obtain ⟨a9, rfl, hbx⟩ := hsc
    exact fAlone M1 s1 (⟨{ pz with b := 1, ep := 2, h := 1, j := 1, ln := 21, o0 := 3, o2 := 7, v := 1 }, [], [], [], [], [], []⟩ : St) hP A1.lies Tryz.call140 hbx.bk (Lib.hid fun w2 M2 h2 => (entryStepAny M2 c13_wf (by decide) (by unfold WR; decide) s1 (⟨{ pz with b := 1, ep := 2, h := 1, j := 1, ln := 21, o0 := 3, o2 := 7, v := 1 }, [], [], [], [], [], []⟩ : St) (few13 _ _) h2 pr13_8).mono fun e w' q => by have q2 := gs_of q; rw [eq13_8] at q2; exact q2) 0
set_option maxRecDepth 100000 in
theorem eq13_9 (a : Acc) : ofRes (entryLn c13 a [2, 0, 1, 5, 1, 1048576, 0, 0, 7] (⟨{ pz with b := 1, ep := 2, h := 1, j := 1, ln := 22, o0 := 3, o2 := 7, v := 1 }, [], [], [], [], [], []⟩ : St).p).fin (⟨{ pz with b := 1, ep := 2, h := 1, j := 1, ln := 22, o0 := 3, o2 := 7, v := 1 }, [], [], [], [], [], []⟩ : St) = ⟨(ofRes (entryLn c13 a [2, 0, 1, 5, 1, 1048576, 0, 0, 7] (⟨{ pz with b := 1, ep := 2, h := 1, j := 1, ln := 22, o0 := 3, o2 := 7, v := 1 }, [], [], [], [], [], []⟩ : St).p).fin (⟨{ pz with b := 1, ep := 2, h := 1, j := 1, ln := 22, o0 := 3, o2 := 7, v := 1 }, [], [], [], [], [], []⟩ : St)).a, [2, 0, 4294967296, 5, 1, 1048576, 0, 0, 7], (⟨{ pz with b := 1, ep := 2, h := 1, i := 1, j := 1, ln := 40, o0 := 3, o2 := 7, v := 1 }, [], [], [], [], [], []⟩ : St), 0, true⟩ := by kernel_rfl
theorem pr13_9 : PR (⟨{ pz with b := 1, ep := 2, h := 1, j := 1, ln := 22, o0 := 3, o2 := 7, v := 1 }, [], [], [], [], [], []⟩ : St).p := by constructor <;> decide
set_option maxRecDepth 100000 in
theorem ex13_9 {B : Nat} {w : World} {g gl cap : Nat} {a : Acc} {s : Wk} (M : MemAt B w g c13 a gl cap [2, 0, 1, 5, 1, 1048576, 0, 0, 7]) (h : Lies w s (⟨{ pz with b := 1, ep := 2, h := 1, j := 1, ln := 22, o0 := 3, o2 := 7, v := 1 }, [], [], [], [], [], []⟩ : St)) : ∃ a', Calls Tryz.prog 40 #[.pointer (some ⟨g, 0, none⟩), .int .i64 0, wv s] w (WS B g gl cap c13 a' [2, 0, 4294967296, 5, 1, 1048576, 0, 0, 7] (⟨{ pz with b := 1, ep := 2, h := 1, i := 1, j := 1, ln := 40, o0 := 3, o2 := 7, v := 1 }, [], [], [], [], [], []⟩ : St) true w) := by
  refine ⟨(ofRes (entryLn c13 a [2, 0, 1, 5, 1, 1048576, 0, 0, 7] (⟨{ pz with b := 1, ep := 2, h := 1, j := 1, ln := 22, o0 := 3, o2 := 7, v := 1 }, [], [], [], [], [], []⟩ : St).p).fin (⟨{ pz with b := 1, ep := 2, h := 1, j := 1, ln := 22, o0 := 3, o2 := 7, v := 1 }, [], [], [], [], [], []⟩ : St)).a, workStep0 M 0 s (⟨{ pz with b := 1, ep := 2, h := 1, j := 1, ln := 22, o0 := 3, o2 := 7, v := 1 }, [], [], [], [], [], []⟩ : St) (few13 _ _) h (gv := false) rfl (ln := 22) rfl (capB_cap _ _) (capN_cap) (fun h _ => h) (fun h _ _ _ => h) rg_22 Tryz.call156 (r := ⟨(ofRes (entryLn c13 a [2, 0, 1, 5, 1, 1048576, 0, 0, 7] (⟨{ pz with b := 1, ep := 2, h := 1, j := 1, ln := 22, o0 := 3, o2 := 7, v := 1 }, [], [], [], [], [], []⟩ : St).p).fin (⟨{ pz with b := 1, ep := 2, h := 1, j := 1, ln := 22, o0 := 3, o2 := 7, v := 1 }, [], [], [], [], [], []⟩ : St)).a, [2, 0, 4294967296, 5, 1, 1048576, 0, 0, 7], (⟨{ pz with b := 1, ep := 2, h := 1, i := 1, j := 1, ln := 40, o0 := 3, o2 := 7, v := 1 }, [], [], [], [], [], []⟩ : St), 0, true⟩) (Lib.hid ?_) ⟨by show (0 : Int) ≠ 1; decide, by show (0 : Int) ≠ 2; decide⟩⟩
  · intro P B1 w1 s1 sc hP hG M1 A1 hsc
    obtain ⟨a9, rfl, hbx⟩ := hsc
    exact fAlone M1 s1 (⟨{ pz with b := 1, ep := 2, h := 1, j := 1, ln := 22, o0 := 3, o2 := 7, v := 1 }, [], [], [], [], [], []⟩ : St) hP A1.lies Tryz.call140 hbx.bk (Lib.hid fun w2 M2 h2 => (entryStepAny M2 c13_wf (by decide) (by unfold WR; decide) s1 (⟨{ pz with b := 1, ep := 2, h := 1, j := 1, ln := 22, o0 := 3, o2 := 7, v := 1 }, [], [], [], [], [], []⟩ : St) (few13 _ _) h2 pr13_9).mono fun e w' q => by have q2 := gs_of q; rw [eq13_9] at q2; exact q2) 0
set_option maxRecDepth 100000 in
theorem eq13_10 (a : Acc) : ofRes (entryLn c13 a [2, 0, 4294967296, 5, 1, 1048576, 0, 0, 7] (⟨{ pz with b := 1, ep := 2, h := 1, i := 1, j := 1, ln := 40, o0 := 3, o2 := 7, v := 1 }, [], [], [], [], [], []⟩ : St).p).fin (⟨{ pz with b := 1, ep := 2, h := 1, i := 1, j := 1, ln := 40, o0 := 3, o2 := 7, v := 1 }, [], [], [], [], [], []⟩ : St) = ⟨(ofRes (entryLn c13 a [2, 0, 4294967296, 5, 1, 1048576, 0, 0, 7] (⟨{ pz with b := 1, ep := 2, h := 1, i := 1, j := 1, ln := 40, o0 := 3, o2 := 7, v := 1 }, [], [], [], [], [], []⟩ : St).p).fin (⟨{ pz with b := 1, ep := 2, h := 1, i := 1, j := 1, ln := 40, o0 := 3, o2 := 7, v := 1 }, [], [], [], [], [], []⟩ : St)).a, [2, 0, 4294967296, 5, 1, 1048576, 0, 0, 7], (⟨{ pz with b := 1, ep := 2, g := 1, h := 1, i := 1, j := 1, ln := 41, o0 := 3, o2 := 7, v := 1 }, [], [], [], [], [], []⟩ : St), 0, true⟩ := by kernel_rfl
theorem pr13_10 : PR (⟨{ pz with b := 1, ep := 2, h := 1, i := 1, j := 1, ln := 40, o0 := 3, o2 := 7, v := 1 }, [], [], [], [], [], []⟩ : St).p := by constructor <;> decide
set_option maxRecDepth 100000 in
theorem ex13_10 {B : Nat} {w : World} {g gl cap : Nat} {a : Acc} {s : Wk} (M : MemAt B w g c13 a gl cap [2, 0, 4294967296, 5, 1, 1048576, 0, 0, 7]) (h : Lies w s (⟨{ pz with b := 1, ep := 2, h := 1, i := 1, j := 1, ln := 40, o0 := 3, o2 := 7, v := 1 }, [], [], [], [], [], []⟩ : St)) : ∃ a', Calls Tryz.prog 40 #[.pointer (some ⟨g, 0, none⟩), .int .i64 0, wv s] w (WS B g gl cap c13 a' [2, 0, 4294967296, 5, 1, 1048576, 0, 0, 7] (⟨{ pz with b := 1, ep := 2, g := 1, h := 1, i := 1, j := 1, ln := 41, o0 := 3, o2 := 7, v := 1 }, [], [], [], [], [], []⟩ : St) true w) := by
  refine ⟨(ofRes (entryLn c13 a [2, 0, 4294967296, 5, 1, 1048576, 0, 0, 7] (⟨{ pz with b := 1, ep := 2, h := 1, i := 1, j := 1, ln := 40, o0 := 3, o2 := 7, v := 1 }, [], [], [], [], [], []⟩ : St).p).fin (⟨{ pz with b := 1, ep := 2, h := 1, i := 1, j := 1, ln := 40, o0 := 3, o2 := 7, v := 1 }, [], [], [], [], [], []⟩ : St)).a, workStep0 M 0 s (⟨{ pz with b := 1, ep := 2, h := 1, i := 1, j := 1, ln := 40, o0 := 3, o2 := 7, v := 1 }, [], [], [], [], [], []⟩ : St) (few13 _ _) h (gv := false) rfl (ln := 40) rfl (capB_cap _ _) (capN_cap) (fun h _ => h) (fun h _ _ _ => h) rg_40 Tryz.call156 (r := ⟨(ofRes (entryLn c13 a [2, 0, 4294967296, 5, 1, 1048576, 0, 0, 7] (⟨{ pz with b := 1, ep := 2, h := 1, i := 1, j := 1, ln := 40, o0 := 3, o2 := 7, v := 1 }, [], [], [], [], [], []⟩ : St).p).fin (⟨{ pz with b := 1, ep := 2, h := 1, i := 1, j := 1, ln := 40, o0 := 3, o2 := 7, v := 1 }, [], [], [], [], [], []⟩ : St)).a, [2, 0, 4294967296, 5, 1, 1048576, 0, 0, 7], (⟨{ pz with b := 1, ep := 2, g := 1, h := 1, i := 1, j := 1, ln := 41, o0 := 3, o2 := 7, v := 1 }, [], [], [], [], [], []⟩ : St), 0, true⟩) (Lib.hid ?_) ⟨by show (0 : Int) ≠ 1; decide, by show (0 : Int) ≠ 2; decide⟩⟩
  · intro P B1 w1 s1 sc hP hG M1 A1 hsc
    obtain ⟨a9, rfl, hbx⟩ := hsc
    exact fAlone M1 s1 (⟨{ pz with b := 1, ep := 2, h := 1, i := 1, j := 1, ln := 40, o0 := 3, o2 := 7, v := 1 }, [], [], [], [], [], []⟩ : St) hP A1.lies Tryz.call140 hbx.bk (Lib.hid fun w2 M2 h2 => (entryStepAny M2 c13_wf (by decide) (by unfold WR; decide) s1 (⟨{ pz with b := 1, ep := 2, h := 1, i := 1, j := 1, ln := 40, o0 := 3, o2 := 7, v := 1 }, [], [], [], [], [], []⟩ : St) (few13 _ _) h2 pr13_10).mono fun e w' q => by have q2 := gs_of q; rw [eq13_10] at q2; exact q2) 0
set_option maxRecDepth 100000 in
theorem eq13_11 (a : Acc) : ofRes (entryLn c13 a [2, 0, 4294967296, 5, 1, 1048576, 0, 0, 7] (⟨{ pz with b := 1, ep := 2, g := 1, h := 1, i := 1, j := 1, ln := 41, o0 := 3, o2 := 7, v := 1 }, [], [], [], [], [], []⟩ : St).p).fin (⟨{ pz with b := 1, ep := 2, g := 1, h := 1, i := 1, j := 1, ln := 41, o0 := 3, o2 := 7, v := 1 }, [], [], [], [], [], []⟩ : St) = ⟨(ofRes (entryLn c13 a [2, 0, 4294967296, 5, 1, 1048576, 0, 0, 7] (⟨{ pz with b := 1, ep := 2, g := 1, h := 1, i := 1, j := 1, ln := 41, o0 := 3, o2 := 7, v := 1 }, [], [], [], [], [], []⟩ : St).p).fin (⟨{ pz with b := 1, ep := 2, g := 1, h := 1, i := 1, j := 1, ln := 41, o0 := 3, o2 := 7, v := 1 }, [], [], [], [], [], []⟩ : St)).a, [2, 0, 4294967296, 5, 1, 1048593, 0, 0, 7], (⟨{ pz with ep := 2, g := 1, h := 1, j := 1, ln := 0, o0 := 3, o2 := 7, t := 65537, v := 1 }, [], [], [], [], [], []⟩ : St), 1, true⟩ := by kernel_rfl
theorem pr13_11 : PR (⟨{ pz with b := 1, ep := 2, g := 1, h := 1, i := 1, j := 1, ln := 41, o0 := 3, o2 := 7, v := 1 }, [], [], [], [], [], []⟩ : St).p := by constructor <;> decide
set_option maxRecDepth 100000 in
theorem ex13_11 {B : Nat} {w : World} {g gl cap : Nat} {a : Acc} {s : Wk} (M : MemAt B w g c13 a gl cap [2, 0, 4294967296, 5, 1, 1048576, 0, 0, 7]) (h : Lies w s (⟨{ pz with b := 1, ep := 2, g := 1, h := 1, i := 1, j := 1, ln := 41, o0 := 3, o2 := 7, v := 1 }, [], [], [], [], [], []⟩ : St)) : ∃ a', Calls Tryz.prog 40 #[.pointer (some ⟨g, 0, none⟩), .int .i64 0, wv s] w (WS B g gl cap c13 a' [2, 0, 4294967296, 5, 1, 1048593, 0, 0, 7] (⟨{ pz with ep := 2, g := 1, h := 1, j := 1, ln := 90, o0 := 3, o2 := 7, t := 65537, v := 1 }, [], [], [], [], [], []⟩ : St) true w) := by
  refine ⟨(ofRes (entryLn c13 a [2, 0, 4294967296, 5, 1, 1048576, 0, 0, 7] (⟨{ pz with b := 1, ep := 2, g := 1, h := 1, i := 1, j := 1, ln := 41, o0 := 3, o2 := 7, v := 1 }, [], [], [], [], [], []⟩ : St).p).fin (⟨{ pz with b := 1, ep := 2, g := 1, h := 1, i := 1, j := 1, ln := 41, o0 := 3, o2 := 7, v := 1 }, [], [], [], [], [], []⟩ : St)).a, workStep1 M 0 s (⟨{ pz with b := 1, ep := 2, g := 1, h := 1, i := 1, j := 1, ln := 41, o0 := 3, o2 := 7, v := 1 }, [], [], [], [], [], []⟩ : St) (few13 _ _) h (gv := false) rfl (ln := 41) rfl (capB_cap _ _) (capN_cap) (fun h _ => h) (fun h _ _ _ => h) rg_41 Tryz.call156 (r := ⟨(ofRes (entryLn c13 a [2, 0, 4294967296, 5, 1, 1048576, 0, 0, 7] (⟨{ pz with b := 1, ep := 2, g := 1, h := 1, i := 1, j := 1, ln := 41, o0 := 3, o2 := 7, v := 1 }, [], [], [], [], [], []⟩ : St).p).fin (⟨{ pz with b := 1, ep := 2, g := 1, h := 1, i := 1, j := 1, ln := 41, o0 := 3, o2 := 7, v := 1 }, [], [], [], [], [], []⟩ : St)).a, [2, 0, 4294967296, 5, 1, 1048593, 0, 0, 7], (⟨{ pz with ep := 2, g := 1, h := 1, j := 1, ln := 0, o0 := 3, o2 := 7, t := 65537, v := 1 }, [], [], [], [], [], []⟩ : St), 1, true⟩) (Lib.hid ?_) rfl Tryz.call130 (Lib.hid ?_)⟩
  · intro P B1 w1 s1 sc hP hG M1 A1 hsc
    obtain ⟨a9, rfl, hbx⟩ := hsc
    exact fAlone M1 s1 (⟨{ pz with b := 1, ep := 2, g := 1, h := 1, i := 1, j := 1, ln := 41, o0 := 3, o2 := 7, v := 1 }, [], [], [], [], [], []⟩ : St) hP A1.lies Tryz.call140 hbx.bk (Lib.hid fun w2 M2 h2 => (entryStepAny M2 c13_wf (by decide) (by unfold WR; decide) s1 (⟨{ pz with b := 1, ep := 2, g := 1, h := 1, i := 1, j := 1, ln := 41, o0 := 3, o2 := 7, v := 1 }, [], [], [], [], [], []⟩ : St) (few13 _ _) h2 pr13_11).mono fun e w' q => by have q2 := gs_of q; rw [eq13_11] at q2; exact q2) 0
  · intro P B1 w1 s1 gc hP A1 hgc
    obtain rfl : gc = #[] := hgc
    exact fThen c13 hP A1 (few13 _ _)
set_option maxRecDepth 100000 in
theorem eq13_12 (a : Acc) : ofRes (epochLn c13 a [2, 0, 4294967296, 5, 1, 1048593, 0, 0, 7] (⟨{ pz with ep := 2, g := 1, h := 1, j := 1, ln := 90, o0 := 3, o2 := 7, t := 65537, v := 1 }, [], [], [], [], [], []⟩ : St).p 0).fin (⟨{ pz with ep := 2, g := 1, h := 1, j := 1, ln := 90, o0 := 3, o2 := 7, t := 65537, v := 1 }, [], [], [], [], [], []⟩ : St) = ⟨(ofRes (epochLn c13 a [2, 0, 4294967296, 5, 1, 1048593, 0, 0, 7] (⟨{ pz with ep := 2, g := 1, h := 1, j := 1, ln := 90, o0 := 3, o2 := 7, t := 65537, v := 1 }, [], [], [], [], [], []⟩ : St).p 0).fin (⟨{ pz with ep := 2, g := 1, h := 1, j := 1, ln := 90, o0 := 3, o2 := 7, t := 65537, v := 1 }, [], [], [], [], [], []⟩ : St)).a, [2, 0, 4294967296, 4, 1, 1048593, 0, 0, 7], (⟨{ pz with ep := 2, g := 1, h := 1, j := 1, ln := 0, o0 := 3, o2 := 7, t := 65537, v := 1 }, [], [], [], [], [], []⟩ : St), 1, true⟩ := by kernel_rfl
theorem pr13_12 : PR (⟨{ pz with ep := 2, g := 1, h := 1, j := 1, ln := 90, o0 := 3, o2 := 7, t := 65537, v := 1 }, [], [], [], [], [], []⟩ : St).p := by constructor <;> decide
set_option maxRecDepth 100000 in
theorem ex13_12 {B : Nat} {w : World} {g gl cap : Nat} {a : Acc} {s : Wk} (M : MemAt B w g c13 a gl cap [2, 0, 4294967296, 5, 1, 1048593, 0, 0, 7]) (h : Lies w s (⟨{ pz with ep := 2, g := 1, h := 1, j := 1, ln := 90, o0 := 3, o2 := 7, t := 65537, v := 1 }, [], [], [], [], [], []⟩ : St)) : ∃ a', Calls Tryz.prog 40 #[.pointer (some ⟨g, 0, none⟩), .int .i64 0, wv s] w (WS B g gl cap c13 a' [2, 0, 4294967296, 4, 1, 1048593, 0, 0, 7] (⟨{ pz with ep := 2, g := 1, h := 1, j := 1, ln := 0, o0 := 3, o2 := 7, t := 65537, v := 1 }, [], [], [], [], [], []⟩ : St) true w) := by
  refine ⟨(ofRes (epochLn c13 a [2, 0, 4294967296, 5, 1, 1048593, 0, 0, 7] (⟨{ pz with ep := 2, g := 1, h := 1, j := 1, ln := 90, o0 := 3, o2 := 7, t := 65537, v := 1 }, [], [], [], [], [], []⟩ : St).p 0).fin (⟨{ pz with ep := 2, g := 1, h := 1, j := 1, ln := 90, o0 := 3, o2 := 7, t := 65537, v := 1 }, [], [], [], [], [], []⟩ : St)).a, workStep1 M 0 s (⟨{ pz with ep := 2, g := 1, h := 1, j := 1, ln := 90, o0 := 3, o2 := 7, t := 65537, v := 1 }, [], [], [], [], [], []⟩ : St) (few13 _ _) h (gv := false) rfl (ln := 90) rfl (capN_cap) (capN_cap) (fun h _ => h) (fun h _ _ _ => h) rg_90 Tryz.call125 (r := ⟨(ofRes (epochLn c13 a [2, 0, 4294967296, 5, 1, 1048593, 0, 0, 7] (⟨{ pz with ep := 2, g := 1, h := 1, j := 1, ln := 90, o0 := 3, o2 := 7, t := 65537, v := 1 }, [], [], [], [], [], []⟩ : St).p 0).fin (⟨{ pz with ep := 2, g := 1, h := 1, j := 1, ln := 90, o0 := 3, o2 := 7, t := 65537, v := 1 }, [], [], [], [], [], []⟩ : St)).a, [2, 0, 4294967296, 4, 1, 1048593, 0, 0, 7], (⟨{ pz with ep := 2, g := 1, h := 1, j := 1, ln := 0, o0 := 3, o2 := 7, t := 65537, v := 1 }, [], [], [], [], [], []⟩ : St), 1, true⟩) (Lib.hid ?_) rfl Tryz.call127 (Lib.hid ?_)⟩
  · intro P B1 w1 s1 sc hP hG M1 A1 hsc
    obtain rfl : sc = #[] := hsc
    refine (epochStepAny M1 c13_wf (by decide) (by unfold WR; decide) s1 (⟨{ pz with ep := 2, g := 1, h := 1, j := 1, ln := 90, o0 := 3, o2 := 7, t := 65537, v := 1 }, [], [], [], [], [], []⟩ : St) (few13 _ _) A1.lies pr13_12 0).mono fun e w' q => ?_
    have q2 := gs_of q
    rw [eq13_12] at q2
    exact gsp_of hP q2
  · intro P B1 w1 s1 gc hP A1 hgc
    obtain rfl : gc = #[] := hgc
    exact fOutside c13 hP A1
end Go.Proofs.YtgpdkagmacpghaaGreat.Me
