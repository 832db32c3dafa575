/- The reference of layer 5: Is, Room; the program's Room (made by genref05.py). -/
import Derived.Test.YtkplkhcboobfaaaBagPut
import Derived.Test.YtkplkhcboobfaaaBagRipe0
import Derived.Test.YtkplkhcboobfaaaEnv
import Derived.Test.YtkplkhcboobfaaaQuietRow
import Derived.Test.YtkplkhcboobfaaaHeldRow
import Derived.Test.YtkplkhcboobfaaaGrowTail
namespace Go.Proofs.Ytkplkhcboobfaaa.Wo
open Go Go.RowKit Go.Proofs.Ytkplkhcboobfaaa.Gro Go.Proofs.Ytkplkhcboobfaaa.Own Go.Proofs.Ytkplkhcboobfaaa.Wd Go.Proofs.Ytkplkhcboobfaaa.Ap Go.Proofs.Ytkplkhcboobfaaa.Pl
set_option linter.unusedVariables false
set_option linter.unusedSimpArgs false
theorem refIs_go (t e : Int) (w : World) (hW : 1 < e → IntKind.u64.wrap (e - 2) = e - 2) :
    Calls Try.prog 70 #[.int .u64 t, .int .u64 e] w fun r w' => r = .returned (.bool (ripeB t e)) ∧ w = w' := by
  by_cases h2 : 1 < e
  · have hw := hW h2
    have hd : decide (1 < e) = true := by simp [h2]
    have hd2 : decide (2 ≤ e) = true := by simp; omega
    clear hW
    by_cases h3 : t ≤ e - 2
    · have h3' : decide (t ≤ e - 2) = true := by simp [h3]
      have H : RowKit.Hid (ripeB t e = true) := Lib.hid (by unfold ripeB; rw [hd2, h3']; rfl)
      rw [H.out]
      clear h3 hd2
      go_enter Try.func70, Try.ntmps70
      go_wp2
      go_ret
      exact ⟨rfl, rfl⟩
    · have h3' : decide (t ≤ e - 2) = false := by simp [h3]
      have H : RowKit.Hid (ripeB t e = false) := Lib.hid (by unfold ripeB; rw [hd2, h3']; rfl)
      rw [H.out]
      clear h3 hd2
      go_enter Try.func70, Try.ntmps70
      go_wp2
      go_ret
      exact ⟨rfl, rfl⟩
  · have hd : decide (1 < e) = false := by simp [h2]
    have hd2 : decide (2 ≤ e) = false := by simp; omega
    have H : RowKit.Hid (ripeB t e = false) := Lib.hid (by unfold ripeB; rw [hd2]; rfl)
    rw [H.out]
    clear hW h2 hd2
    go_enter Try.func70, Try.ntmps70
    go_wp2
    go_ret
    exact ⟨rfl, rfl⟩
theorem refIs {t e : Int} {b : Bool} (hr : ripeB t e = b) (w : World) (h1 : e < 18446744073709551616) :
    Calls Try.prog 70 #[.int .u64 t, .int .u64 e] w fun r w' => r = .returned (.bool b) ∧ w = w' := by
  subst hr
  exact refIs_go t e w (fun h => u64_in (by omega) (by omega))
/-- The lists of the result are new, or the argument's. -/
def Kin (w : World) (s : Wk) (x : St) (s' : Wk) (x' : St) : Prop := ∀ g, g < w.heap.size → NoB g s x → NoB g s' x'
theorem noB_all {w : World} {s : Wk} {x : St} {g : Nat} (h : Lies w s x) (hg : w.heap.size ≤ g) : NoB g s x := noB_new h hg
set_option maxRecDepth 100000 in
set_option maxHeartbeats 4000000 in
theorem refRoom0_same (c : Cfg) (s : Wk) (x : St) (hx : Few 900 x) (w : World) (h : Lies w s x) (tag : Int) (hW : IntKind.u64.wrap (s.p.ep + 1) = tag) (h0 : 0 ≤ tag) (hM : tag % 3 = 0) (hT : s.p.t0 = tag) :
    Calls Try.prog 37 #[cv c, wv s] w fun e w' => ∃ s', e = .returned (.tuple #[wv s', .bool (decide ((x.l0.length : Int) < c.bg))]) ∧ Lies w' s' x ∧ Kin w s x s' x ∧ Below w.heap.size w w' := by
  have e9 : ∀ s : Wk, (wc s)[9]? = some (.int .u64 s.p.ep) := fun _ => rfl
  have eT : ∀ s : Wk, (wc s)[11]? = some (.int .u64 s.p.t0) := fun _ => rfl
  have eL : ∀ s : Wk, (wc s)[12]? = some (.slice s.l0.ad s.l0.len s.l0.cap) := fun _ => rfl
  have hw0 : Below w.heap.size w (w.alloc (.cells (ccW c) 24)) := (Below.refl _ _).alloc (Nat.le_refl _) _
  have T0 := Two.startAt hw0 s
  have C0 := (((Bk.new w (ccW c) 24).alloc (.cells (wc s) 63)).alloc (.cells (wc wz) 63))
  rw [show (w.alloc (.cells (ccW c) 24)).heap.size = w.heap.size + 1 by simp] at T0
  have hM2 : tag.tmod 3 = 0 := by rw [Int.tmod_eq_emod_of_nonneg h0]; exact hM
  have hlen := reads_len h.l0
  have b0 := T0.lt
  have bc := C0.lt
  have x0 := T0.X.cells
  rw [← hlen]
  have hb : (s.p.t0 != tag) = false := by simp [hT]
  have HT := Lib.hid hT
  clear hT hlen
  go_enter Try.func37, Try.ntmps37
  go_wp2_with fail
  refine wp_region_grown (by kernel_rfl) (by kernel_rfl) ?_
  have hg := @gcell
  repeat (go_big_quiet_step (fail))
  refine wpQuiet_nil ?_
  rintro w1 ⟨⟨_, hbw1⟩, rfl⟩
  clear hg
  have T1 := T0.keep hbw1
  have C1 := C0.keep hbw1
  have x1 := T1.X.cells
  have c1 := C1.cells
  have b1 := T1.lt
  have bc1 := C1.lt
  clear T0 C0 x0 b0 bc hbw1
  go_wp2
  clear x1 c1
  have eL := eL s
  have hS0 : Bk w1.drew (w.heap.size + 1) (wc s) 63 ∧ Bk w1.drew (w.heap.size) (ccW c) 24 := ⟨T1.X.keep (Below.drew (Below.refl _ _)), C1.keep (Below.drew (Below.refl _ _))⟩
  have TD := T1.keep (w' := w1.drew) (Below.drew (Below.refl _ _))
  refine wp_region_held_drew (S := fun w' => Bk w' (w.heap.size + 1) (wc s) 63 ∧ Bk w' (w.heap.size) (ccW c) 24) (by kernel_rfl) hS0 (fun hHeld => ?_)
  clear hS0
  refine wpAnyH_take (i := 0) (oi := _) (v := .agg (wc s)) rfl (by kernel_rfl) (by kernel_rfl) (by kernel_rfl) (fun _ _ _ h => h) (yieldsIf_row rfl 63 _ rfl (w.heap.size + 1) rfl (wc s) 63 _ (fun w' hw' => hw'.1) Try.underlying63 rfl (by kernel_rfl)) hHeld ?_
  try simp only [Act.put, List.getElem_toArray, List.getElem_cons_succ, List.getElem_cons_zero, List.setIfInBounds_toArray, List.set_cons_succ, List.set_cons_zero]
  refine wpAnyH_take (i := 1) (oi := _) (v := .int .u64 0) rfl (by kernel_rfl) (by kernel_rfl) (by kernel_rfl) (fun _ _ _ h => h) (Or.inl ⟨by rfl, fun w' hSw => by have xx := hSw.1.cells; have cc := hSw.2.cells; go_simp⟩) hHeld ?_
  try simp only [Act.put, List.getElem_toArray, List.getElem_cons_succ, List.getElem_cons_zero, List.setIfInBounds_toArray, List.set_cons_succ, List.set_cons_zero]
  refine wpAnyH_take (i := 2) (oi := _) (v := .pointer (some ⟨w.heap.size + 1, 11, none⟩)) rfl (by kernel_rfl) (by kernel_rfl) (by kernel_rfl) (fun _ _ _ h => h) (Or.inl ⟨by rfl, fun w' hSw => by have xx := hSw.1.cells; have cc := hSw.2.cells; go_simp⟩) hHeld ?_
  try simp only [Act.put, List.getElem_toArray, List.getElem_cons_succ, List.getElem_cons_zero, List.setIfInBounds_toArray, List.set_cons_succ, List.set_cons_zero]
  refine wpAnyH_take (i := 3) (oi := _) (v := .pointer (some ⟨w.heap.size + 1, 11, none⟩)) rfl (by kernel_rfl) (by kernel_rfl) (by kernel_rfl) (fun _ _ _ h => h) (Or.inl ⟨by rfl, fun w' hSw => by have xx := hSw.1.cells; have cc := hSw.2.cells; go_simp⟩) hHeld ?_
  try simp only [Act.put, List.getElem_toArray, List.getElem_cons_succ, List.getElem_cons_zero, List.setIfInBounds_toArray, List.set_cons_succ, List.set_cons_zero]
  refine wpAnyH_take (i := 4) (oi := _) (v := .pointer (some ⟨w.heap.size + 1, 12, none⟩)) rfl (by kernel_rfl) (by kernel_rfl) (by kernel_rfl) (fun _ _ _ h => h) (Or.inl ⟨by rfl, fun w' hSw => by have xx := hSw.1.cells; have cc := hSw.2.cells; go_simp⟩) hHeld ?_
  try simp only [Act.put, List.getElem_toArray, List.getElem_cons_succ, List.getElem_cons_zero, List.setIfInBounds_toArray, List.set_cons_succ, List.set_cons_zero]
  refine wpAnyH_take (i := 5) (oi := _) (v := .slice s.l0.ad s.l0.len s.l0.cap) rfl (by kernel_rfl) (by kernel_rfl) (by kernel_rfl) (fun _ _ _ h => h) (Or.inl ⟨by rfl, fun w' hSw => by have xx := hSw.1.cells; have cc := hSw.2.cells; go_simp⟩) hHeld ?_
  try simp only [Act.put, List.getElem_toArray, List.getElem_cons_succ, List.getElem_cons_zero, List.setIfInBounds_toArray, List.set_cons_succ, List.set_cons_zero]
  refine wpAnyH_take (i := 6) (oi := _) (v := .int .i64 (s.l0.len : Int)) rfl (by kernel_rfl) (by kernel_rfl) (by kernel_rfl) (fun _ _ _ h => h) (Or.inl ⟨by rfl, fun w' hSw => by have xx := hSw.1.cells; have cc := hSw.2.cells; go_simp⟩) hHeld ?_
  try simp only [Act.put, List.getElem_toArray, List.getElem_cons_succ, List.getElem_cons_zero, List.setIfInBounds_toArray, List.set_cons_succ, List.set_cons_zero]
  refine wpAnyH_take (i := 7) (oi := _) (v := .pointer (some ⟨w.heap.size, 6, none⟩)) rfl (by kernel_rfl) (by kernel_rfl) (by kernel_rfl) (fun _ _ _ h => h) (Or.inl ⟨by rfl, fun w' hSw => by have xx := hSw.1.cells; have cc := hSw.2.cells; go_simp⟩) hHeld ?_
  try simp only [Act.put, List.getElem_toArray, List.getElem_cons_succ, List.getElem_cons_zero, List.setIfInBounds_toArray, List.set_cons_succ, List.set_cons_zero]
  refine wpAnyH_take (i := 8) (oi := _) (v := .int .i64 c.bg) rfl (by kernel_rfl) (by kernel_rfl) (by kernel_rfl) (fun _ _ _ h => h) (Or.inl ⟨by rfl, fun w' hSw => by have xx := hSw.1.cells; have cc := hSw.2.cells; go_simp⟩) hHeld ?_
  try simp only [Act.put, List.getElem_toArray, List.getElem_cons_succ, List.getElem_cons_zero, List.setIfInBounds_toArray, List.set_cons_succ, List.set_cons_zero]
  refine wpAnyH_take (i := 9) (oi := _) (v := .bool (decide ((s.l0.len : Int) < c.bg))) rfl (by kernel_rfl) (by kernel_rfl) (by kernel_rfl) (fun _ _ _ h => h) (Or.inl ⟨by rfl, fun w' hSw => by have xx := hSw.1.cells; have cc := hSw.2.cells; go_simp⟩) hHeld ?_
  try simp only [Act.put, List.getElem_toArray, List.getElem_cons_succ, List.getElem_cons_zero, List.setIfInBounds_toArray, List.set_cons_succ, List.set_cons_zero]
  refine wpAnyH_ready (rs := [10]) (by kernel_rfl) (by simp) ?_
  refine AllReadyH.cons (o := _) rfl (fun K hK => ?_) AllReadyH.nil
  refine step_row rfl 63 _ _ rfl (w.heap.size + 1 + 1) (wc s) rfl rfl _ _ (by exact TD.Z) (by kernel_rfl) (by kernel_rfl) (by kernel_rfl) ?_
  refine hK.out _ _ ⟨(TD.rowZ s).X, hHeld.2.setRow_far (by omega) _⟩ (fun hHeld2 => ?_)
  clear hK K
  try simp only [Act.put, List.getElem_toArray, List.getElem_cons_succ, List.getElem_cons_zero, List.setIfInBounds_toArray, List.set_cons_succ, List.set_cons_zero]
  refine wpAnyH_take (i := 11) (oi := _) (v := .bool (decide ((s.l0.len : Int) < c.bg))) rfl (by kernel_rfl) (by kernel_rfl) (by kernel_rfl) (fun _ _ _ h => h) (Or.inl ⟨by rfl, fun w' hSw => by go_simp⟩) hHeld2 ?_
  try simp only [Act.put, List.getElem_toArray, List.getElem_cons_succ, List.getElem_cons_zero, List.setIfInBounds_toArray, List.set_cons_succ, List.set_cons_zero]
  refine wpAnyH_done (by kernel_rfl) ?_ _
  have T3 := TD.rowZ s
  go_wp2
  refine bodyPost_ret (v := .tuple #[wv s, .bool (decide ((s.l0.len : Int) < c.bg))]) ?_ rfl ⟨_, rfl, h.keep T3.below, fun g _ hn => hn, T3.below⟩
  · exact Rw.results_cell_slot (p := 4) (q := 5) (ty := 63) Try.results37 _ _ (w.heap.size + 1 + 1) 63 _ (0, 0) _ rfl T3.Z Try.underlying63 rfl (by kernel_rfl)
set_option maxRecDepth 100000 in
set_option maxHeartbeats 4000000 in
theorem refRoom0_other (c : Cfg) (s : Wk) (x : St) (hx : Few 900 x) (w : World) (h : Lies w s x) (tag : Int) (hW : IntKind.u64.wrap (s.p.ep + 1) = tag) (h0 : 0 ≤ tag) (hM : tag % 3 = 0) (hT : ¬ s.p.t0 = tag) :
    Calls Try.prog 37 #[cv c, wv s] w fun e w' => ∃ s', e = .returned (.tuple #[wv s', .bool (decide ((0 : Int) < c.bg))]) ∧ Lies w' s' { x with p := { x.p with t0 := tag }, l0 := [], hl := x.hl ++ x.l0 } ∧ Kin w s x s' { x with p := { x.p with t0 := tag }, l0 := [], hl := x.hl ++ x.l0 } ∧ Below w.heap.size w w' := by
  have e9 : ∀ s : Wk, (wc s)[9]? = some (.int .u64 s.p.ep) := fun _ => rfl
  have eT : ∀ s : Wk, (wc s)[11]? = some (.int .u64 s.p.t0) := fun _ => rfl
  have eL : ∀ s : Wk, (wc s)[12]? = some (.slice s.l0.ad s.l0.len s.l0.cap) := fun _ => rfl
  have hw0 : Below w.heap.size w (w.alloc (.cells (ccW c) 24)) := (Below.refl _ _).alloc (Nat.le_refl _) _
  have T0 := Two.startAt hw0 s
  have C0 := (((Bk.new w (ccW c) 24).alloc (.cells (wc s) 63)).alloc (.cells (wc wz) 63))
  rw [show (w.alloc (.cells (ccW c) 24)).heap.size = w.heap.size + 1 by simp] at T0
  have hM2 : tag.tmod 3 = 0 := by rw [Int.tmod_eq_emod_of_nonneg h0]; exact hM
  have hlen := reads_len h.l0
  have b0 := T0.lt
  have bc := C0.lt
  have x0 := T0.X.cells
  have hb : (s.p.t0 != tag) = true := by simp [hT]
  have HT := Lib.hid hT
  clear hT hlen
  go_enter Try.func37, Try.ntmps37
  go_wp2_with fail
  refine wp_region_grown (by kernel_rfl) (by kernel_rfl) ?_
  have hg := @gcell
  repeat (go_big_quiet_step (fail))
  refine wpQuiet_nil ?_
  rintro w1 ⟨⟨_, hbw1⟩, rfl⟩
  clear hg
  have T1 := T0.keep hbw1
  have C1 := C0.keep hbw1
  have x1 := T1.X.cells
  have c1 := C1.cells
  have b1 := T1.lt
  have bc1 := C1.lt
  clear T0 C0 x0 b0 bc hbw1
  go_wp2
  refine wp_region_grown_tail 6 (by kernel_rfl) (by kernel_rfl) ?_
  simp only [List.take_succ_cons, List.take_zero, List.drop_succ_cons, List.drop_zero]
  have hg := @gcell
  (refine wpQuiet_load_row rfl 63 _ rfl (w.heap.size + 1) rfl (wc s) 63 _ (by rintro _ ⟨n, rfl⟩; exact Bk.keep T1.X n.2) Try.underlying63 rfl (by kernel_rfl) ?_; simp only [Act.put, List.setIfInBounds_toArray, List.set_cons_succ, List.set_cons_zero])
  repeat (go_big_quiet_step (fail))
  refine wpQuiet_nil ?_
  rintro w2 ⟨⟨_, hbw2⟩, rfl⟩
  clear hg
  have T2 := T1.keep hbw2
  have C2 := C1.keep hbw2
  have b2 := T2.lt
  have bc2 := C2.lt
  clear x1 c1
  go_wp2_with fail
  refine (refHold s x hx s.l0 x.l0 (by have := hx.l0; omega) _ (h.keep T2.below) ((h.keep T2.below).l0)).mono ?_
  rintro e w3 ⟨s', rfl, L3, RD3, ES, hb3⟩
  obtain ⟨hq, hq'⟩ : ∃ h, h = s'.hl := ⟨_, rfl⟩
  rw [← hq'] at ES RD3
  subst ES
  have T3 := T2.keep hb3
  have C3 := C2.keep hb3
  have T4 := T3.rowX { s with hl := hq }
  have C4 := C3.setRow_far (g' := w.heap.size + 1) (by omega) (wc { s with hl := hq })
  have hs3 := hb3.size
  have N1 : NoB (w.heap.size + 1) { s with hl := hq } (holdS x x.l0) := noB_hold h (by omega) rfl RD3 (by omega)
  have N2 : NoB (w.heap.size + 1 + 1) { s with hl := hq } (holdS x x.l0) := noB_hold h (by omega) rfl RD3 (by omega)
  have NK : ∀ g, g < w.heap.size → NoB g s x → NoB g { s with hl := hq } (holdS x x.l0) := fun g hg hn => ⟨hn.rk, hn.l0, hn.l1, hn.l2, RD3.2.imp id (fun q a ha => by have := q a ha; have := T2.below.size; omega), hn.rd⟩
  have L4 := L3.row N1 (wc { s with hl := hq })
  have T5 := T4.rowX { s with p := { s.p with t0 := tag }, l0 := nilS, hl := hq }
  have L5 := L4.row N1 (wc { s with p := { s.p with t0 := tag }, l0 := nilS, hl := hq })
  have C5 := C4.setRow_far (g' := w.heap.size + 1) (by omega) (wc { s with p := { s.p with t0 := tag }, l0 := nilS, hl := hq })
  have x4 := T4.X.cells
  have x5 := T5.X.cells
  have c5 := C5.cells
  have b5 := T5.lt
  have bc5 := C5.lt
  have eE := e9 { s with hl := hq }
  have eL5 : (wc { s with p := { s.p with t0 := tag }, l0 := nilS, hl := hq })[12]? = some (.slice none 0 0) := rfl
  clear T2 C2 C4 hb3 L3 RD3 e9 eL eT L4
  go_wp2_with (first | (refine wpList_store_row rfl 63 _ _ rfl (w.heap.size + 1) (wc { s with hl := hq }) rfl rfl _ _ (by exact T3.X) (by kernel_rfl) (by kernel_rfl) (by kernel_rfl) ?_) | (refine Sub.wpList_store_sub rfl 60 _ _ rfl (w.heap.size + 1) 11 #[.int .u64 tag, .slice none 0 0] rfl rfl 63 (wc { s with hl := hq }) (wc { s with p := { s.p with t0 := tag }, l0 := nilS, hl := hq }) (by exact T4.X) (by kernel_rfl) (Nat.le_of_ble_eq_true (by kernel_rfl)) (by kernel_rfl) (by kernel_rfl) ?_))
  obtain ⟨w5, hw5⟩ : ∃ u, u = (w3.setRow (w.heap.size + 1) (wc { s with hl := hq })).setRow (w.heap.size + 1) (wc { s with p := { s.p with t0 := tag }, l0 := nilS, hl := hq }) := ⟨_, rfl⟩
  rw [← hw5] at T5 L5 C5 x5 c5 b5 bc5 ⊢
  clear hw5 T3 T4 C3 x4 b1 bc1 b2 bc2 hs3 eE
  clear x5 c5
  have hS0 : Bk w5.drew (w.heap.size + 1) (wc { s with p := { s.p with t0 := tag }, l0 := nilS, hl := hq }) 63 ∧ Bk w5.drew (w.heap.size) (ccW c) 24 := ⟨T5.X.keep (Below.drew (Below.refl _ _)), C5.keep (Below.drew (Below.refl _ _))⟩
  have TD := T5.keep (w' := w5.drew) (Below.drew (Below.refl _ _))
  refine wp_region_held_drew (S := fun w' => Bk w' (w.heap.size + 1) (wc { s with p := { s.p with t0 := tag }, l0 := nilS, hl := hq }) 63 ∧ Bk w' (w.heap.size) (ccW c) 24) (by kernel_rfl) hS0 (fun hHeld => ?_)
  clear hS0
  refine wpAnyH_take (i := 0) (oi := _) (v := .agg (wc { s with p := { s.p with t0 := tag }, l0 := nilS, hl := hq })) rfl (by kernel_rfl) (by kernel_rfl) (by kernel_rfl) (fun _ _ _ h => h) (yieldsIf_row rfl 63 _ rfl (w.heap.size + 1) rfl (wc { s with p := { s.p with t0 := tag }, l0 := nilS, hl := hq }) 63 _ (fun w' hw' => hw'.1) Try.underlying63 rfl (by kernel_rfl)) hHeld ?_
  try simp only [Act.put, List.getElem_toArray, List.getElem_cons_succ, List.getElem_cons_zero, List.setIfInBounds_toArray, List.set_cons_succ, List.set_cons_zero]
  refine wpAnyH_take (i := 1) (oi := _) (v := .int .u64 0) rfl (by kernel_rfl) (by kernel_rfl) (by kernel_rfl) (fun _ _ _ h => h) (Or.inl ⟨by rfl, fun w' hSw => by have xx := hSw.1.cells; have cc := hSw.2.cells; go_simp⟩) hHeld ?_
  try simp only [Act.put, List.getElem_toArray, List.getElem_cons_succ, List.getElem_cons_zero, List.setIfInBounds_toArray, List.set_cons_succ, List.set_cons_zero]
  refine wpAnyH_take (i := 2) (oi := _) (v := .pointer (some ⟨w.heap.size + 1, 11, none⟩)) rfl (by kernel_rfl) (by kernel_rfl) (by kernel_rfl) (fun _ _ _ h => h) (Or.inl ⟨by rfl, fun w' hSw => by have xx := hSw.1.cells; have cc := hSw.2.cells; go_simp⟩) hHeld ?_
  try simp only [Act.put, List.getElem_toArray, List.getElem_cons_succ, List.getElem_cons_zero, List.setIfInBounds_toArray, List.set_cons_succ, List.set_cons_zero]
  refine wpAnyH_take (i := 3) (oi := _) (v := .pointer (some ⟨w.heap.size + 1, 11, none⟩)) rfl (by kernel_rfl) (by kernel_rfl) (by kernel_rfl) (fun _ _ _ h => h) (Or.inl ⟨by rfl, fun w' hSw => by have xx := hSw.1.cells; have cc := hSw.2.cells; go_simp⟩) hHeld ?_
  try simp only [Act.put, List.getElem_toArray, List.getElem_cons_succ, List.getElem_cons_zero, List.setIfInBounds_toArray, List.set_cons_succ, List.set_cons_zero]
  refine wpAnyH_take (i := 4) (oi := _) (v := .pointer (some ⟨w.heap.size + 1, 12, none⟩)) rfl (by kernel_rfl) (by kernel_rfl) (by kernel_rfl) (fun _ _ _ h => h) (Or.inl ⟨by rfl, fun w' hSw => by have xx := hSw.1.cells; have cc := hSw.2.cells; go_simp⟩) hHeld ?_
  try simp only [Act.put, List.getElem_toArray, List.getElem_cons_succ, List.getElem_cons_zero, List.setIfInBounds_toArray, List.set_cons_succ, List.set_cons_zero]
  refine wpAnyH_take (i := 5) (oi := _) (v := .slice none 0 0) rfl (by kernel_rfl) (by kernel_rfl) (by kernel_rfl) (fun _ _ _ h => h) (Or.inl ⟨by rfl, fun w' hSw => by have xx := hSw.1.cells; have cc := hSw.2.cells; go_simp⟩) hHeld ?_
  try simp only [Act.put, List.getElem_toArray, List.getElem_cons_succ, List.getElem_cons_zero, List.setIfInBounds_toArray, List.set_cons_succ, List.set_cons_zero]
  refine wpAnyH_take (i := 6) (oi := _) (v := .int .i64 0) rfl (by kernel_rfl) (by kernel_rfl) (by kernel_rfl) (fun _ _ _ h => h) (Or.inl ⟨by rfl, fun w' hSw => by have xx := hSw.1.cells; have cc := hSw.2.cells; go_simp⟩) hHeld ?_
  try simp only [Act.put, List.getElem_toArray, List.getElem_cons_succ, List.getElem_cons_zero, List.setIfInBounds_toArray, List.set_cons_succ, List.set_cons_zero]
  refine wpAnyH_take (i := 7) (oi := _) (v := .pointer (some ⟨w.heap.size, 6, none⟩)) rfl (by kernel_rfl) (by kernel_rfl) (by kernel_rfl) (fun _ _ _ h => h) (Or.inl ⟨by rfl, fun w' hSw => by have xx := hSw.1.cells; have cc := hSw.2.cells; go_simp⟩) hHeld ?_
  try simp only [Act.put, List.getElem_toArray, List.getElem_cons_succ, List.getElem_cons_zero, List.setIfInBounds_toArray, List.set_cons_succ, List.set_cons_zero]
  refine wpAnyH_take (i := 8) (oi := _) (v := .int .i64 c.bg) rfl (by kernel_rfl) (by kernel_rfl) (by kernel_rfl) (fun _ _ _ h => h) (Or.inl ⟨by rfl, fun w' hSw => by have xx := hSw.1.cells; have cc := hSw.2.cells; go_simp⟩) hHeld ?_
  try simp only [Act.put, List.getElem_toArray, List.getElem_cons_succ, List.getElem_cons_zero, List.setIfInBounds_toArray, List.set_cons_succ, List.set_cons_zero]
  refine wpAnyH_take (i := 9) (oi := _) (v := .bool (decide (0 < c.bg))) rfl (by kernel_rfl) (by kernel_rfl) (by kernel_rfl) (fun _ _ _ h => h) (Or.inl ⟨by rfl, fun w' hSw => by have xx := hSw.1.cells; have cc := hSw.2.cells; go_simp⟩) hHeld ?_
  try simp only [Act.put, List.getElem_toArray, List.getElem_cons_succ, List.getElem_cons_zero, List.setIfInBounds_toArray, List.set_cons_succ, List.set_cons_zero]
  refine wpAnyH_ready (rs := [10]) (by kernel_rfl) (by simp) ?_
  refine AllReadyH.cons (o := _) rfl (fun K hK => ?_) AllReadyH.nil
  refine step_row rfl 63 _ _ rfl (w.heap.size + 1 + 1) (wc { s with p := { s.p with t0 := tag }, l0 := nilS, hl := hq }) rfl rfl _ _ (by exact TD.Z) (by kernel_rfl) (by kernel_rfl) (by kernel_rfl) ?_
  refine hK.out _ _ ⟨(TD.rowZ { s with p := { s.p with t0 := tag }, l0 := nilS, hl := hq }).X, hHeld.2.setRow_far (by omega) _⟩ (fun hHeld2 => ?_)
  clear hK K
  try simp only [Act.put, List.getElem_toArray, List.getElem_cons_succ, List.getElem_cons_zero, List.setIfInBounds_toArray, List.set_cons_succ, List.set_cons_zero]
  refine wpAnyH_take (i := 11) (oi := _) (v := .bool (decide (0 < c.bg))) rfl (by kernel_rfl) (by kernel_rfl) (by kernel_rfl) (fun _ _ _ h => h) (Or.inl ⟨by rfl, fun w' hSw => by go_simp⟩) hHeld2 ?_
  try simp only [Act.put, List.getElem_toArray, List.getElem_cons_succ, List.getElem_cons_zero, List.setIfInBounds_toArray, List.set_cons_succ, List.set_cons_zero]
  refine wpAnyH_done (by kernel_rfl) ?_ _
  have T7 := TD.rowZ { s with p := { s.p with t0 := tag }, l0 := nilS, hl := hq }
  have L7 := (L5.keep (w' := w5.drew) (Below.drew (Below.refl _ _))).row N2 (wc { s with p := { s.p with t0 := tag }, l0 := nilS, hl := hq })
  go_wp2
  refine bodyPost_ret (v := .tuple #[wv { s with p := { s.p with t0 := tag }, l0 := nilS, hl := hq }, .bool (decide ((0 : Int) < c.bg))]) ?_ rfl ⟨_, rfl, ⟨by simp [h.p], L7.rk, Reads.nil _ _, L7.l1, L7.l2, L7.hl, L7.rd⟩, fun g hg hn => ?_, T7.below⟩
  · exact Rw.results_cell_slot (p := 4) (q := 5) (ty := 63) Try.results37 _ _ (w.heap.size + 1 + 1) 63 _ (0, 0) _ rfl T7.Z Try.underlying63 rfl (by kernel_rfl)
  · have n := NK g hg hn
    exact ⟨n.rk, .inl rfl, n.l1, n.l2, n.hl, n.rd⟩
set_option maxRecDepth 100000 in
set_option maxHeartbeats 4000000 in
theorem refRoom1_same (c : Cfg) (s : Wk) (x : St) (hx : Few 900 x) (w : World) (h : Lies w s x) (tag : Int) (hW : IntKind.u64.wrap (s.p.ep + 1) = tag) (h0 : 0 ≤ tag) (hM : tag % 3 = 1) (hT : s.p.t1 = tag) :
    Calls Try.prog 37 #[cv c, wv s] w fun e w' => ∃ s', e = .returned (.tuple #[wv s', .bool (decide ((x.l1.length : Int) < c.bg))]) ∧ Lies w' s' x ∧ Kin w s x s' x ∧ Below w.heap.size w w' := by
  have e9 : ∀ s : Wk, (wc s)[9]? = some (.int .u64 s.p.ep) := fun _ => rfl
  have eT : ∀ s : Wk, (wc s)[13]? = some (.int .u64 s.p.t1) := fun _ => rfl
  have eL : ∀ s : Wk, (wc s)[14]? = some (.slice s.l1.ad s.l1.len s.l1.cap) := fun _ => rfl
  have hw0 : Below w.heap.size w (w.alloc (.cells (ccW c) 24)) := (Below.refl _ _).alloc (Nat.le_refl _) _
  have T0 := Two.startAt hw0 s
  have C0 := (((Bk.new w (ccW c) 24).alloc (.cells (wc s) 63)).alloc (.cells (wc wz) 63))
  rw [show (w.alloc (.cells (ccW c) 24)).heap.size = w.heap.size + 1 by simp] at T0
  have hM2 : tag.tmod 3 = 1 := by rw [Int.tmod_eq_emod_of_nonneg h0]; exact hM
  have hlen := reads_len h.l1
  have b0 := T0.lt
  have bc := C0.lt
  have x0 := T0.X.cells
  rw [← hlen]
  have hb : (s.p.t1 != tag) = false := by simp [hT]
  have HT := Lib.hid hT
  clear hT hlen
  go_enter Try.func37, Try.ntmps37
  go_wp2_with fail
  refine wp_region_grown (by kernel_rfl) (by kernel_rfl) ?_
  have hg := @gcell
  repeat (go_big_quiet_step (fail))
  refine wpQuiet_nil ?_
  rintro w1 ⟨⟨_, hbw1⟩, rfl⟩
  clear hg
  have T1 := T0.keep hbw1
  have C1 := C0.keep hbw1
  have x1 := T1.X.cells
  have c1 := C1.cells
  have b1 := T1.lt
  have bc1 := C1.lt
  clear T0 C0 x0 b0 bc hbw1
  go_wp2
  clear x1 c1
  have eL := eL s
  have hS0 : Bk w1.drew (w.heap.size + 1) (wc s) 63 ∧ Bk w1.drew (w.heap.size) (ccW c) 24 := ⟨T1.X.keep (Below.drew (Below.refl _ _)), C1.keep (Below.drew (Below.refl _ _))⟩
  have TD := T1.keep (w' := w1.drew) (Below.drew (Below.refl _ _))
  refine wp_region_held_drew (S := fun w' => Bk w' (w.heap.size + 1) (wc s) 63 ∧ Bk w' (w.heap.size) (ccW c) 24) (by kernel_rfl) hS0 (fun hHeld => ?_)
  clear hS0
  refine wpAnyH_take (i := 0) (oi := _) (v := .agg (wc s)) rfl (by kernel_rfl) (by kernel_rfl) (by kernel_rfl) (fun _ _ _ h => h) (yieldsIf_row rfl 63 _ rfl (w.heap.size + 1) rfl (wc s) 63 _ (fun w' hw' => hw'.1) Try.underlying63 rfl (by kernel_rfl)) hHeld ?_
  try simp only [Act.put, List.getElem_toArray, List.getElem_cons_succ, List.getElem_cons_zero, List.setIfInBounds_toArray, List.set_cons_succ, List.set_cons_zero]
  refine wpAnyH_take (i := 1) (oi := _) (v := .int .u64 1) rfl (by kernel_rfl) (by kernel_rfl) (by kernel_rfl) (fun _ _ _ h => h) (Or.inl ⟨by rfl, fun w' hSw => by have xx := hSw.1.cells; have cc := hSw.2.cells; go_simp⟩) hHeld ?_
  try simp only [Act.put, List.getElem_toArray, List.getElem_cons_succ, List.getElem_cons_zero, List.setIfInBounds_toArray, List.set_cons_succ, List.set_cons_zero]
  refine wpAnyH_take (i := 2) (oi := _) (v := .pointer (some ⟨w.heap.size + 1, 11, none⟩)) rfl (by kernel_rfl) (by kernel_rfl) (by kernel_rfl) (fun _ _ _ h => h) (Or.inl ⟨by rfl, fun w' hSw => by have xx := hSw.1.cells; have cc := hSw.2.cells; go_simp⟩) hHeld ?_
  try simp only [Act.put, List.getElem_toArray, List.getElem_cons_succ, List.getElem_cons_zero, List.setIfInBounds_toArray, List.set_cons_succ, List.set_cons_zero]
  refine wpAnyH_take (i := 3) (oi := _) (v := .pointer (some ⟨w.heap.size + 1, 13, none⟩)) rfl (by kernel_rfl) (by kernel_rfl) (by kernel_rfl) (fun _ _ _ h => h) (Or.inl ⟨by rfl, fun w' hSw => by have xx := hSw.1.cells; have cc := hSw.2.cells; go_simp⟩) hHeld ?_
  try simp only [Act.put, List.getElem_toArray, List.getElem_cons_succ, List.getElem_cons_zero, List.setIfInBounds_toArray, List.set_cons_succ, List.set_cons_zero]
  refine wpAnyH_take (i := 4) (oi := _) (v := .pointer (some ⟨w.heap.size + 1, 14, none⟩)) rfl (by kernel_rfl) (by kernel_rfl) (by kernel_rfl) (fun _ _ _ h => h) (Or.inl ⟨by rfl, fun w' hSw => by have xx := hSw.1.cells; have cc := hSw.2.cells; go_simp⟩) hHeld ?_
  try simp only [Act.put, List.getElem_toArray, List.getElem_cons_succ, List.getElem_cons_zero, List.setIfInBounds_toArray, List.set_cons_succ, List.set_cons_zero]
  refine wpAnyH_take (i := 5) (oi := _) (v := .slice s.l1.ad s.l1.len s.l1.cap) rfl (by kernel_rfl) (by kernel_rfl) (by kernel_rfl) (fun _ _ _ h => h) (Or.inl ⟨by rfl, fun w' hSw => by have xx := hSw.1.cells; have cc := hSw.2.cells; go_simp⟩) hHeld ?_
  try simp only [Act.put, List.getElem_toArray, List.getElem_cons_succ, List.getElem_cons_zero, List.setIfInBounds_toArray, List.set_cons_succ, List.set_cons_zero]
  refine wpAnyH_take (i := 6) (oi := _) (v := .int .i64 (s.l1.len : Int)) rfl (by kernel_rfl) (by kernel_rfl) (by kernel_rfl) (fun _ _ _ h => h) (Or.inl ⟨by rfl, fun w' hSw => by have xx := hSw.1.cells; have cc := hSw.2.cells; go_simp⟩) hHeld ?_
  try simp only [Act.put, List.getElem_toArray, List.getElem_cons_succ, List.getElem_cons_zero, List.setIfInBounds_toArray, List.set_cons_succ, List.set_cons_zero]
  refine wpAnyH_take (i := 7) (oi := _) (v := .pointer (some ⟨w.heap.size, 6, none⟩)) rfl (by kernel_rfl) (by kernel_rfl) (by kernel_rfl) (fun _ _ _ h => h) (Or.inl ⟨by rfl, fun w' hSw => by have xx := hSw.1.cells; have cc := hSw.2.cells; go_simp⟩) hHeld ?_
  try simp only [Act.put, List.getElem_toArray, List.getElem_cons_succ, List.getElem_cons_zero, List.setIfInBounds_toArray, List.set_cons_succ, List.set_cons_zero]
  refine wpAnyH_take (i := 8) (oi := _) (v := .int .i64 c.bg) rfl (by kernel_rfl) (by kernel_rfl) (by kernel_rfl) (fun _ _ _ h => h) (Or.inl ⟨by rfl, fun w' hSw => by have xx := hSw.1.cells; have cc := hSw.2.cells; go_simp⟩) hHeld ?_
  try simp only [Act.put, List.getElem_toArray, List.getElem_cons_succ, List.getElem_cons_zero, List.setIfInBounds_toArray, List.set_cons_succ, List.set_cons_zero]
  refine wpAnyH_take (i := 9) (oi := _) (v := .bool (decide ((s.l1.len : Int) < c.bg))) rfl (by kernel_rfl) (by kernel_rfl) (by kernel_rfl) (fun _ _ _ h => h) (Or.inl ⟨by rfl, fun w' hSw => by have xx := hSw.1.cells; have cc := hSw.2.cells; go_simp⟩) hHeld ?_
  try simp only [Act.put, List.getElem_toArray, List.getElem_cons_succ, List.getElem_cons_zero, List.setIfInBounds_toArray, List.set_cons_succ, List.set_cons_zero]
  refine wpAnyH_ready (rs := [10]) (by kernel_rfl) (by simp) ?_
  refine AllReadyH.cons (o := _) rfl (fun K hK => ?_) AllReadyH.nil
  refine step_row rfl 63 _ _ rfl (w.heap.size + 1 + 1) (wc s) rfl rfl _ _ (by exact TD.Z) (by kernel_rfl) (by kernel_rfl) (by kernel_rfl) ?_
  refine hK.out _ _ ⟨(TD.rowZ s).X, hHeld.2.setRow_far (by omega) _⟩ (fun hHeld2 => ?_)
  clear hK K
  try simp only [Act.put, List.getElem_toArray, List.getElem_cons_succ, List.getElem_cons_zero, List.setIfInBounds_toArray, List.set_cons_succ, List.set_cons_zero]
  refine wpAnyH_take (i := 11) (oi := _) (v := .bool (decide ((s.l1.len : Int) < c.bg))) rfl (by kernel_rfl) (by kernel_rfl) (by kernel_rfl) (fun _ _ _ h => h) (Or.inl ⟨by rfl, fun w' hSw => by go_simp⟩) hHeld2 ?_
  try simp only [Act.put, List.getElem_toArray, List.getElem_cons_succ, List.getElem_cons_zero, List.setIfInBounds_toArray, List.set_cons_succ, List.set_cons_zero]
  refine wpAnyH_done (by kernel_rfl) ?_ _
  have T3 := TD.rowZ s
  go_wp2
  refine bodyPost_ret (v := .tuple #[wv s, .bool (decide ((s.l1.len : Int) < c.bg))]) ?_ rfl ⟨_, rfl, h.keep T3.below, fun g _ hn => hn, T3.below⟩
  · exact Rw.results_cell_slot (p := 4) (q := 5) (ty := 63) Try.results37 _ _ (w.heap.size + 1 + 1) 63 _ (0, 0) _ rfl T3.Z Try.underlying63 rfl (by kernel_rfl)
set_option maxRecDepth 100000 in
set_option maxHeartbeats 4000000 in
theorem refRoom1_other (c : Cfg) (s : Wk) (x : St) (hx : Few 900 x) (w : World) (h : Lies w s x) (tag : Int) (hW : IntKind.u64.wrap (s.p.ep + 1) = tag) (h0 : 0 ≤ tag) (hM : tag % 3 = 1) (hT : ¬ s.p.t1 = tag) :
    Calls Try.prog 37 #[cv c, wv s] w fun e w' => ∃ s', e = .returned (.tuple #[wv s', .bool (decide ((0 : Int) < c.bg))]) ∧ Lies w' s' { x with p := { x.p with t1 := tag }, l1 := [], hl := x.hl ++ x.l1 } ∧ Kin w s x s' { x with p := { x.p with t1 := tag }, l1 := [], hl := x.hl ++ x.l1 } ∧ Below w.heap.size w w' := by
  have e9 : ∀ s : Wk, (wc s)[9]? = some (.int .u64 s.p.ep) := fun _ => rfl
  have eT : ∀ s : Wk, (wc s)[13]? = some (.int .u64 s.p.t1) := fun _ => rfl
  have eL : ∀ s : Wk, (wc s)[14]? = some (.slice s.l1.ad s.l1.len s.l1.cap) := fun _ => rfl
  have hw0 : Below w.heap.size w (w.alloc (.cells (ccW c) 24)) := (Below.refl _ _).alloc (Nat.le_refl _) _
  have T0 := Two.startAt hw0 s
  have C0 := (((Bk.new w (ccW c) 24).alloc (.cells (wc s) 63)).alloc (.cells (wc wz) 63))
  rw [show (w.alloc (.cells (ccW c) 24)).heap.size = w.heap.size + 1 by simp] at T0
  have hM2 : tag.tmod 3 = 1 := by rw [Int.tmod_eq_emod_of_nonneg h0]; exact hM
  have hlen := reads_len h.l1
  have b0 := T0.lt
  have bc := C0.lt
  have x0 := T0.X.cells
  have hb : (s.p.t1 != tag) = true := by simp [hT]
  have HT := Lib.hid hT
  clear hT hlen
  go_enter Try.func37, Try.ntmps37
  go_wp2_with fail
  refine wp_region_grown (by kernel_rfl) (by kernel_rfl) ?_
  have hg := @gcell
  repeat (go_big_quiet_step (fail))
  refine wpQuiet_nil ?_
  rintro w1 ⟨⟨_, hbw1⟩, rfl⟩
  clear hg
  have T1 := T0.keep hbw1
  have C1 := C0.keep hbw1
  have x1 := T1.X.cells
  have c1 := C1.cells
  have b1 := T1.lt
  have bc1 := C1.lt
  clear T0 C0 x0 b0 bc hbw1
  go_wp2
  refine wp_region_grown_tail 6 (by kernel_rfl) (by kernel_rfl) ?_
  simp only [List.take_succ_cons, List.take_zero, List.drop_succ_cons, List.drop_zero]
  have hg := @gcell
  (refine wpQuiet_load_row rfl 63 _ rfl (w.heap.size + 1) rfl (wc s) 63 _ (by rintro _ ⟨n, rfl⟩; exact Bk.keep T1.X n.2) Try.underlying63 rfl (by kernel_rfl) ?_; simp only [Act.put, List.setIfInBounds_toArray, List.set_cons_succ, List.set_cons_zero])
  repeat (go_big_quiet_step (fail))
  refine wpQuiet_nil ?_
  rintro w2 ⟨⟨_, hbw2⟩, rfl⟩
  clear hg
  have T2 := T1.keep hbw2
  have C2 := C1.keep hbw2
  have b2 := T2.lt
  have bc2 := C2.lt
  clear x1 c1
  go_wp2_with fail
  refine (refHold s x hx s.l1 x.l1 (by have := hx.l1; omega) _ (h.keep T2.below) ((h.keep T2.below).l1)).mono ?_
  rintro e w3 ⟨s', rfl, L3, RD3, ES, hb3⟩
  obtain ⟨hq, hq'⟩ : ∃ h, h = s'.hl := ⟨_, rfl⟩
  rw [← hq'] at ES RD3
  subst ES
  have T3 := T2.keep hb3
  have C3 := C2.keep hb3
  have T4 := T3.rowX { s with hl := hq }
  have C4 := C3.setRow_far (g' := w.heap.size + 1) (by omega) (wc { s with hl := hq })
  have hs3 := hb3.size
  have N1 : NoB (w.heap.size + 1) { s with hl := hq } (holdS x x.l1) := noB_hold h (by omega) rfl RD3 (by omega)
  have N2 : NoB (w.heap.size + 1 + 1) { s with hl := hq } (holdS x x.l1) := noB_hold h (by omega) rfl RD3 (by omega)
  have NK : ∀ g, g < w.heap.size → NoB g s x → NoB g { s with hl := hq } (holdS x x.l1) := fun g hg hn => ⟨hn.rk, hn.l0, hn.l1, hn.l2, RD3.2.imp id (fun q a ha => by have := q a ha; have := T2.below.size; omega), hn.rd⟩
  have L4 := L3.row N1 (wc { s with hl := hq })
  have T5 := T4.rowX { s with p := { s.p with t1 := tag }, l1 := nilS, hl := hq }
  have L5 := L4.row N1 (wc { s with p := { s.p with t1 := tag }, l1 := nilS, hl := hq })
  have C5 := C4.setRow_far (g' := w.heap.size + 1) (by omega) (wc { s with p := { s.p with t1 := tag }, l1 := nilS, hl := hq })
  have x4 := T4.X.cells
  have x5 := T5.X.cells
  have c5 := C5.cells
  have b5 := T5.lt
  have bc5 := C5.lt
  have eE := e9 { s with hl := hq }
  have eL5 : (wc { s with p := { s.p with t1 := tag }, l1 := nilS, hl := hq })[14]? = some (.slice none 0 0) := rfl
  clear T2 C2 C4 hb3 L3 RD3 e9 eL eT L4
  go_wp2_with (first | (refine wpList_store_row rfl 63 _ _ rfl (w.heap.size + 1) (wc { s with hl := hq }) rfl rfl _ _ (by exact T3.X) (by kernel_rfl) (by kernel_rfl) (by kernel_rfl) ?_) | (refine Sub.wpList_store_sub rfl 60 _ _ rfl (w.heap.size + 1) 13 #[.int .u64 tag, .slice none 0 0] rfl rfl 63 (wc { s with hl := hq }) (wc { s with p := { s.p with t1 := tag }, l1 := nilS, hl := hq }) (by exact T4.X) (by kernel_rfl) (Nat.le_of_ble_eq_true (by kernel_rfl)) (by kernel_rfl) (by kernel_rfl) ?_))
  obtain ⟨w5, hw5⟩ : ∃ u, u = (w3.setRow (w.heap.size + 1) (wc { s with hl := hq })).setRow (w.heap.size + 1) (wc { s with p := { s.p with t1 := tag }, l1 := nilS, hl := hq }) := ⟨_, rfl⟩
  rw [← hw5] at T5 L5 C5 x5 c5 b5 bc5 ⊢
  clear hw5 T3 T4 C3 x4 b1 bc1 b2 bc2 hs3 eE
  clear x5 c5
  have hS0 : Bk w5.drew (w.heap.size + 1) (wc { s with p := { s.p with t1 := tag }, l1 := nilS, hl := hq }) 63 ∧ Bk w5.drew (w.heap.size) (ccW c) 24 := ⟨T5.X.keep (Below.drew (Below.refl _ _)), C5.keep (Below.drew (Below.refl _ _))⟩
  have TD := T5.keep (w' := w5.drew) (Below.drew (Below.refl _ _))
  refine wp_region_held_drew (S := fun w' => Bk w' (w.heap.size + 1) (wc { s with p := { s.p with t1 := tag }, l1 := nilS, hl := hq }) 63 ∧ Bk w' (w.heap.size) (ccW c) 24) (by kernel_rfl) hS0 (fun hHeld => ?_)
  clear hS0
  refine wpAnyH_take (i := 0) (oi := _) (v := .agg (wc { s with p := { s.p with t1 := tag }, l1 := nilS, hl := hq })) rfl (by kernel_rfl) (by kernel_rfl) (by kernel_rfl) (fun _ _ _ h => h) (yieldsIf_row rfl 63 _ rfl (w.heap.size + 1) rfl (wc { s with p := { s.p with t1 := tag }, l1 := nilS, hl := hq }) 63 _ (fun w' hw' => hw'.1) Try.underlying63 rfl (by kernel_rfl)) hHeld ?_
  try simp only [Act.put, List.getElem_toArray, List.getElem_cons_succ, List.getElem_cons_zero, List.setIfInBounds_toArray, List.set_cons_succ, List.set_cons_zero]
  refine wpAnyH_take (i := 1) (oi := _) (v := .int .u64 1) rfl (by kernel_rfl) (by kernel_rfl) (by kernel_rfl) (fun _ _ _ h => h) (Or.inl ⟨by rfl, fun w' hSw => by have xx := hSw.1.cells; have cc := hSw.2.cells; go_simp⟩) hHeld ?_
  try simp only [Act.put, List.getElem_toArray, List.getElem_cons_succ, List.getElem_cons_zero, List.setIfInBounds_toArray, List.set_cons_succ, List.set_cons_zero]
  refine wpAnyH_take (i := 2) (oi := _) (v := .pointer (some ⟨w.heap.size + 1, 11, none⟩)) rfl (by kernel_rfl) (by kernel_rfl) (by kernel_rfl) (fun _ _ _ h => h) (Or.inl ⟨by rfl, fun w' hSw => by have xx := hSw.1.cells; have cc := hSw.2.cells; go_simp⟩) hHeld ?_
  try simp only [Act.put, List.getElem_toArray, List.getElem_cons_succ, List.getElem_cons_zero, List.setIfInBounds_toArray, List.set_cons_succ, List.set_cons_zero]
  refine wpAnyH_take (i := 3) (oi := _) (v := .pointer (some ⟨w.heap.size + 1, 13, none⟩)) rfl (by kernel_rfl) (by kernel_rfl) (by kernel_rfl) (fun _ _ _ h => h) (Or.inl ⟨by rfl, fun w' hSw => by have xx := hSw.1.cells; have cc := hSw.2.cells; go_simp⟩) hHeld ?_
  try simp only [Act.put, List.getElem_toArray, List.getElem_cons_succ, List.getElem_cons_zero, List.setIfInBounds_toArray, List.set_cons_succ, List.set_cons_zero]
  refine wpAnyH_take (i := 4) (oi := _) (v := .pointer (some ⟨w.heap.size + 1, 14, none⟩)) rfl (by kernel_rfl) (by kernel_rfl) (by kernel_rfl) (fun _ _ _ h => h) (Or.inl ⟨by rfl, fun w' hSw => by have xx := hSw.1.cells; have cc := hSw.2.cells; go_simp⟩) hHeld ?_
  try simp only [Act.put, List.getElem_toArray, List.getElem_cons_succ, List.getElem_cons_zero, List.setIfInBounds_toArray, List.set_cons_succ, List.set_cons_zero]
  refine wpAnyH_take (i := 5) (oi := _) (v := .slice none 0 0) rfl (by kernel_rfl) (by kernel_rfl) (by kernel_rfl) (fun _ _ _ h => h) (Or.inl ⟨by rfl, fun w' hSw => by have xx := hSw.1.cells; have cc := hSw.2.cells; go_simp⟩) hHeld ?_
  try simp only [Act.put, List.getElem_toArray, List.getElem_cons_succ, List.getElem_cons_zero, List.setIfInBounds_toArray, List.set_cons_succ, List.set_cons_zero]
  refine wpAnyH_take (i := 6) (oi := _) (v := .int .i64 0) rfl (by kernel_rfl) (by kernel_rfl) (by kernel_rfl) (fun _ _ _ h => h) (Or.inl ⟨by rfl, fun w' hSw => by have xx := hSw.1.cells; have cc := hSw.2.cells; go_simp⟩) hHeld ?_
  try simp only [Act.put, List.getElem_toArray, List.getElem_cons_succ, List.getElem_cons_zero, List.setIfInBounds_toArray, List.set_cons_succ, List.set_cons_zero]
  refine wpAnyH_take (i := 7) (oi := _) (v := .pointer (some ⟨w.heap.size, 6, none⟩)) rfl (by kernel_rfl) (by kernel_rfl) (by kernel_rfl) (fun _ _ _ h => h) (Or.inl ⟨by rfl, fun w' hSw => by have xx := hSw.1.cells; have cc := hSw.2.cells; go_simp⟩) hHeld ?_
  try simp only [Act.put, List.getElem_toArray, List.getElem_cons_succ, List.getElem_cons_zero, List.setIfInBounds_toArray, List.set_cons_succ, List.set_cons_zero]
  refine wpAnyH_take (i := 8) (oi := _) (v := .int .i64 c.bg) rfl (by kernel_rfl) (by kernel_rfl) (by kernel_rfl) (fun _ _ _ h => h) (Or.inl ⟨by rfl, fun w' hSw => by have xx := hSw.1.cells; have cc := hSw.2.cells; go_simp⟩) hHeld ?_
  try simp only [Act.put, List.getElem_toArray, List.getElem_cons_succ, List.getElem_cons_zero, List.setIfInBounds_toArray, List.set_cons_succ, List.set_cons_zero]
  refine wpAnyH_take (i := 9) (oi := _) (v := .bool (decide (0 < c.bg))) rfl (by kernel_rfl) (by kernel_rfl) (by kernel_rfl) (fun _ _ _ h => h) (Or.inl ⟨by rfl, fun w' hSw => by have xx := hSw.1.cells; have cc := hSw.2.cells; go_simp⟩) hHeld ?_
  try simp only [Act.put, List.getElem_toArray, List.getElem_cons_succ, List.getElem_cons_zero, List.setIfInBounds_toArray, List.set_cons_succ, List.set_cons_zero]
  refine wpAnyH_ready (rs := [10]) (by kernel_rfl) (by simp) ?_
  refine AllReadyH.cons (o := _) rfl (fun K hK => ?_) AllReadyH.nil
  refine step_row rfl 63 _ _ rfl (w.heap.size + 1 + 1) (wc { s with p := { s.p with t1 := tag }, l1 := nilS, hl := hq }) rfl rfl _ _ (by exact TD.Z) (by kernel_rfl) (by kernel_rfl) (by kernel_rfl) ?_
  refine hK.out _ _ ⟨(TD.rowZ { s with p := { s.p with t1 := tag }, l1 := nilS, hl := hq }).X, hHeld.2.setRow_far (by omega) _⟩ (fun hHeld2 => ?_)
  clear hK K
  try simp only [Act.put, List.getElem_toArray, List.getElem_cons_succ, List.getElem_cons_zero, List.setIfInBounds_toArray, List.set_cons_succ, List.set_cons_zero]
  refine wpAnyH_take (i := 11) (oi := _) (v := .bool (decide (0 < c.bg))) rfl (by kernel_rfl) (by kernel_rfl) (by kernel_rfl) (fun _ _ _ h => h) (Or.inl ⟨by rfl, fun w' hSw => by go_simp⟩) hHeld2 ?_
  try simp only [Act.put, List.getElem_toArray, List.getElem_cons_succ, List.getElem_cons_zero, List.setIfInBounds_toArray, List.set_cons_succ, List.set_cons_zero]
  refine wpAnyH_done (by kernel_rfl) ?_ _
  have T7 := TD.rowZ { s with p := { s.p with t1 := tag }, l1 := nilS, hl := hq }
  have L7 := (L5.keep (w' := w5.drew) (Below.drew (Below.refl _ _))).row N2 (wc { s with p := { s.p with t1 := tag }, l1 := nilS, hl := hq })
  go_wp2
  refine bodyPost_ret (v := .tuple #[wv { s with p := { s.p with t1 := tag }, l1 := nilS, hl := hq }, .bool (decide ((0 : Int) < c.bg))]) ?_ rfl ⟨_, rfl, ⟨by simp [h.p], L7.rk, L7.l0, Reads.nil _ _, L7.l2, L7.hl, L7.rd⟩, fun g hg hn => ?_, T7.below⟩
  · exact Rw.results_cell_slot (p := 4) (q := 5) (ty := 63) Try.results37 _ _ (w.heap.size + 1 + 1) 63 _ (0, 0) _ rfl T7.Z Try.underlying63 rfl (by kernel_rfl)
  · have n := NK g hg hn
    exact ⟨n.rk, n.l0, .inl rfl, n.l2, n.hl, n.rd⟩
set_option maxRecDepth 100000 in
set_option maxHeartbeats 4000000 in
theorem refRoom2_same (c : Cfg) (s : Wk) (x : St) (hx : Few 900 x) (w : World) (h : Lies w s x) (tag : Int) (hW : IntKind.u64.wrap (s.p.ep + 1) = tag) (h0 : 0 ≤ tag) (hM : tag % 3 = 2) (hT : s.p.t2 = tag) :
    Calls Try.prog 37 #[cv c, wv s] w fun e w' => ∃ s', e = .returned (.tuple #[wv s', .bool (decide ((x.l2.length : Int) < c.bg))]) ∧ Lies w' s' x ∧ Kin w s x s' x ∧ Below w.heap.size w w' := by
  have e9 : ∀ s : Wk, (wc s)[9]? = some (.int .u64 s.p.ep) := fun _ => rfl
  have eT : ∀ s : Wk, (wc s)[15]? = some (.int .u64 s.p.t2) := fun _ => rfl
  have eL : ∀ s : Wk, (wc s)[16]? = some (.slice s.l2.ad s.l2.len s.l2.cap) := fun _ => rfl
  have hw0 : Below w.heap.size w (w.alloc (.cells (ccW c) 24)) := (Below.refl _ _).alloc (Nat.le_refl _) _
  have T0 := Two.startAt hw0 s
  have C0 := (((Bk.new w (ccW c) 24).alloc (.cells (wc s) 63)).alloc (.cells (wc wz) 63))
  rw [show (w.alloc (.cells (ccW c) 24)).heap.size = w.heap.size + 1 by simp] at T0
  have hM2 : tag.tmod 3 = 2 := by rw [Int.tmod_eq_emod_of_nonneg h0]; exact hM
  have hlen := reads_len h.l2
  have b0 := T0.lt
  have bc := C0.lt
  have x0 := T0.X.cells
  rw [← hlen]
  have hb : (s.p.t2 != tag) = false := by simp [hT]
  have HT := Lib.hid hT
  clear hT hlen
  go_enter Try.func37, Try.ntmps37
  go_wp2_with fail
  refine wp_region_grown (by kernel_rfl) (by kernel_rfl) ?_
  have hg := @gcell
  repeat (go_big_quiet_step (fail))
  refine wpQuiet_nil ?_
  rintro w1 ⟨⟨_, hbw1⟩, rfl⟩
  clear hg
  have T1 := T0.keep hbw1
  have C1 := C0.keep hbw1
  have x1 := T1.X.cells
  have c1 := C1.cells
  have b1 := T1.lt
  have bc1 := C1.lt
  clear T0 C0 x0 b0 bc hbw1
  go_wp2
  clear x1 c1
  have eL := eL s
  have hS0 : Bk w1.drew (w.heap.size + 1) (wc s) 63 ∧ Bk w1.drew (w.heap.size) (ccW c) 24 := ⟨T1.X.keep (Below.drew (Below.refl _ _)), C1.keep (Below.drew (Below.refl _ _))⟩
  have TD := T1.keep (w' := w1.drew) (Below.drew (Below.refl _ _))
  refine wp_region_held_drew (S := fun w' => Bk w' (w.heap.size + 1) (wc s) 63 ∧ Bk w' (w.heap.size) (ccW c) 24) (by kernel_rfl) hS0 (fun hHeld => ?_)
  clear hS0
  refine wpAnyH_take (i := 0) (oi := _) (v := .agg (wc s)) rfl (by kernel_rfl) (by kernel_rfl) (by kernel_rfl) (fun _ _ _ h => h) (yieldsIf_row rfl 63 _ rfl (w.heap.size + 1) rfl (wc s) 63 _ (fun w' hw' => hw'.1) Try.underlying63 rfl (by kernel_rfl)) hHeld ?_
  try simp only [Act.put, List.getElem_toArray, List.getElem_cons_succ, List.getElem_cons_zero, List.setIfInBounds_toArray, List.set_cons_succ, List.set_cons_zero]
  refine wpAnyH_take (i := 1) (oi := _) (v := .int .u64 2) rfl (by kernel_rfl) (by kernel_rfl) (by kernel_rfl) (fun _ _ _ h => h) (Or.inl ⟨by rfl, fun w' hSw => by have xx := hSw.1.cells; have cc := hSw.2.cells; go_simp⟩) hHeld ?_
  try simp only [Act.put, List.getElem_toArray, List.getElem_cons_succ, List.getElem_cons_zero, List.setIfInBounds_toArray, List.set_cons_succ, List.set_cons_zero]
  refine wpAnyH_take (i := 2) (oi := _) (v := .pointer (some ⟨w.heap.size + 1, 11, none⟩)) rfl (by kernel_rfl) (by kernel_rfl) (by kernel_rfl) (fun _ _ _ h => h) (Or.inl ⟨by rfl, fun w' hSw => by have xx := hSw.1.cells; have cc := hSw.2.cells; go_simp⟩) hHeld ?_
  try simp only [Act.put, List.getElem_toArray, List.getElem_cons_succ, List.getElem_cons_zero, List.setIfInBounds_toArray, List.set_cons_succ, List.set_cons_zero]
  refine wpAnyH_take (i := 3) (oi := _) (v := .pointer (some ⟨w.heap.size + 1, 15, none⟩)) rfl (by kernel_rfl) (by kernel_rfl) (by kernel_rfl) (fun _ _ _ h => h) (Or.inl ⟨by rfl, fun w' hSw => by have xx := hSw.1.cells; have cc := hSw.2.cells; go_simp⟩) hHeld ?_
  try simp only [Act.put, List.getElem_toArray, List.getElem_cons_succ, List.getElem_cons_zero, List.setIfInBounds_toArray, List.set_cons_succ, List.set_cons_zero]
  refine wpAnyH_take (i := 4) (oi := _) (v := .pointer (some ⟨w.heap.size + 1, 16, none⟩)) rfl (by kernel_rfl) (by kernel_rfl) (by kernel_rfl) (fun _ _ _ h => h) (Or.inl ⟨by rfl, fun w' hSw => by have xx := hSw.1.cells; have cc := hSw.2.cells; go_simp⟩) hHeld ?_
  try simp only [Act.put, List.getElem_toArray, List.getElem_cons_succ, List.getElem_cons_zero, List.setIfInBounds_toArray, List.set_cons_succ, List.set_cons_zero]
  refine wpAnyH_take (i := 5) (oi := _) (v := .slice s.l2.ad s.l2.len s.l2.cap) rfl (by kernel_rfl) (by kernel_rfl) (by kernel_rfl) (fun _ _ _ h => h) (Or.inl ⟨by rfl, fun w' hSw => by have xx := hSw.1.cells; have cc := hSw.2.cells; go_simp⟩) hHeld ?_
  try simp only [Act.put, List.getElem_toArray, List.getElem_cons_succ, List.getElem_cons_zero, List.setIfInBounds_toArray, List.set_cons_succ, List.set_cons_zero]
  refine wpAnyH_take (i := 6) (oi := _) (v := .int .i64 (s.l2.len : Int)) rfl (by kernel_rfl) (by kernel_rfl) (by kernel_rfl) (fun _ _ _ h => h) (Or.inl ⟨by rfl, fun w' hSw => by have xx := hSw.1.cells; have cc := hSw.2.cells; go_simp⟩) hHeld ?_
  try simp only [Act.put, List.getElem_toArray, List.getElem_cons_succ, List.getElem_cons_zero, List.setIfInBounds_toArray, List.set_cons_succ, List.set_cons_zero]
  refine wpAnyH_take (i := 7) (oi := _) (v := .pointer (some ⟨w.heap.size, 6, none⟩)) rfl (by kernel_rfl) (by kernel_rfl) (by kernel_rfl) (fun _ _ _ h => h) (Or.inl ⟨by rfl, fun w' hSw => by have xx := hSw.1.cells; have cc := hSw.2.cells; go_simp⟩) hHeld ?_
  try simp only [Act.put, List.getElem_toArray, List.getElem_cons_succ, List.getElem_cons_zero, List.setIfInBounds_toArray, List.set_cons_succ, List.set_cons_zero]
  refine wpAnyH_take (i := 8) (oi := _) (v := .int .i64 c.bg) rfl (by kernel_rfl) (by kernel_rfl) (by kernel_rfl) (fun _ _ _ h => h) (Or.inl ⟨by rfl, fun w' hSw => by have xx := hSw.1.cells; have cc := hSw.2.cells; go_simp⟩) hHeld ?_
  try simp only [Act.put, List.getElem_toArray, List.getElem_cons_succ, List.getElem_cons_zero, List.setIfInBounds_toArray, List.set_cons_succ, List.set_cons_zero]
  refine wpAnyH_take (i := 9) (oi := _) (v := .bool (decide ((s.l2.len : Int) < c.bg))) rfl (by kernel_rfl) (by kernel_rfl) (by kernel_rfl) (fun _ _ _ h => h) (Or.inl ⟨by rfl, fun w' hSw => by have xx := hSw.1.cells; have cc := hSw.2.cells; go_simp⟩) hHeld ?_
  try simp only [Act.put, List.getElem_toArray, List.getElem_cons_succ, List.getElem_cons_zero, List.setIfInBounds_toArray, List.set_cons_succ, List.set_cons_zero]
  refine wpAnyH_ready (rs := [10]) (by kernel_rfl) (by simp) ?_
  refine AllReadyH.cons (o := _) rfl (fun K hK => ?_) AllReadyH.nil
  refine step_row rfl 63 _ _ rfl (w.heap.size + 1 + 1) (wc s) rfl rfl _ _ (by exact TD.Z) (by kernel_rfl) (by kernel_rfl) (by kernel_rfl) ?_
  refine hK.out _ _ ⟨(TD.rowZ s).X, hHeld.2.setRow_far (by omega) _⟩ (fun hHeld2 => ?_)
  clear hK K
  try simp only [Act.put, List.getElem_toArray, List.getElem_cons_succ, List.getElem_cons_zero, List.setIfInBounds_toArray, List.set_cons_succ, List.set_cons_zero]
  refine wpAnyH_take (i := 11) (oi := _) (v := .bool (decide ((s.l2.len : Int) < c.bg))) rfl (by kernel_rfl) (by kernel_rfl) (by kernel_rfl) (fun _ _ _ h => h) (Or.inl ⟨by rfl, fun w' hSw => by go_simp⟩) hHeld2 ?_
  try simp only [Act.put, List.getElem_toArray, List.getElem_cons_succ, List.getElem_cons_zero, List.setIfInBounds_toArray, List.set_cons_succ, List.set_cons_zero]
  refine wpAnyH_done (by kernel_rfl) ?_ _
  have T3 := TD.rowZ s
  go_wp2
  refine bodyPost_ret (v := .tuple #[wv s, .bool (decide ((s.l2.len : Int) < c.bg))]) ?_ rfl ⟨_, rfl, h.keep T3.below, fun g _ hn => hn, T3.below⟩
  · exact Rw.results_cell_slot (p := 4) (q := 5) (ty := 63) Try.results37 _ _ (w.heap.size + 1 + 1) 63 _ (0, 0) _ rfl T3.Z Try.underlying63 rfl (by kernel_rfl)
set_option maxRecDepth 100000 in
set_option maxHeartbeats 4000000 in
theorem refRoom2_other (c : Cfg) (s : Wk) (x : St) (hx : Few 900 x) (w : World) (h : Lies w s x) (tag : Int) (hW : IntKind.u64.wrap (s.p.ep + 1) = tag) (h0 : 0 ≤ tag) (hM : tag % 3 = 2) (hT : ¬ s.p.t2 = tag) :
    Calls Try.prog 37 #[cv c, wv s] w fun e w' => ∃ s', e = .returned (.tuple #[wv s', .bool (decide ((0 : Int) < c.bg))]) ∧ Lies w' s' { x with p := { x.p with t2 := tag }, l2 := [], hl := x.hl ++ x.l2 } ∧ Kin w s x s' { x with p := { x.p with t2 := tag }, l2 := [], hl := x.hl ++ x.l2 } ∧ Below w.heap.size w w' := by
  have e9 : ∀ s : Wk, (wc s)[9]? = some (.int .u64 s.p.ep) := fun _ => rfl
  have eT : ∀ s : Wk, (wc s)[15]? = some (.int .u64 s.p.t2) := fun _ => rfl
  have eL : ∀ s : Wk, (wc s)[16]? = some (.slice s.l2.ad s.l2.len s.l2.cap) := fun _ => rfl
  have hw0 : Below w.heap.size w (w.alloc (.cells (ccW c) 24)) := (Below.refl _ _).alloc (Nat.le_refl _) _
  have T0 := Two.startAt hw0 s
  have C0 := (((Bk.new w (ccW c) 24).alloc (.cells (wc s) 63)).alloc (.cells (wc wz) 63))
  rw [show (w.alloc (.cells (ccW c) 24)).heap.size = w.heap.size + 1 by simp] at T0
  have hM2 : tag.tmod 3 = 2 := by rw [Int.tmod_eq_emod_of_nonneg h0]; exact hM
  have hlen := reads_len h.l2
  have b0 := T0.lt
  have bc := C0.lt
  have x0 := T0.X.cells
  have hb : (s.p.t2 != tag) = true := by simp [hT]
  have HT := Lib.hid hT
  clear hT hlen
  go_enter Try.func37, Try.ntmps37
  go_wp2_with fail
  refine wp_region_grown (by kernel_rfl) (by kernel_rfl) ?_
  have hg := @gcell
  repeat (go_big_quiet_step (fail))
  refine wpQuiet_nil ?_
  rintro w1 ⟨⟨_, hbw1⟩, rfl⟩
  clear hg
  have T1 := T0.keep hbw1
  have C1 := C0.keep hbw1
  have x1 := T1.X.cells
  have c1 := C1.cells
  have b1 := T1.lt
  have bc1 := C1.lt
  clear T0 C0 x0 b0 bc hbw1
  go_wp2
  refine wp_region_grown_tail 6 (by kernel_rfl) (by kernel_rfl) ?_
  simp only [List.take_succ_cons, List.take_zero, List.drop_succ_cons, List.drop_zero]
  have hg := @gcell
  (refine wpQuiet_load_row rfl 63 _ rfl (w.heap.size + 1) rfl (wc s) 63 _ (by rintro _ ⟨n, rfl⟩; exact Bk.keep T1.X n.2) Try.underlying63 rfl (by kernel_rfl) ?_; simp only [Act.put, List.setIfInBounds_toArray, List.set_cons_succ, List.set_cons_zero])
  repeat (go_big_quiet_step (fail))
  refine wpQuiet_nil ?_
  rintro w2 ⟨⟨_, hbw2⟩, rfl⟩
  clear hg
  have T2 := T1.keep hbw2
  have C2 := C1.keep hbw2
  have b2 := T2.lt
  have bc2 := C2.lt
  clear x1 c1
  go_wp2_with fail
  refine (refHold s x hx s.l2 x.l2 (by have := hx.l2; omega) _ (h.keep T2.below) ((h.keep T2.below).l2)).mono ?_
  rintro e w3 ⟨s', rfl, L3, RD3, ES, hb3⟩
  obtain ⟨hq, hq'⟩ : ∃ h, h = s'.hl := ⟨_, rfl⟩
  rw [← hq'] at ES RD3
  subst ES
  have T3 := T2.keep hb3
  have C3 := C2.keep hb3
  have T4 := T3.rowX { s with hl := hq }
  have C4 := C3.setRow_far (g' := w.heap.size + 1) (by omega) (wc { s with hl := hq })
  have hs3 := hb3.size
  have N1 : NoB (w.heap.size + 1) { s with hl := hq } (holdS x x.l2) := noB_hold h (by omega) rfl RD3 (by omega)
  have N2 : NoB (w.heap.size + 1 + 1) { s with hl := hq } (holdS x x.l2) := noB_hold h (by omega) rfl RD3 (by omega)
  have NK : ∀ g, g < w.heap.size → NoB g s x → NoB g { s with hl := hq } (holdS x x.l2) := fun g hg hn => ⟨hn.rk, hn.l0, hn.l1, hn.l2, RD3.2.imp id (fun q a ha => by have := q a ha; have := T2.below.size; omega), hn.rd⟩
  have L4 := L3.row N1 (wc { s with hl := hq })
  have T5 := T4.rowX { s with p := { s.p with t2 := tag }, l2 := nilS, hl := hq }
  have L5 := L4.row N1 (wc { s with p := { s.p with t2 := tag }, l2 := nilS, hl := hq })
  have C5 := C4.setRow_far (g' := w.heap.size + 1) (by omega) (wc { s with p := { s.p with t2 := tag }, l2 := nilS, hl := hq })
  have x4 := T4.X.cells
  have x5 := T5.X.cells
  have c5 := C5.cells
  have b5 := T5.lt
  have bc5 := C5.lt
  have eE := e9 { s with hl := hq }
  have eL5 : (wc { s with p := { s.p with t2 := tag }, l2 := nilS, hl := hq })[16]? = some (.slice none 0 0) := rfl
  clear T2 C2 C4 hb3 L3 RD3 e9 eL eT L4
  go_wp2_with (first | (refine wpList_store_row rfl 63 _ _ rfl (w.heap.size + 1) (wc { s with hl := hq }) rfl rfl _ _ (by exact T3.X) (by kernel_rfl) (by kernel_rfl) (by kernel_rfl) ?_) | (refine Sub.wpList_store_sub rfl 60 _ _ rfl (w.heap.size + 1) 15 #[.int .u64 tag, .slice none 0 0] rfl rfl 63 (wc { s with hl := hq }) (wc { s with p := { s.p with t2 := tag }, l2 := nilS, hl := hq }) (by exact T4.X) (by kernel_rfl) (Nat.le_of_ble_eq_true (by kernel_rfl)) (by kernel_rfl) (by kernel_rfl) ?_))
  obtain ⟨w5, hw5⟩ : ∃ u, u = (w3.setRow (w.heap.size + 1) (wc { s with hl := hq })).setRow (w.heap.size + 1) (wc { s with p := { s.p with t2 := tag }, l2 := nilS, hl := hq }) := ⟨_, rfl⟩
  rw [← hw5] at T5 L5 C5 x5 c5 b5 bc5 ⊢
  clear hw5 T3 T4 C3 x4 b1 bc1 b2 bc2 hs3 eE
  clear x5 c5
  have hS0 : Bk w5.drew (w.heap.size + 1) (wc { s with p := { s.p with t2 := tag }, l2 := nilS, hl := hq }) 63 ∧ Bk w5.drew (w.heap.size) (ccW c) 24 := ⟨T5.X.keep (Below.drew (Below.refl _ _)), C5.keep (Below.drew (Below.refl _ _))⟩
  have TD := T5.keep (w' := w5.drew) (Below.drew (Below.refl _ _))
  refine wp_region_held_drew (S := fun w' => Bk w' (w.heap.size + 1) (wc { s with p := { s.p with t2 := tag }, l2 := nilS, hl := hq }) 63 ∧ Bk w' (w.heap.size) (ccW c) 24) (by kernel_rfl) hS0 (fun hHeld => ?_)
  clear hS0
  refine wpAnyH_take (i := 0) (oi := _) (v := .agg (wc { s with p := { s.p with t2 := tag }, l2 := nilS, hl := hq })) rfl (by kernel_rfl) (by kernel_rfl) (by kernel_rfl) (fun _ _ _ h => h) (yieldsIf_row rfl 63 _ rfl (w.heap.size + 1) rfl (wc { s with p := { s.p with t2 := tag }, l2 := nilS, hl := hq }) 63 _ (fun w' hw' => hw'.1) Try.underlying63 rfl (by kernel_rfl)) hHeld ?_
  try simp only [Act.put, List.getElem_toArray, List.getElem_cons_succ, List.getElem_cons_zero, List.setIfInBounds_toArray, List.set_cons_succ, List.set_cons_zero]
  refine wpAnyH_take (i := 1) (oi := _) (v := .int .u64 2) rfl (by kernel_rfl) (by kernel_rfl) (by kernel_rfl) (fun _ _ _ h => h) (Or.inl ⟨by rfl, fun w' hSw => by have xx := hSw.1.cells; have cc := hSw.2.cells; go_simp⟩) hHeld ?_
  try simp only [Act.put, List.getElem_toArray, List.getElem_cons_succ, List.getElem_cons_zero, List.setIfInBounds_toArray, List.set_cons_succ, List.set_cons_zero]
  refine wpAnyH_take (i := 2) (oi := _) (v := .pointer (some ⟨w.heap.size + 1, 11, none⟩)) rfl (by kernel_rfl) (by kernel_rfl) (by kernel_rfl) (fun _ _ _ h => h) (Or.inl ⟨by rfl, fun w' hSw => by have xx := hSw.1.cells; have cc := hSw.2.cells; go_simp⟩) hHeld ?_
  try simp only [Act.put, List.getElem_toArray, List.getElem_cons_succ, List.getElem_cons_zero, List.setIfInBounds_toArray, List.set_cons_succ, List.set_cons_zero]
  refine wpAnyH_take (i := 3) (oi := _) (v := .pointer (some ⟨w.heap.size + 1, 15, none⟩)) rfl (by kernel_rfl) (by kernel_rfl) (by kernel_rfl) (fun _ _ _ h => h) (Or.inl ⟨by rfl, fun w' hSw => by have xx := hSw.1.cells; have cc := hSw.2.cells; go_simp⟩) hHeld ?_
  try simp only [Act.put, List.getElem_toArray, List.getElem_cons_succ, List.getElem_cons_zero, List.setIfInBounds_toArray, List.set_cons_succ, List.set_cons_zero]
  refine wpAnyH_take (i := 4) (oi := _) (v := .pointer (some ⟨w.heap.size + 1, 16, none⟩)) rfl (by kernel_rfl) (by kernel_rfl) (by kernel_rfl) (fun _ _ _ h => h) (Or.inl ⟨by rfl, fun w' hSw => by have xx := hSw.1.cells; have cc := hSw.2.cells; go_simp⟩) hHeld ?_
  try simp only [Act.put, List.getElem_toArray, List.getElem_cons_succ, List.getElem_cons_zero, List.setIfInBounds_toArray, List.set_cons_succ, List.set_cons_zero]
  refine wpAnyH_take (i := 5) (oi := _) (v := .slice none 0 0) rfl (by kernel_rfl) (by kernel_rfl) (by kernel_rfl) (fun _ _ _ h => h) (Or.inl ⟨by rfl, fun w' hSw => by have xx := hSw.1.cells; have cc := hSw.2.cells; go_simp⟩) hHeld ?_
  try simp only [Act.put, List.getElem_toArray, List.getElem_cons_succ, List.getElem_cons_zero, List.setIfInBounds_toArray, List.set_cons_succ, List.set_cons_zero]
  refine wpAnyH_take (i := 6) (oi := _) (v := .int .i64 0) rfl (by kernel_rfl) (by kernel_rfl) (by kernel_rfl) (fun _ _ _ h => h) (Or.inl ⟨by rfl, fun w' hSw => by have xx := hSw.1.cells; have cc := hSw.2.cells; go_simp⟩) hHeld ?_
  try simp only [Act.put, List.getElem_toArray, List.getElem_cons_succ, List.getElem_cons_zero, List.setIfInBounds_toArray, List.set_cons_succ, List.set_cons_zero]
  refine wpAnyH_take (i := 7) (oi := _) (v := .pointer (some ⟨w.heap.size, 6, none⟩)) rfl (by kernel_rfl) (by kernel_rfl) (by kernel_rfl) (fun _ _ _ h => h) (Or.inl ⟨by rfl, fun w' hSw => by have xx := hSw.1.cells; have cc := hSw.2.cells; go_simp⟩) hHeld ?_
  try simp only [Act.put, List.getElem_toArray, List.getElem_cons_succ, List.getElem_cons_zero, List.setIfInBounds_toArray, List.set_cons_succ, List.set_cons_zero]
  refine wpAnyH_take (i := 8) (oi := _) (v := .int .i64 c.bg) rfl (by kernel_rfl) (by kernel_rfl) (by kernel_rfl) (fun _ _ _ h => h) (Or.inl ⟨by rfl, fun w' hSw => by have xx := hSw.1.cells; have cc := hSw.2.cells; go_simp⟩) hHeld ?_
  try simp only [Act.put, List.getElem_toArray, List.getElem_cons_succ, List.getElem_cons_zero, List.setIfInBounds_toArray, List.set_cons_succ, List.set_cons_zero]
  refine wpAnyH_take (i := 9) (oi := _) (v := .bool (decide (0 < c.bg))) rfl (by kernel_rfl) (by kernel_rfl) (by kernel_rfl) (fun _ _ _ h => h) (Or.inl ⟨by rfl, fun w' hSw => by have xx := hSw.1.cells; have cc := hSw.2.cells; go_simp⟩) hHeld ?_
  try simp only [Act.put, List.getElem_toArray, List.getElem_cons_succ, List.getElem_cons_zero, List.setIfInBounds_toArray, List.set_cons_succ, List.set_cons_zero]
  refine wpAnyH_ready (rs := [10]) (by kernel_rfl) (by simp) ?_
  refine AllReadyH.cons (o := _) rfl (fun K hK => ?_) AllReadyH.nil
  refine step_row rfl 63 _ _ rfl (w.heap.size + 1 + 1) (wc { s with p := { s.p with t2 := tag }, l2 := nilS, hl := hq }) rfl rfl _ _ (by exact TD.Z) (by kernel_rfl) (by kernel_rfl) (by kernel_rfl) ?_
  refine hK.out _ _ ⟨(TD.rowZ { s with p := { s.p with t2 := tag }, l2 := nilS, hl := hq }).X, hHeld.2.setRow_far (by omega) _⟩ (fun hHeld2 => ?_)
  clear hK K
  try simp only [Act.put, List.getElem_toArray, List.getElem_cons_succ, List.getElem_cons_zero, List.setIfInBounds_toArray, List.set_cons_succ, List.set_cons_zero]
  refine wpAnyH_take (i := 11) (oi := _) (v := .bool (decide (0 < c.bg))) rfl (by kernel_rfl) (by kernel_rfl) (by kernel_rfl) (fun _ _ _ h => h) (Or.inl ⟨by rfl, fun w' hSw => by go_simp⟩) hHeld2 ?_
  try simp only [Act.put, List.getElem_toArray, List.getElem_cons_succ, List.getElem_cons_zero, List.setIfInBounds_toArray, List.set_cons_succ, List.set_cons_zero]
  refine wpAnyH_done (by kernel_rfl) ?_ _
  have T7 := TD.rowZ { s with p := { s.p with t2 := tag }, l2 := nilS, hl := hq }
  have L7 := (L5.keep (w' := w5.drew) (Below.drew (Below.refl _ _))).row N2 (wc { s with p := { s.p with t2 := tag }, l2 := nilS, hl := hq })
  go_wp2
  refine bodyPost_ret (v := .tuple #[wv { s with p := { s.p with t2 := tag }, l2 := nilS, hl := hq }, .bool (decide ((0 : Int) < c.bg))]) ?_ rfl ⟨_, rfl, ⟨by simp [h.p], L7.rk, L7.l0, L7.l1, Reads.nil _ _, L7.hl, L7.rd⟩, fun g hg hn => ?_, T7.below⟩
  · exact Rw.results_cell_slot (p := 4) (q := 5) (ty := 63) Try.results37 _ _ (w.heap.size + 1 + 1) 63 _ (0, 0) _ rfl T7.Z Try.underlying63 rfl (by kernel_rfl)
  · have n := NK g hg hn
    exact ⟨n.rk, n.l0, n.l1, .inl rfl, n.hl, n.rd⟩
set_option maxRecDepth 100000 in
set_option maxHeartbeats 4000000 in
theorem bagRoom0 (c : Cfg) (s : Wk) (x : St) (hx : Few 900 x) (w : World) (h : Lies w s x) (hM : tagOf x % 3 = 0) :
    Calls Try.prog 36 #[cv c, wv s] w fun e w' => ∃ s', e = .returned (.tuple #[wv s', .bool (decide (((prep0 x).l0.length : Int) < c.bg))]) ∧ Lies w' s' (prep0 x) ∧ Below w.heap.size w w' := by
  have eL : ∀ s : Wk, (wc s)[12]? = some (.slice s.l0.ad s.l0.len s.l0.cap) := fun _ => rfl
  have hw0 : Below w.heap.size w (w.alloc (.cells (ccW c) 24)) := (Below.refl _ _).alloc (Nat.le_refl _) _
  have T0 := Two.startAt hw0 s
  have C0 := (((Bk.new w (ccW c) 24).alloc (.cells (wc s) 63)).alloc (.cells (wc wz) 63))
  rw [show (w.alloc (.cells (ccW c) 24)).heap.size = w.heap.size + 1 by simp] at T0
  have b0 := T0.lt
  have bc := C0.lt
  go_enter Try.func36, Try.ntmps36
  go_wp2_with (refine wpList_load_row rfl 63 _ rfl (w.heap.size + 1) rfl _ (wc s) (0, 0) _ (by exact T0.X) Try.underlying63 rfl (by kernel_rfl) ?_)
  refine (prepare0 s x hx _ (h.keep T0.below) hM).mono ?_
  rintro e w1 ⟨s', rfl, A1, hb1⟩
  have T1 := T0.keep hb1
  have b1 := T1.lt
  have T2 := T1.rowX s'
  have A2 := A1.setRow (g := w.heap.size + 1) (by omega) (wc s')
  have C2 := (C0.keep hb1).setRow_far (g' := w.heap.size + 1) (by omega) (wc s')
  have hlen := reads_len A1.l0.reads
  have HLEN := Lib.hid hlen
  have hs1 : (((w.alloc (Obj.cells (ccW c) 24)).alloc (Obj.cells (wc s) 63)).alloc (Obj.cells (wc wz) 63)).heap.size ≤ w1.heap.size := hb1.size
  clear C0 T0 hb1 hlen
  go_wp2_with (refine wpList_store_row rfl 63 _ _ rfl (w.heap.size + 1) (wc s') rfl rfl _ _ (by exact T1.X) (by kernel_rfl) (by kernel_rfl) (by kernel_rfl) ?_)
  obtain ⟨w2, hw2⟩ : ∃ w2, w2 = w1.setRow (w.heap.size + 1) (wc s') := ⟨_, rfl⟩
  rw [← hw2] at T2 A2 C2 ⊢
  clear hw2 T1
  have eL := eL s'
  have hS0 : Bk w2.drew (w.heap.size + 1) (wc s') 63 ∧ Bk w2.drew (w.heap.size) (ccW c) 24 := ⟨T2.X.keep (Below.drew (Below.refl _ _)), C2.keep (Below.drew (Below.refl _ _))⟩
  have TD := T2.keep (w' := w2.drew) (Below.drew (Below.refl _ _))
  refine wp_region_held_drew (S := fun w' => Bk w' (w.heap.size + 1) (wc s') 63 ∧ Bk w' (w.heap.size) (ccW c) 24) (by kernel_rfl) hS0 (fun hHeld => ?_)
  clear hS0
  refine wpAnyH_take (i := 0) (oi := _) (v := .agg (wc s')) rfl (by kernel_rfl) (by kernel_rfl) (by kernel_rfl) (fun _ _ _ h => h) (yieldsIf_row rfl 63 _ rfl (w.heap.size + 1) rfl (wc s') 63 _ (fun w' hw' => hw'.1) Try.underlying63 rfl (by kernel_rfl)) hHeld ?_
  try simp only [Act.put, List.getElem_toArray, List.getElem_cons_succ, List.getElem_cons_zero, List.setIfInBounds_toArray, List.set_cons_succ, List.set_cons_zero]
  refine wpAnyH_take (i := 1) (oi := _) (v := .int .i64 0) rfl (by kernel_rfl) (by kernel_rfl) (by kernel_rfl) (fun _ _ _ h => h) (Or.inl ⟨by rfl, fun w' hSw => by have xx := hSw.1.cells; have cc := hSw.2.cells; go_simp⟩) hHeld ?_
  try simp only [Act.put, List.getElem_toArray, List.getElem_cons_succ, List.getElem_cons_zero, List.setIfInBounds_toArray, List.set_cons_succ, List.set_cons_zero]
  refine wpAnyH_take (i := 2) (oi := _) (v := .pointer (some ⟨w.heap.size + 1, 11, none⟩)) rfl (by kernel_rfl) (by kernel_rfl) (by kernel_rfl) (fun _ _ _ h => h) (Or.inl ⟨by rfl, fun w' hSw => by have xx := hSw.1.cells; have cc := hSw.2.cells; go_simp⟩) hHeld ?_
  try simp only [Act.put, List.getElem_toArray, List.getElem_cons_succ, List.getElem_cons_zero, List.setIfInBounds_toArray, List.set_cons_succ, List.set_cons_zero]
  refine wpAnyH_take (i := 3) (oi := _) (v := .pointer (some ⟨w.heap.size + 1, 11, none⟩)) rfl (by kernel_rfl) (by kernel_rfl) (by kernel_rfl) (fun _ _ _ h => h) (Or.inl ⟨by rfl, fun w' hSw => by have xx := hSw.1.cells; have cc := hSw.2.cells; go_simp⟩) hHeld ?_
  try simp only [Act.put, List.getElem_toArray, List.getElem_cons_succ, List.getElem_cons_zero, List.setIfInBounds_toArray, List.set_cons_succ, List.set_cons_zero]
  refine wpAnyH_take (i := 4) (oi := _) (v := .pointer (some ⟨w.heap.size + 1, 12, none⟩)) rfl (by kernel_rfl) (by kernel_rfl) (by kernel_rfl) (fun _ _ _ h => h) (Or.inl ⟨by rfl, fun w' hSw => by have xx := hSw.1.cells; have cc := hSw.2.cells; go_simp⟩) hHeld ?_
  try simp only [Act.put, List.getElem_toArray, List.getElem_cons_succ, List.getElem_cons_zero, List.setIfInBounds_toArray, List.set_cons_succ, List.set_cons_zero]
  refine wpAnyH_take (i := 5) (oi := _) (v := .slice s'.l0.ad s'.l0.len s'.l0.cap) rfl (by kernel_rfl) (by kernel_rfl) (by kernel_rfl) (fun _ _ _ h => h) (Or.inl ⟨by rfl, fun w' hSw => by have xx := hSw.1.cells; have cc := hSw.2.cells; go_simp⟩) hHeld ?_
  try simp only [Act.put, List.getElem_toArray, List.getElem_cons_succ, List.getElem_cons_zero, List.setIfInBounds_toArray, List.set_cons_succ, List.set_cons_zero]
  refine wpAnyH_take (i := 6) (oi := _) (v := .int .i64 (s'.l0.len : Int)) rfl (by kernel_rfl) (by kernel_rfl) (by kernel_rfl) (fun _ _ _ h => h) (Or.inl ⟨by rfl, fun w' hSw => by have xx := hSw.1.cells; have cc := hSw.2.cells; go_simp⟩) hHeld ?_
  try simp only [Act.put, List.getElem_toArray, List.getElem_cons_succ, List.getElem_cons_zero, List.setIfInBounds_toArray, List.set_cons_succ, List.set_cons_zero]
  refine wpAnyH_take (i := 7) (oi := _) (v := .pointer (some ⟨w.heap.size, 6, none⟩)) rfl (by kernel_rfl) (by kernel_rfl) (by kernel_rfl) (fun _ _ _ h => h) (Or.inl ⟨by rfl, fun w' hSw => by have xx := hSw.1.cells; have cc := hSw.2.cells; go_simp⟩) hHeld ?_
  try simp only [Act.put, List.getElem_toArray, List.getElem_cons_succ, List.getElem_cons_zero, List.setIfInBounds_toArray, List.set_cons_succ, List.set_cons_zero]
  refine wpAnyH_take (i := 8) (oi := _) (v := .int .i64 c.bg) rfl (by kernel_rfl) (by kernel_rfl) (by kernel_rfl) (fun _ _ _ h => h) (Or.inl ⟨by rfl, fun w' hSw => by have xx := hSw.1.cells; have cc := hSw.2.cells; go_simp⟩) hHeld ?_
  try simp only [Act.put, List.getElem_toArray, List.getElem_cons_succ, List.getElem_cons_zero, List.setIfInBounds_toArray, List.set_cons_succ, List.set_cons_zero]
  refine wpAnyH_take (i := 9) (oi := _) (v := .bool (decide ((s'.l0.len : Int) < c.bg))) rfl (by kernel_rfl) (by kernel_rfl) (by kernel_rfl) (fun _ _ _ h => h) (Or.inl ⟨by rfl, fun w' hSw => by have xx := hSw.1.cells; have cc := hSw.2.cells; go_simp⟩) hHeld ?_
  try simp only [Act.put, List.getElem_toArray, List.getElem_cons_succ, List.getElem_cons_zero, List.setIfInBounds_toArray, List.set_cons_succ, List.set_cons_zero]
  refine wpAnyH_ready (rs := [10]) (by kernel_rfl) (by simp) ?_
  refine AllReadyH.cons (o := _) rfl (fun K hK => ?_) AllReadyH.nil
  refine step_row rfl 63 _ _ rfl (w.heap.size + 1 + 1) (wc s') rfl rfl _ _ (by exact TD.Z) (by kernel_rfl) (by kernel_rfl) (by kernel_rfl) ?_
  refine hK.out _ _ ⟨(TD.rowZ s').X, hHeld.2.setRow_far (by omega) _⟩ (fun hHeld2 => ?_)
  clear hK K
  try simp only [Act.put, List.getElem_toArray, List.getElem_cons_succ, List.getElem_cons_zero, List.setIfInBounds_toArray, List.set_cons_succ, List.set_cons_zero]
  refine wpAnyH_take (i := 11) (oi := _) (v := .bool (decide ((s'.l0.len : Int) < c.bg))) rfl (by kernel_rfl) (by kernel_rfl) (by kernel_rfl) (fun _ _ _ h => h) (Or.inl ⟨by rfl, fun w' hSw => by go_simp⟩) hHeld2 ?_
  try simp only [Act.put, List.getElem_toArray, List.getElem_cons_succ, List.getElem_cons_zero, List.setIfInBounds_toArray, List.set_cons_succ, List.set_cons_zero]
  refine wpAnyH_done (by kernel_rfl) ?_ _
  have T3 := TD.rowZ s'
  go_wp2
  refine bodyPost_ret (v := .tuple #[wv s', .bool (decide (((prep0 x).l0.length : Int) < c.bg))]) ?_ rfl ⟨_, rfl, ?_, T3.below⟩
  · rw [← HLEN.out]
    exact Rw.results_cell_slot (p := 4) (q := 5) (ty := 63) Try.results36 _ _ (w.heap.size + 1 + 1) 63 _ (0, 0) _ rfl T3.Z Try.underlying63 rfl (by kernel_rfl)
  · exact (((A2.keep (w' := w2.drew) (Below.drew (Below.refl _ _))).setRow (g := w.heap.size + 1 + 1) (by omega) (wc s')).lies)
set_option maxRecDepth 100000 in
set_option maxHeartbeats 4000000 in
theorem bagRoom1 (c : Cfg) (s : Wk) (x : St) (hx : Few 900 x) (w : World) (h : Lies w s x) (hM : tagOf x % 3 = 1) :
    Calls Try.prog 36 #[cv c, wv s] w fun e w' => ∃ s', e = .returned (.tuple #[wv s', .bool (decide (((prep1 x).l1.length : Int) < c.bg))]) ∧ Lies w' s' (prep1 x) ∧ Below w.heap.size w w' := by
  have eL : ∀ s : Wk, (wc s)[14]? = some (.slice s.l1.ad s.l1.len s.l1.cap) := fun _ => rfl
  have hw0 : Below w.heap.size w (w.alloc (.cells (ccW c) 24)) := (Below.refl _ _).alloc (Nat.le_refl _) _
  have T0 := Two.startAt hw0 s
  have C0 := (((Bk.new w (ccW c) 24).alloc (.cells (wc s) 63)).alloc (.cells (wc wz) 63))
  rw [show (w.alloc (.cells (ccW c) 24)).heap.size = w.heap.size + 1 by simp] at T0
  have b0 := T0.lt
  have bc := C0.lt
  go_enter Try.func36, Try.ntmps36
  go_wp2_with (refine wpList_load_row rfl 63 _ rfl (w.heap.size + 1) rfl _ (wc s) (0, 0) _ (by exact T0.X) Try.underlying63 rfl (by kernel_rfl) ?_)
  refine (prepare1 s x hx _ (h.keep T0.below) hM).mono ?_
  rintro e w1 ⟨s', rfl, A1, hb1⟩
  have T1 := T0.keep hb1
  have b1 := T1.lt
  have T2 := T1.rowX s'
  have A2 := A1.setRow (g := w.heap.size + 1) (by omega) (wc s')
  have C2 := (C0.keep hb1).setRow_far (g' := w.heap.size + 1) (by omega) (wc s')
  have hlen := reads_len A1.l1.reads
  have HLEN := Lib.hid hlen
  have hs1 : (((w.alloc (Obj.cells (ccW c) 24)).alloc (Obj.cells (wc s) 63)).alloc (Obj.cells (wc wz) 63)).heap.size ≤ w1.heap.size := hb1.size
  clear C0 T0 hb1 hlen
  go_wp2_with (refine wpList_store_row rfl 63 _ _ rfl (w.heap.size + 1) (wc s') rfl rfl _ _ (by exact T1.X) (by kernel_rfl) (by kernel_rfl) (by kernel_rfl) ?_)
  obtain ⟨w2, hw2⟩ : ∃ w2, w2 = w1.setRow (w.heap.size + 1) (wc s') := ⟨_, rfl⟩
  rw [← hw2] at T2 A2 C2 ⊢
  clear hw2 T1
  have eL := eL s'
  have hS0 : Bk w2.drew (w.heap.size + 1) (wc s') 63 ∧ Bk w2.drew (w.heap.size) (ccW c) 24 := ⟨T2.X.keep (Below.drew (Below.refl _ _)), C2.keep (Below.drew (Below.refl _ _))⟩
  have TD := T2.keep (w' := w2.drew) (Below.drew (Below.refl _ _))
  refine wp_region_held_drew (S := fun w' => Bk w' (w.heap.size + 1) (wc s') 63 ∧ Bk w' (w.heap.size) (ccW c) 24) (by kernel_rfl) hS0 (fun hHeld => ?_)
  clear hS0
  refine wpAnyH_take (i := 0) (oi := _) (v := .agg (wc s')) rfl (by kernel_rfl) (by kernel_rfl) (by kernel_rfl) (fun _ _ _ h => h) (yieldsIf_row rfl 63 _ rfl (w.heap.size + 1) rfl (wc s') 63 _ (fun w' hw' => hw'.1) Try.underlying63 rfl (by kernel_rfl)) hHeld ?_
  try simp only [Act.put, List.getElem_toArray, List.getElem_cons_succ, List.getElem_cons_zero, List.setIfInBounds_toArray, List.set_cons_succ, List.set_cons_zero]
  refine wpAnyH_take (i := 1) (oi := _) (v := .int .i64 1) rfl (by kernel_rfl) (by kernel_rfl) (by kernel_rfl) (fun _ _ _ h => h) (Or.inl ⟨by rfl, fun w' hSw => by have xx := hSw.1.cells; have cc := hSw.2.cells; go_simp⟩) hHeld ?_
  try simp only [Act.put, List.getElem_toArray, List.getElem_cons_succ, List.getElem_cons_zero, List.setIfInBounds_toArray, List.set_cons_succ, List.set_cons_zero]
  refine wpAnyH_take (i := 2) (oi := _) (v := .pointer (some ⟨w.heap.size + 1, 11, none⟩)) rfl (by kernel_rfl) (by kernel_rfl) (by kernel_rfl) (fun _ _ _ h => h) (Or.inl ⟨by rfl, fun w' hSw => by have xx := hSw.1.cells; have cc := hSw.2.cells; go_simp⟩) hHeld ?_
  try simp only [Act.put, List.getElem_toArray, List.getElem_cons_succ, List.getElem_cons_zero, List.setIfInBounds_toArray, List.set_cons_succ, List.set_cons_zero]
  refine wpAnyH_take (i := 3) (oi := _) (v := .pointer (some ⟨w.heap.size + 1, 13, none⟩)) rfl (by kernel_rfl) (by kernel_rfl) (by kernel_rfl) (fun _ _ _ h => h) (Or.inl ⟨by rfl, fun w' hSw => by have xx := hSw.1.cells; have cc := hSw.2.cells; go_simp⟩) hHeld ?_
  try simp only [Act.put, List.getElem_toArray, List.getElem_cons_succ, List.getElem_cons_zero, List.setIfInBounds_toArray, List.set_cons_succ, List.set_cons_zero]
  refine wpAnyH_take (i := 4) (oi := _) (v := .pointer (some ⟨w.heap.size + 1, 14, none⟩)) rfl (by kernel_rfl) (by kernel_rfl) (by kernel_rfl) (fun _ _ _ h => h) (Or.inl ⟨by rfl, fun w' hSw => by have xx := hSw.1.cells; have cc := hSw.2.cells; go_simp⟩) hHeld ?_
  try simp only [Act.put, List.getElem_toArray, List.getElem_cons_succ, List.getElem_cons_zero, List.setIfInBounds_toArray, List.set_cons_succ, List.set_cons_zero]
  refine wpAnyH_take (i := 5) (oi := _) (v := .slice s'.l1.ad s'.l1.len s'.l1.cap) rfl (by kernel_rfl) (by kernel_rfl) (by kernel_rfl) (fun _ _ _ h => h) (Or.inl ⟨by rfl, fun w' hSw => by have xx := hSw.1.cells; have cc := hSw.2.cells; go_simp⟩) hHeld ?_
  try simp only [Act.put, List.getElem_toArray, List.getElem_cons_succ, List.getElem_cons_zero, List.setIfInBounds_toArray, List.set_cons_succ, List.set_cons_zero]
  refine wpAnyH_take (i := 6) (oi := _) (v := .int .i64 (s'.l1.len : Int)) rfl (by kernel_rfl) (by kernel_rfl) (by kernel_rfl) (fun _ _ _ h => h) (Or.inl ⟨by rfl, fun w' hSw => by have xx := hSw.1.cells; have cc := hSw.2.cells; go_simp⟩) hHeld ?_
  try simp only [Act.put, List.getElem_toArray, List.getElem_cons_succ, List.getElem_cons_zero, List.setIfInBounds_toArray, List.set_cons_succ, List.set_cons_zero]
  refine wpAnyH_take (i := 7) (oi := _) (v := .pointer (some ⟨w.heap.size, 6, none⟩)) rfl (by kernel_rfl) (by kernel_rfl) (by kernel_rfl) (fun _ _ _ h => h) (Or.inl ⟨by rfl, fun w' hSw => by have xx := hSw.1.cells; have cc := hSw.2.cells; go_simp⟩) hHeld ?_
  try simp only [Act.put, List.getElem_toArray, List.getElem_cons_succ, List.getElem_cons_zero, List.setIfInBounds_toArray, List.set_cons_succ, List.set_cons_zero]
  refine wpAnyH_take (i := 8) (oi := _) (v := .int .i64 c.bg) rfl (by kernel_rfl) (by kernel_rfl) (by kernel_rfl) (fun _ _ _ h => h) (Or.inl ⟨by rfl, fun w' hSw => by have xx := hSw.1.cells; have cc := hSw.2.cells; go_simp⟩) hHeld ?_
  try simp only [Act.put, List.getElem_toArray, List.getElem_cons_succ, List.getElem_cons_zero, List.setIfInBounds_toArray, List.set_cons_succ, List.set_cons_zero]
  refine wpAnyH_take (i := 9) (oi := _) (v := .bool (decide ((s'.l1.len : Int) < c.bg))) rfl (by kernel_rfl) (by kernel_rfl) (by kernel_rfl) (fun _ _ _ h => h) (Or.inl ⟨by rfl, fun w' hSw => by have xx := hSw.1.cells; have cc := hSw.2.cells; go_simp⟩) hHeld ?_
  try simp only [Act.put, List.getElem_toArray, List.getElem_cons_succ, List.getElem_cons_zero, List.setIfInBounds_toArray, List.set_cons_succ, List.set_cons_zero]
  refine wpAnyH_ready (rs := [10]) (by kernel_rfl) (by simp) ?_
  refine AllReadyH.cons (o := _) rfl (fun K hK => ?_) AllReadyH.nil
  refine step_row rfl 63 _ _ rfl (w.heap.size + 1 + 1) (wc s') rfl rfl _ _ (by exact TD.Z) (by kernel_rfl) (by kernel_rfl) (by kernel_rfl) ?_
  refine hK.out _ _ ⟨(TD.rowZ s').X, hHeld.2.setRow_far (by omega) _⟩ (fun hHeld2 => ?_)
  clear hK K
  try simp only [Act.put, List.getElem_toArray, List.getElem_cons_succ, List.getElem_cons_zero, List.setIfInBounds_toArray, List.set_cons_succ, List.set_cons_zero]
  refine wpAnyH_take (i := 11) (oi := _) (v := .bool (decide ((s'.l1.len : Int) < c.bg))) rfl (by kernel_rfl) (by kernel_rfl) (by kernel_rfl) (fun _ _ _ h => h) (Or.inl ⟨by rfl, fun w' hSw => by go_simp⟩) hHeld2 ?_
  try simp only [Act.put, List.getElem_toArray, List.getElem_cons_succ, List.getElem_cons_zero, List.setIfInBounds_toArray, List.set_cons_succ, List.set_cons_zero]
  refine wpAnyH_done (by kernel_rfl) ?_ _
  have T3 := TD.rowZ s'
  go_wp2
  refine bodyPost_ret (v := .tuple #[wv s', .bool (decide (((prep1 x).l1.length : Int) < c.bg))]) ?_ rfl ⟨_, rfl, ?_, T3.below⟩
  · rw [← HLEN.out]
    exact Rw.results_cell_slot (p := 4) (q := 5) (ty := 63) Try.results36 _ _ (w.heap.size + 1 + 1) 63 _ (0, 0) _ rfl T3.Z Try.underlying63 rfl (by kernel_rfl)
  · exact (((A2.keep (w' := w2.drew) (Below.drew (Below.refl _ _))).setRow (g := w.heap.size + 1 + 1) (by omega) (wc s')).lies)
set_option maxRecDepth 100000 in
set_option maxHeartbeats 4000000 in
theorem bagRoom2 (c : Cfg) (s : Wk) (x : St) (hx : Few 900 x) (w : World) (h : Lies w s x) (hM : tagOf x % 3 = 2) :
    Calls Try.prog 36 #[cv c, wv s] w fun e w' => ∃ s', e = .returned (.tuple #[wv s', .bool (decide (((prep2 x).l2.length : Int) < c.bg))]) ∧ Lies w' s' (prep2 x) ∧ Below w.heap.size w w' := by
  have eL : ∀ s : Wk, (wc s)[16]? = some (.slice s.l2.ad s.l2.len s.l2.cap) := fun _ => rfl
  have hw0 : Below w.heap.size w (w.alloc (.cells (ccW c) 24)) := (Below.refl _ _).alloc (Nat.le_refl _) _
  have T0 := Two.startAt hw0 s
  have C0 := (((Bk.new w (ccW c) 24).alloc (.cells (wc s) 63)).alloc (.cells (wc wz) 63))
  rw [show (w.alloc (.cells (ccW c) 24)).heap.size = w.heap.size + 1 by simp] at T0
  have b0 := T0.lt
  have bc := C0.lt
  go_enter Try.func36, Try.ntmps36
  go_wp2_with (refine wpList_load_row rfl 63 _ rfl (w.heap.size + 1) rfl _ (wc s) (0, 0) _ (by exact T0.X) Try.underlying63 rfl (by kernel_rfl) ?_)
  refine (prepare2 s x hx _ (h.keep T0.below) hM).mono ?_
  rintro e w1 ⟨s', rfl, A1, hb1⟩
  have T1 := T0.keep hb1
  have b1 := T1.lt
  have T2 := T1.rowX s'
  have A2 := A1.setRow (g := w.heap.size + 1) (by omega) (wc s')
  have C2 := (C0.keep hb1).setRow_far (g' := w.heap.size + 1) (by omega) (wc s')
  have hlen := reads_len A1.l2.reads
  have HLEN := Lib.hid hlen
  have hs1 : (((w.alloc (Obj.cells (ccW c) 24)).alloc (Obj.cells (wc s) 63)).alloc (Obj.cells (wc wz) 63)).heap.size ≤ w1.heap.size := hb1.size
  clear C0 T0 hb1 hlen
  go_wp2_with (refine wpList_store_row rfl 63 _ _ rfl (w.heap.size + 1) (wc s') rfl rfl _ _ (by exact T1.X) (by kernel_rfl) (by kernel_rfl) (by kernel_rfl) ?_)
  obtain ⟨w2, hw2⟩ : ∃ w2, w2 = w1.setRow (w.heap.size + 1) (wc s') := ⟨_, rfl⟩
  rw [← hw2] at T2 A2 C2 ⊢
  clear hw2 T1
  have eL := eL s'
  have hS0 : Bk w2.drew (w.heap.size + 1) (wc s') 63 ∧ Bk w2.drew (w.heap.size) (ccW c) 24 := ⟨T2.X.keep (Below.drew (Below.refl _ _)), C2.keep (Below.drew (Below.refl _ _))⟩
  have TD := T2.keep (w' := w2.drew) (Below.drew (Below.refl _ _))
  refine wp_region_held_drew (S := fun w' => Bk w' (w.heap.size + 1) (wc s') 63 ∧ Bk w' (w.heap.size) (ccW c) 24) (by kernel_rfl) hS0 (fun hHeld => ?_)
  clear hS0
  refine wpAnyH_take (i := 0) (oi := _) (v := .agg (wc s')) rfl (by kernel_rfl) (by kernel_rfl) (by kernel_rfl) (fun _ _ _ h => h) (yieldsIf_row rfl 63 _ rfl (w.heap.size + 1) rfl (wc s') 63 _ (fun w' hw' => hw'.1) Try.underlying63 rfl (by kernel_rfl)) hHeld ?_
  try simp only [Act.put, List.getElem_toArray, List.getElem_cons_succ, List.getElem_cons_zero, List.setIfInBounds_toArray, List.set_cons_succ, List.set_cons_zero]
  refine wpAnyH_take (i := 1) (oi := _) (v := .int .i64 2) rfl (by kernel_rfl) (by kernel_rfl) (by kernel_rfl) (fun _ _ _ h => h) (Or.inl ⟨by rfl, fun w' hSw => by have xx := hSw.1.cells; have cc := hSw.2.cells; go_simp⟩) hHeld ?_
  try simp only [Act.put, List.getElem_toArray, List.getElem_cons_succ, List.getElem_cons_zero, List.setIfInBounds_toArray, List.set_cons_succ, List.set_cons_zero]
  refine wpAnyH_take (i := 2) (oi := _) (v := .pointer (some ⟨w.heap.size + 1, 11, none⟩)) rfl (by kernel_rfl) (by kernel_rfl) (by kernel_rfl) (fun _ _ _ h => h) (Or.inl ⟨by rfl, fun w' hSw => by have xx := hSw.1.cells; have cc := hSw.2.cells; go_simp⟩) hHeld ?_
  try simp only [Act.put, List.getElem_toArray, List.getElem_cons_succ, List.getElem_cons_zero, List.setIfInBounds_toArray, List.set_cons_succ, List.set_cons_zero]
  refine wpAnyH_take (i := 3) (oi := _) (v := .pointer (some ⟨w.heap.size + 1, 15, none⟩)) rfl (by kernel_rfl) (by kernel_rfl) (by kernel_rfl) (fun _ _ _ h => h) (Or.inl ⟨by rfl, fun w' hSw => by have xx := hSw.1.cells; have cc := hSw.2.cells; go_simp⟩) hHeld ?_
  try simp only [Act.put, List.getElem_toArray, List.getElem_cons_succ, List.getElem_cons_zero, List.setIfInBounds_toArray, List.set_cons_succ, List.set_cons_zero]
  refine wpAnyH_take (i := 4) (oi := _) (v := .pointer (some ⟨w.heap.size + 1, 16, none⟩)) rfl (by kernel_rfl) (by kernel_rfl) (by kernel_rfl) (fun _ _ _ h => h) (Or.inl ⟨by rfl, fun w' hSw => by have xx := hSw.1.cells; have cc := hSw.2.cells; go_simp⟩) hHeld ?_
  try simp only [Act.put, List.getElem_toArray, List.getElem_cons_succ, List.getElem_cons_zero, List.setIfInBounds_toArray, List.set_cons_succ, List.set_cons_zero]
  refine wpAnyH_take (i := 5) (oi := _) (v := .slice s'.l2.ad s'.l2.len s'.l2.cap) rfl (by kernel_rfl) (by kernel_rfl) (by kernel_rfl) (fun _ _ _ h => h) (Or.inl ⟨by rfl, fun w' hSw => by have xx := hSw.1.cells; have cc := hSw.2.cells; go_simp⟩) hHeld ?_
  try simp only [Act.put, List.getElem_toArray, List.getElem_cons_succ, List.getElem_cons_zero, List.setIfInBounds_toArray, List.set_cons_succ, List.set_cons_zero]
  refine wpAnyH_take (i := 6) (oi := _) (v := .int .i64 (s'.l2.len : Int)) rfl (by kernel_rfl) (by kernel_rfl) (by kernel_rfl) (fun _ _ _ h => h) (Or.inl ⟨by rfl, fun w' hSw => by have xx := hSw.1.cells; have cc := hSw.2.cells; go_simp⟩) hHeld ?_
  try simp only [Act.put, List.getElem_toArray, List.getElem_cons_succ, List.getElem_cons_zero, List.setIfInBounds_toArray, List.set_cons_succ, List.set_cons_zero]
  refine wpAnyH_take (i := 7) (oi := _) (v := .pointer (some ⟨w.heap.size, 6, none⟩)) rfl (by kernel_rfl) (by kernel_rfl) (by kernel_rfl) (fun _ _ _ h => h) (Or.inl ⟨by rfl, fun w' hSw => by have xx := hSw.1.cells; have cc := hSw.2.cells; go_simp⟩) hHeld ?_
  try simp only [Act.put, List.getElem_toArray, List.getElem_cons_succ, List.getElem_cons_zero, List.setIfInBounds_toArray, List.set_cons_succ, List.set_cons_zero]
  refine wpAnyH_take (i := 8) (oi := _) (v := .int .i64 c.bg) rfl (by kernel_rfl) (by kernel_rfl) (by kernel_rfl) (fun _ _ _ h => h) (Or.inl ⟨by rfl, fun w' hSw => by have xx := hSw.1.cells; have cc := hSw.2.cells; go_simp⟩) hHeld ?_
  try simp only [Act.put, List.getElem_toArray, List.getElem_cons_succ, List.getElem_cons_zero, List.setIfInBounds_toArray, List.set_cons_succ, List.set_cons_zero]
  refine wpAnyH_take (i := 9) (oi := _) (v := .bool (decide ((s'.l2.len : Int) < c.bg))) rfl (by kernel_rfl) (by kernel_rfl) (by kernel_rfl) (fun _ _ _ h => h) (Or.inl ⟨by rfl, fun w' hSw => by have xx := hSw.1.cells; have cc := hSw.2.cells; go_simp⟩) hHeld ?_
  try simp only [Act.put, List.getElem_toArray, List.getElem_cons_succ, List.getElem_cons_zero, List.setIfInBounds_toArray, List.set_cons_succ, List.set_cons_zero]
  refine wpAnyH_ready (rs := [10]) (by kernel_rfl) (by simp) ?_
  refine AllReadyH.cons (o := _) rfl (fun K hK => ?_) AllReadyH.nil
  refine step_row rfl 63 _ _ rfl (w.heap.size + 1 + 1) (wc s') rfl rfl _ _ (by exact TD.Z) (by kernel_rfl) (by kernel_rfl) (by kernel_rfl) ?_
  refine hK.out _ _ ⟨(TD.rowZ s').X, hHeld.2.setRow_far (by omega) _⟩ (fun hHeld2 => ?_)
  clear hK K
  try simp only [Act.put, List.getElem_toArray, List.getElem_cons_succ, List.getElem_cons_zero, List.setIfInBounds_toArray, List.set_cons_succ, List.set_cons_zero]
  refine wpAnyH_take (i := 11) (oi := _) (v := .bool (decide ((s'.l2.len : Int) < c.bg))) rfl (by kernel_rfl) (by kernel_rfl) (by kernel_rfl) (fun _ _ _ h => h) (Or.inl ⟨by rfl, fun w' hSw => by go_simp⟩) hHeld2 ?_
  try simp only [Act.put, List.getElem_toArray, List.getElem_cons_succ, List.getElem_cons_zero, List.setIfInBounds_toArray, List.set_cons_succ, List.set_cons_zero]
  refine wpAnyH_done (by kernel_rfl) ?_ _
  have T3 := TD.rowZ s'
  go_wp2
  refine bodyPost_ret (v := .tuple #[wv s', .bool (decide (((prep2 x).l2.length : Int) < c.bg))]) ?_ rfl ⟨_, rfl, ?_, T3.below⟩
  · rw [← HLEN.out]
    exact Rw.results_cell_slot (p := 4) (q := 5) (ty := 63) Try.results36 _ _ (w.heap.size + 1 + 1) 63 _ (0, 0) _ rfl T3.Z Try.underlying63 rfl (by kernel_rfl)
  · exact (((A2.keep (w' := w2.drew) (Below.drew (Below.refl _ _))).setRow (g := w.heap.size + 1 + 1) (by omega) (wc s')).lies)
/-- Room as a function of data. -/
def roomB (m : Int) (x : St) : St × Bool :=
  if tagOf x % 3 = 0 then (prep0 x, decide (((prep0 x).l0.length : Int) < m)) else if tagOf x % 3 = 1 then (prep1 x, decide (((prep1 x).l1.length : Int) < m)) else (prep2 x, decide (((prep2 x).l2.length : Int) < m))
theorem bagRoomC (c : Cfg) (s : Wk) (x : St) (hx : Few 900 x) (w : World) (h : Lies w s x) :
    Calls Try.prog 36 #[cv c, wv s] w fun e w' => ∃ s', e = .returned (.tuple #[wv s', .bool (roomB c.bg x).2]) ∧ Lies w' s' (roomB c.bg x).1 ∧ Below w.heap.size w w' := by
  have ht := (tag_range x).1
  unfold roomB
  by_cases h0 : tagOf x % 3 = 0
  · rw [if_pos h0]; exact bagRoom0 c s x hx w h h0
  · rw [if_neg h0]
    by_cases h1 : tagOf x % 3 = 1
    · rw [if_pos h1]; exact bagRoom1 c s x hx w h h1
    · rw [if_neg h1]; exact bagRoom2 c s x hx w h (by omega)
theorem refRoom0 (c : Cfg) (s : Wk) (x : St) (hx : Few 900 x) (w : World) (h : Lies w s x) (hM : tagOf x % 3 = 0) :
    Calls Try.prog 37 #[cv c, wv s] w fun e w' => ∃ s', e = .returned (.tuple #[wv s', .bool (decide (((prep0 x).l0.length : Int) < c.bg))]) ∧ Lies w' s' (prep0 x) ∧ Kin w s x s' (prep0 x) ∧ Below w.heap.size w w' := by
  have hW : IntKind.u64.wrap (s.p.ep + 1) = tagOf x := by rw [h.p]; rfl
  by_cases hT : x.p.t0 = tagOf x
  · rw [prep0, if_pos hT]
    exact refRoom0_same c s x hx w h (tagOf x) hW (tag_range x).1 hM (by rw [h.p]; exact hT)
  · rw [prep0, if_neg hT]
    exact refRoom0_other c s x hx w h (tagOf x) hW (tag_range x).1 hM (by rw [h.p]; exact hT)
theorem refRoom1 (c : Cfg) (s : Wk) (x : St) (hx : Few 900 x) (w : World) (h : Lies w s x) (hM : tagOf x % 3 = 1) :
    Calls Try.prog 37 #[cv c, wv s] w fun e w' => ∃ s', e = .returned (.tuple #[wv s', .bool (decide (((prep1 x).l1.length : Int) < c.bg))]) ∧ Lies w' s' (prep1 x) ∧ Kin w s x s' (prep1 x) ∧ Below w.heap.size w w' := by
  have hW : IntKind.u64.wrap (s.p.ep + 1) = tagOf x := by rw [h.p]; rfl
  by_cases hT : x.p.t1 = tagOf x
  · rw [prep1, if_pos hT]
    exact refRoom1_same c s x hx w h (tagOf x) hW (tag_range x).1 hM (by rw [h.p]; exact hT)
  · rw [prep1, if_neg hT]
    exact refRoom1_other c s x hx w h (tagOf x) hW (tag_range x).1 hM (by rw [h.p]; exact hT)
theorem refRoom2 (c : Cfg) (s : Wk) (x : St) (hx : Few 900 x) (w : World) (h : Lies w s x) (hM : tagOf x % 3 = 2) :
    Calls Try.prog 37 #[cv c, wv s] w fun e w' => ∃ s', e = .returned (.tuple #[wv s', .bool (decide (((prep2 x).l2.length : Int) < c.bg))]) ∧ Lies w' s' (prep2 x) ∧ Kin w s x s' (prep2 x) ∧ Below w.heap.size w w' := by
  have hW : IntKind.u64.wrap (s.p.ep + 1) = tagOf x := by rw [h.p]; rfl
  by_cases hT : x.p.t2 = tagOf x
  · rw [prep2, if_pos hT]
    exact refRoom2_same c s x hx w h (tagOf x) hW (tag_range x).1 hM (by rw [h.p]; exact hT)
  · rw [prep2, if_neg hT]
    exact refRoom2_other c s x hx w h (tagOf x) hW (tag_range x).1 hM (by rw [h.p]; exact hT)
theorem refRoom (c : Cfg) (s : Wk) (x : St) (hx : Few 900 x) (w : World) (h : Lies w s x) :
    Calls Try.prog 37 #[cv c, wv s] w fun e w' => ∃ s', e = .returned (.tuple #[wv s', .bool (roomB c.bg x).2]) ∧ Lies w' s' (roomB c.bg x).1 ∧ Kin w s x s' (roomB c.bg x).1 ∧ Below w.heap.size w w' := by
  have ht := (tag_range x).1
  unfold roomB
  by_cases h0 : tagOf x % 3 = 0
  · rw [if_pos h0]; exact refRoom0 c s x hx w h h0
  · rw [if_neg h0]
    by_cases h1 : tagOf x % 3 = 1
    · rw [if_pos h1]; exact refRoom1 c s x hx w h h1
    · rw [if_neg h1]; exact refRoom2 c s x hx w h (by omega)
end Go.Proofs.Ytkplkhcboobfaaa.Wo
