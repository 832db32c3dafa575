/- The law BagPuts, walked (made by genbagputs.py). -/
import Derived.Test.YtkplkhcboobfaaaBagAwake
import Derived.Test.YtkplkhcboobfaaaRef05Put
import Derived.Test.YtkplkhcboobfaaaRef05Ripe
import Derived.Test.YtkplkhcboobfaaaBagWaitsC
import Derived.IntWalk
namespace Go.Proofs.Ytkplkhcboobfaaa.Wo
open Go Go.RowKit Go.Proofs.Ytkplkhcboobfaaa.Gro Go.Proofs.Ytkplkhcboobfaaa.Own Go.Proofs.Ytkplkhcboobfaaa.Wd Go.Proofs.Ytkplkhcboobfaaa.Ap Go.Proofs.Ytkplkhcboobfaaa.Pl
set_option linter.unusedVariables false
set_option linter.unusedSimpArgs false
theorem yieldsIf_row_w {P : Program} {ops : Array Oper} {S : World → Prop} {a : Act} {o : Oper} (hgw : Region.wanted o (yielded ops a.tmps) = true) (ty : TypeId) (x : Operand) (ho : o.op = .load ty x) (g : Nat) (hx : a.eval x = .pointer (some ⟨g, 0, none⟩)) (cs : Array Value) (t : TypeId) (d : TypeDesc)
    (hC : ∀ w, S w → Bk w g cs t) (hu : P.underlying ty = some d) (hd : (match d with | .struct _ | .array _ _ => true | _ => false) = true) (hi : (P.info? ty).map (·.size) = some cs.size) : YieldsIf P ops S o (.agg cs) a := by
  refine Or.inl ⟨hgw, fun w hw => ?_⟩
  unfold execOp
  simp only [ho, hx, Instr.loadAt, Instr.sureAddr, Sem.run_bind, Sem.run_pure, Result.andThen_ok, run_loadVar_row w g t ty cs (0, 0) d (hC w hw) hu hd hi]
theorem wq_no {W0 : Bool} {l : List Int} {k : Nat} {b y : Int} (h : false = (W0 || decide (b ∈ l.take k))) (hne : ¬ y = b) (hts : l.take (k + 1) = l.take k ++ [y]) : false = (W0 || decide (b ∈ l.take (k + 1))) := by
  rw [hts]
  cases W0
  · have h1 : ¬ b ∈ l.take k := by simpa using h.symm
    have h2 : ¬ b ∈ l.take k ++ [y] := by
      rw [List.mem_append, List.mem_singleton]
      rintro (q | q)
      · exact h1 q
      · exact hne q.symm
    rw [decide_eq_false h2]; rfl
  · rw [Bool.true_or] at h; cases h
theorem wq_old {W0 : Bool} {l : List Int} {k : Nat} {b y : Int} (h : true = (W0 || decide (b ∈ l.take k))) (hts : l.take (k + 1) = l.take k ++ [y]) : true = (W0 || decide (b ∈ l.take (k + 1))) := by
  rw [hts]
  cases W0
  · have h1 : b ∈ l.take k := by simpa using h.symm
    rw [decide_eq_true (List.mem_append_left _ h1)]; rfl
  · rfl
theorem wq_hit {W0 : Bool} {l : List Int} {k : Nat} {b y : Int} (h : y = b) (hts : l.take (k + 1) = l.take k ++ [y]) : true = (W0 || decide (b ∈ l.take (k + 1))) := by
  rw [hts, h, decide_eq_true (List.mem_append_right _ (List.mem_singleton.2 rfl)), Bool.or_true]
set_option maxRecDepth 100000 in
set_option maxHeartbeats 4000000 in
theorem bagPuts_great (c : Cfg) (s : Wk) (x : St) (hx : ¬ Few 40 x) (b e : Int) (w : World) (h : Lies w s x) :
    Calls Try.prog 5 #[cv c, wv s, .int .i64 b, .int .u64 e] w fun r w' => r = .returned (.bool true) ∧ Below w.heap.size w w' := by
  have E0 : Env w c [(w.heap.size + 1, s, x)] ((w.alloc (.cells (ccW c) 24)).alloc (.cells (wc s) 63)) :=
    have hb : Below w.heap.size w ((w.alloc (.cells (ccW c) 24)).alloc (.cells (wc s) 63)) := ((Below.refl _ _).alloc (Nat.le_refl _) _).alloc (by simp) _
    ⟨(Bk.new w (ccW c) 24).alloc _, (fun e he => by
      rcases List.mem_cons.1 he with rfl | he
      · have := Bk.new (w.alloc (.cells (ccW c) 24)) (wc s) 63
        exact ⟨by simpa using this, h.keep hb⟩
      · cases he), hb⟩
  go_enter Try.func5, Try.ntmps5
  go_wp2_with fail
  refine (awake5 _).mono ?_
  rintro r w1 ⟨rfl, hb1⟩
  have E1 := E0.keep hb1
  clear E0 hb1
  go_wp2_with (refine wpList_load_row rfl 63 _ rfl (w.heap.size + 1) rfl _ (wc s) (0, 0) _ (by exact (E1.bk (g := w.heap.size + 1) (s := s) (x := x) (by simp))) Try.underlying63 rfl (by kernel_rfl) ?_)
  refine (great_yes s x _ (E1.lies (g := w.heap.size + 1) (s := s) (x := x) (by simp)) hx).mono ?_
  rintro r w2 ⟨rfl, hb2⟩
  go_wp2
  go_ret
  exact ⟨rfl, (E1.keep hb2).below⟩
set_option maxRecDepth 100000 in
set_option maxHeartbeats 40000000 in
theorem bagPuts_few (c : Cfg) (s : Wk) (x : St) (hx : Few 40 x) (b e : Int) (he : e < 18446744073709551616) (w : World) (h : Lies w s x) :
    Calls Try.prog 5 #[cv c, wv s, .int .i64 b, .int .u64 e] w fun r w' => r = .returned (.bool true) ∧ Below w.heap.size w w' := by
  have hx9 := hx.mono (show 40 ≤ 900 by omega)
  have hx4 := hx.mono (show 40 ≤ 400 by omega)
  have hx2 := hx.mono (show 40 ≤ 200 by omega)
  obtain ⟨xr, hxr⟩ : ∃ q, q = (roomB c.bg x).1 := ⟨_, rfl⟩
  obtain ⟨or', hor⟩ : ∃ q, q = (roomB c.bg x).2 := ⟨_, rfl⟩
  obtain ⟨xp, hxp⟩ : ∃ q, q = (putB c.bg x b).1 := ⟨_, rfl⟩
  obtain ⟨op', hop⟩ : ∃ q, q = (putB c.bg x b).2 := ⟨_, rfl⟩
  obtain ⟨xi, hxi⟩ : ∃ q, q = ripeS x e := ⟨_, rfl⟩
  have HBR := Lib.hid (fun (s : Wk) (w : World) (h : Lies w s x) => bagRoomC c s x hx9 w h)
  have HRR := Lib.hid (fun (s : Wk) (w : World) (h : Lies w s x) => refRoom c s x hx9 w h)
  have HBP := Lib.hid (fun (s : Wk) (w : World) (h : Lies w s x) => bagPut c s x hx4 b w h)
  have HRP := Lib.hid (fun (s : Wk) (w : World) (h : Lies w s x) => refPut5 c s x hx4 b w h)
  have HBI := Lib.hid (fun (s : Wk) (w : World) (h : Lies w s x) => bagRipe s x hx2 e he w h)
  have HRI := Lib.hid (fun (s : Wk) (w : World) (h : Lies w s x) => refRipe s x hx2 e he w h)
  rw [← hxr, ← hor] at HBR HRR
  rw [← hxp, ← hop] at HBP HRP
  rw [← hxi] at HBI HRI
  clear hxr hor hxp hop hxi he
  have E0 : Env w c [(w.heap.size + 1, s, x)] ((w.alloc (.cells (ccW c) 24)).alloc (.cells (wc s) 63)) :=
    have hb : Below w.heap.size w ((w.alloc (.cells (ccW c) 24)).alloc (.cells (wc s) 63)) := ((Below.refl _ _).alloc (Nat.le_refl _) _).alloc (by simp) _
    ⟨(Bk.new w (ccW c) 24).alloc _, (fun e he => by
      rcases List.mem_cons.1 he with rfl | he
      · have := Bk.new (w.alloc (.cells (ccW c) 24)) (wc s) 63
        exact ⟨by simpa using this, h.keep hb⟩
      · cases he), hb⟩
  go_enter Try.func5, Try.ntmps5
  go_wp2_with fail
  refine (awake5 _).mono ?_
  rintro r w1 ⟨rfl, hb1⟩
  have E1 := E0.keep hb1
  clear E0 hb1
  go_wp2_with (refine wpList_load_row rfl 63 _ rfl (w.heap.size + 1) rfl _ (wc s) (0, 0) _ (by exact (E1.bk (g := w.heap.size + 1) (s := s) (x := x) (by simp))) Try.underlying63 rfl (by kernel_rfl) ?_)
  refine (great_no s x _ (E1.lies (g := w.heap.size + 1) (s := s) (x := x) (by simp)) hx).mono ?_
  rintro r w2 ⟨rfl, hb2⟩
  have E2 := E1.keep hb2
  clear E1 hb2
  go_wp2_with (refine wpList_load_row rfl 63 _ rfl (w.heap.size + 1) rfl _ (wc s) (0, 0) _ (by exact (E2.bk (g := w.heap.size + 1) (s := s) (x := x) (by simp))) Try.underlying63 rfl (by kernel_rfl) ?_)
  refine (refCopy s x hx9 _ (E2.lies (g := w.heap.size + 1) (s := s) (x := x) (by simp))).mono ?_
  rintro r w3 ⟨s3, rfl, L3, hb3⟩
  have E3 := E2.box hb3 L3.lies
  have Z3 := Bk.new w3 (wc wz) 63
  clear E2 hb3
  go_wp2_with (first | (refine wpList_alloc_wz rfl rfl ?_) | (refine wpList_store_row rfl 63 _ _ rfl (w3.heap.size) (wc s3) rfl rfl _ _ (by exact Z3) (by kernel_rfl) (by kernel_rfl) (by kernel_rfl) ?_) | (refine wpList_load_row rfl 24 _ rfl w.heap.size rfl _ (ccW c) (0, 0) _ (by exact E3.C) Try.underlying24 rfl (by kernel_rfl) ?_) | (refine wpList_load_row rfl 63 _ rfl (w.heap.size + 1) rfl _ (wc s) (0, 0) _ (by exact (E3.bk (g := w.heap.size + 1) (s := s) (x := x) (by simp))) Try.underlying63 rfl (by kernel_rfl) ?_))
  refine (HBR.out s _ (E3.lies (g := w.heap.size + 1) (s := s) (x := x) (by simp))).mono ?_
  rintro r w4 ⟨s4, rfl, L4, hb4⟩
  have E4 := E3.box hb4 L4
  have Z4 := Bk.new w4 (wc wz) 63
  clear E3 hb4
  go_wp2_with (first | (refine wpList_alloc_wz rfl rfl ?_) | (refine wpList_store_row rfl 63 _ _ rfl (w4.heap.size) (wc s4) rfl rfl _ _ (by exact Z4) (by kernel_rfl) (by kernel_rfl) (by kernel_rfl) ?_) | (refine wpList_load_row rfl 24 _ rfl w.heap.size rfl _ (ccW c) (0, 0) _ (by exact E4.C) Try.underlying24 rfl (by kernel_rfl) ?_) | (refine wpList_load_row rfl 63 _ rfl (w3.heap.size) rfl _ (wc s3) (0, 0) _ (by exact (E4.bk (g := w3.heap.size) (s := s3) (x := x) (by simp))) Try.underlying63 rfl (by kernel_rfl) ?_))
  refine (HRR.out s3 _ (E4.lies (g := w3.heap.size) (s := s3) (x := x) (by simp))).mono ?_
  rintro r w5 ⟨s5, rfl, L5, _, hb5⟩
  have E5 := E4.box hb5 L5
  have Z5 := Bk.new w5 (wc wz) 63
  clear E4 hb5
  go_wp2_with (first | (refine wpList_alloc_wz rfl rfl ?_) | (refine wpList_store_row rfl 63 _ _ rfl (w5.heap.size) (wc s5) rfl rfl _ _ (by exact Z5) (by kernel_rfl) (by kernel_rfl) (by kernel_rfl) ?_) | (refine wpList_load_row rfl 24 _ rfl w.heap.size rfl _ (ccW c) (0, 0) _ (by exact E5.C) Try.underlying24 rfl (by kernel_rfl) ?_) | (refine wpList_load_row rfl 63 _ rfl (w.heap.size + 1) rfl _ (wc s) (0, 0) _ (by exact (E5.bk (g := w.heap.size + 1) (s := s) (x := x) (by simp))) Try.underlying63 rfl (by kernel_rfl) ?_))
  refine (HBP.out s _ (E5.lies (g := w.heap.size + 1) (s := s) (x := x) (by simp))).mono ?_
  rintro r w6 ⟨s6, rfl, L6, hb6⟩
  have E6 := E5.box hb6 L6.lies
  have Z6 := Bk.new w6 (wc wz) 63
  clear E5 hb6
  go_wp2_with (first | (refine wpList_alloc_wz rfl rfl ?_) | (refine wpList_store_row rfl 63 _ _ rfl (w6.heap.size) (wc s6) rfl rfl _ _ (by exact Z6) (by kernel_rfl) (by kernel_rfl) (by kernel_rfl) ?_) | (refine wpList_load_row rfl 24 _ rfl w.heap.size rfl _ (ccW c) (0, 0) _ (by exact E6.C) Try.underlying24 rfl (by kernel_rfl) ?_) | (refine wpList_load_row rfl 63 _ rfl (w3.heap.size) rfl _ (wc s3) (0, 0) _ (by exact (E6.bk (g := w3.heap.size) (s := s3) (x := x) (by simp))) Try.underlying63 rfl (by kernel_rfl) ?_))
  refine (HRP.out s3 _ (E6.lies (g := w3.heap.size) (s := s3) (x := x) (by simp))).mono ?_
  rintro r w7 ⟨s7, rfl, L7, hb7⟩
  have E7 := E6.box hb7 L7
  have Z7 := Bk.new w7 (wc wz) 63
  clear E6 hb7
  go_wp2_with (first | (refine wpList_alloc_wz rfl rfl ?_) | (refine wpList_store_row rfl 63 _ _ rfl (w7.heap.size) (wc s7) rfl rfl _ _ (by exact Z7) (by kernel_rfl) (by kernel_rfl) (by kernel_rfl) ?_) | (refine wpList_load_row rfl 63 _ rfl (w.heap.size + 1) rfl _ (wc s) (0, 0) _ (by exact (E7.bk (g := w.heap.size + 1) (s := s) (x := x) (by simp))) Try.underlying63 rfl (by kernel_rfl) ?_))
  refine (HBI.out s _ (E7.lies (g := w.heap.size + 1) (s := s) (x := x) (by simp))).mono ?_
  rintro r w8 ⟨s8, rfl, L8, hb8⟩
  have E8 := E7.box hb8 L8.lies
  have Z8 := Bk.new w8 (wc wz) 63
  clear E7 hb8
  go_wp2_with (first | (refine wpList_alloc_wz rfl rfl ?_) | (refine wpList_store_row rfl 63 _ _ rfl (w8.heap.size) (wc s8) rfl rfl _ _ (by exact Z8) (by kernel_rfl) (by kernel_rfl) (by kernel_rfl) ?_))
  obtain ⟨us, hus⟩ : ∃ us, us = (w8.alloc (.cells (wc wz) 63)).setRow w8.heap.size (wc s8) := ⟨_, rfl⟩
  rw [← hus] at E8 ⊢
  clear hus Z3 Z4 Z5 Z6 Z7 Z8 HBR HRR HBP HRP HBI L3 L4 L5 L6 L7 L8
  have n1 : (or' != or') = false := by simp
  have n2 : (op' != op') = false := by simp
  have hsb0 : Below us.heap.size us us.drew := Below.drew (Below.refl _ _)
  have hs0 : us.drew.heap.size = us.heap.size := rfl
  refine wp_region_held_drew (S := fun w' => Below us.heap.size us w') (by kernel_rfl) hsb0 (fun hHeld => ?_)
  generalize us.drew = u0 at *
  refine wpAnyH_take (i := 0) (oi := _) (v := .bool or') rfl (by kernel_rfl) (by kernel_rfl) (by kernel_rfl) (fun _ _ _ h => h) (Or.inl ⟨by rfl, fun w' hSw => by go_simp⟩) hHeld ?_
  try simp only [Act.put, List.getElem_toArray, List.getElem_cons_succ, List.getElem_cons_zero, List.setIfInBounds_toArray, List.set_cons_succ, List.set_cons_zero]
  refine wpAnyH_take (i := 1) (oi := _) (v := .bool or') rfl (by kernel_rfl) (by kernel_rfl) (by kernel_rfl) (fun _ _ _ h => h) (Or.inl ⟨by rfl, fun w' hSw => by go_simp⟩) hHeld ?_
  try simp only [Act.put, List.getElem_toArray, List.getElem_cons_succ, List.getElem_cons_zero, List.setIfInBounds_toArray, List.set_cons_succ, List.set_cons_zero]
  refine wpAnyH_take (i := 2) (oi := _) (v := .bool false) rfl (by kernel_rfl) (by kernel_rfl) (by kernel_rfl) (fun _ _ _ h => h) (Or.inl ⟨by rfl, fun w' hSw => by go_simp⟩) hHeld ?_
  try simp only [Act.put, List.getElem_toArray, List.getElem_cons_succ, List.getElem_cons_zero, List.setIfInBounds_toArray, List.set_cons_succ, List.set_cons_zero]
  refine wpAnyH_take (i := 3) (oi := _) (v := .bool false) rfl (by kernel_rfl) (by kernel_rfl) (by kernel_rfl) (fun _ _ _ h => h) (Or.inl ⟨by rfl, fun w' hSw => by go_simp⟩) hHeld ?_
  try simp only [Act.put, List.getElem_toArray, List.getElem_cons_succ, List.getElem_cons_zero, List.setIfInBounds_toArray, List.set_cons_succ, List.set_cons_zero]
  refine wpAnyH_take (i := 4) (oi := _) (v := .bool op') rfl (by kernel_rfl) (by kernel_rfl) (by kernel_rfl) (fun _ _ _ h => h) (Or.inl ⟨by rfl, fun w' hSw => by go_simp⟩) hHeld ?_
  try simp only [Act.put, List.getElem_toArray, List.getElem_cons_succ, List.getElem_cons_zero, List.setIfInBounds_toArray, List.set_cons_succ, List.set_cons_zero]
  refine wpAnyH_take (i := 5) (oi := _) (v := .bool op') rfl (by kernel_rfl) (by kernel_rfl) (by kernel_rfl) (fun _ _ _ h => h) (Or.inl ⟨by rfl, fun w' hSw => by go_simp⟩) hHeld ?_
  try simp only [Act.put, List.getElem_toArray, List.getElem_cons_succ, List.getElem_cons_zero, List.setIfInBounds_toArray, List.set_cons_succ, List.set_cons_zero]
  refine wpAnyH_take (i := 6) (oi := _) (v := .bool false) rfl (by kernel_rfl) (by kernel_rfl) (by kernel_rfl) (fun _ _ _ h => h) (Or.inl ⟨by rfl, fun w' hSw => by go_simp⟩) hHeld ?_
  try simp only [Act.put, List.getElem_toArray, List.getElem_cons_succ, List.getElem_cons_zero, List.setIfInBounds_toArray, List.set_cons_succ, List.set_cons_zero]
  refine wpAnyH_take (i := 7) (oi := _) (v := .bool false) rfl (by kernel_rfl) (by kernel_rfl) (by kernel_rfl) (fun _ _ _ h => h) (Or.inl ⟨by rfl, fun w' hSw => by go_simp⟩) hHeld ?_
  try simp only [Act.put, List.getElem_toArray, List.getElem_cons_succ, List.getElem_cons_zero, List.setIfInBounds_toArray, List.set_cons_succ, List.set_cons_zero]
  refine wpAnyH_take (i := 8) (oi := _) (v := .bool false) rfl (by kernel_rfl) (by kernel_rfl) (by kernel_rfl) (fun _ _ _ h => h) (Or.inl ⟨by rfl, fun w' hSw => by go_simp⟩) hHeld ?_
  try simp only [Act.put, List.getElem_toArray, List.getElem_cons_succ, List.getElem_cons_zero, List.setIfInBounds_toArray, List.set_cons_succ, List.set_cons_zero]
  refine wpAnyH_take (i := 9) (oi := _) (v := .agg (wc s4)) rfl (by kernel_rfl) (by kernel_rfl) (by kernel_rfl) (fun _ _ _ h => h) (yieldsIf_row_w (by rfl) 63 _ rfl (w4.heap.size) rfl (wc s4) 63 _ (fun w' hw' => Bk.keep (E8.bk (g := w4.heap.size) (s := s4) (x := xr) (by simp)) hw') Try.underlying63 rfl (by kernel_rfl)) hHeld ?_
  try simp only [Act.put, List.getElem_toArray, List.getElem_cons_succ, List.getElem_cons_zero, List.setIfInBounds_toArray, List.set_cons_succ, List.set_cons_zero]
  refine wpAnyH_take (i := 10) (oi := _) (v := .agg (wc s5)) rfl (by kernel_rfl) (by kernel_rfl) (by kernel_rfl) (fun _ _ _ h => h) (yieldsIf_row_w (by rfl) 63 _ rfl (w5.heap.size) rfl (wc s5) 63 _ (fun w' hw' => Bk.keep (E8.bk (g := w5.heap.size) (s := s5) (x := xr) (by simp)) hw') Try.underlying63 rfl (by kernel_rfl)) hHeld ?_
  try simp only [Act.put, List.getElem_toArray, List.getElem_cons_succ, List.getElem_cons_zero, List.setIfInBounds_toArray, List.set_cons_succ, List.set_cons_zero]
  refine wpAnyH_ready (rs := [11]) (by kernel_rfl) (by simp) ?_
  refine AllReadyH.cons (o := _) rfl (fun K hK => ?_) AllReadyH.nil
  go_simp
  refine (refSame ((E8.lies (g := w4.heap.size) (s := s4) (x := xr) (by simp)).keep hHeld) ((E8.lies (g := w5.heap.size) (s := s5) (x := xr) (by simp)).keep hHeld)).mono ?_
  rintro r u1 ⟨rfl, hb⟩
  have hHeld' := hHeld.trans (hb.mono hHeld.size)
  refine hK.out _ _ hHeld' (fun hHeld => ?_)
  clear hK K hb hHeld'
  try simp only [Act.put, List.getElem_toArray, List.getElem_cons_succ, List.getElem_cons_zero, List.setIfInBounds_toArray, List.set_cons_succ, List.set_cons_zero]
  refine wpAnyH_take (i := 12) (oi := _) (v := .bool false) rfl (by kernel_rfl) (by kernel_rfl) (by kernel_rfl) (fun _ _ _ h => h) (Or.inl ⟨by rfl, fun w' hSw => by go_simp⟩) hHeld ?_
  try simp only [Act.put, List.getElem_toArray, List.getElem_cons_succ, List.getElem_cons_zero, List.setIfInBounds_toArray, List.set_cons_succ, List.set_cons_zero]
  refine wpAnyH_take (i := 13) (oi := _) (v := .bool false) rfl (by kernel_rfl) (by kernel_rfl) (by kernel_rfl) (fun _ _ _ h => h) (Or.inl ⟨by rfl, fun w' hSw => by go_simp⟩) hHeld ?_
  try simp only [Act.put, List.getElem_toArray, List.getElem_cons_succ, List.getElem_cons_zero, List.setIfInBounds_toArray, List.set_cons_succ, List.set_cons_zero]
  refine wpAnyH_take (i := 14) (oi := _) (v := .bool false) rfl (by kernel_rfl) (by kernel_rfl) (by kernel_rfl) (fun _ _ _ h => h) (Or.inl ⟨by rfl, fun w' hSw => by go_simp⟩) hHeld ?_
  try simp only [Act.put, List.getElem_toArray, List.getElem_cons_succ, List.getElem_cons_zero, List.setIfInBounds_toArray, List.set_cons_succ, List.set_cons_zero]
  refine wpAnyH_take (i := 15) (oi := _) (v := .agg (wc s6)) rfl (by kernel_rfl) (by kernel_rfl) (by kernel_rfl) (fun _ _ _ h => h) (yieldsIf_row_w (by rfl) 63 _ rfl (w6.heap.size) rfl (wc s6) 63 _ (fun w' hw' => Bk.keep (E8.bk (g := w6.heap.size) (s := s6) (x := xp) (by simp)) hw') Try.underlying63 rfl (by kernel_rfl)) hHeld ?_
  try simp only [Act.put, List.getElem_toArray, List.getElem_cons_succ, List.getElem_cons_zero, List.setIfInBounds_toArray, List.set_cons_succ, List.set_cons_zero]
  refine wpAnyH_take (i := 16) (oi := _) (v := .agg (wc s7)) rfl (by kernel_rfl) (by kernel_rfl) (by kernel_rfl) (fun _ _ _ h => h) (yieldsIf_row_w (by rfl) 63 _ rfl (w7.heap.size) rfl (wc s7) 63 _ (fun w' hw' => Bk.keep (E8.bk (g := w7.heap.size) (s := s7) (x := xp) (by simp)) hw') Try.underlying63 rfl (by kernel_rfl)) hHeld ?_
  try simp only [Act.put, List.getElem_toArray, List.getElem_cons_succ, List.getElem_cons_zero, List.setIfInBounds_toArray, List.set_cons_succ, List.set_cons_zero]
  refine wpAnyH_ready (rs := [17]) (by kernel_rfl) (by simp) ?_
  refine AllReadyH.cons (o := _) rfl (fun K hK => ?_) AllReadyH.nil
  go_simp
  refine (refSame ((E8.lies (g := w6.heap.size) (s := s6) (x := xp) (by simp)).keep hHeld) ((E8.lies (g := w7.heap.size) (s := s7) (x := xp) (by simp)).keep hHeld)).mono ?_
  rintro r u2 ⟨rfl, hb⟩
  have hHeld' := hHeld.trans (hb.mono hHeld.size)
  refine hK.out _ _ hHeld' (fun hHeld => ?_)
  clear hK K hb hHeld'
  try simp only [Act.put, List.getElem_toArray, List.getElem_cons_succ, List.getElem_cons_zero, List.setIfInBounds_toArray, List.set_cons_succ, List.set_cons_zero]
  refine wpAnyH_take (i := 18) (oi := _) (v := .bool false) rfl (by kernel_rfl) (by kernel_rfl) (by kernel_rfl) (fun _ _ _ h => h) (Or.inl ⟨by rfl, fun w' hSw => by go_simp⟩) hHeld ?_
  try simp only [Act.put, List.getElem_toArray, List.getElem_cons_succ, List.getElem_cons_zero, List.setIfInBounds_toArray, List.set_cons_succ, List.set_cons_zero]
  refine wpAnyH_take (i := 19) (oi := _) (v := .bool false) rfl (by kernel_rfl) (by kernel_rfl) (by kernel_rfl) (fun _ _ _ h => h) (Or.inl ⟨by rfl, fun w' hSw => by go_simp⟩) hHeld ?_
  try simp only [Act.put, List.getElem_toArray, List.getElem_cons_succ, List.getElem_cons_zero, List.setIfInBounds_toArray, List.set_cons_succ, List.set_cons_zero]
  refine wpAnyH_take (i := 20) (oi := _) (v := .bool false) rfl (by kernel_rfl) (by kernel_rfl) (by kernel_rfl) (fun _ _ _ h => h) (Or.inl ⟨by rfl, fun w' hSw => by go_simp⟩) hHeld ?_
  try simp only [Act.put, List.getElem_toArray, List.getElem_cons_succ, List.getElem_cons_zero, List.setIfInBounds_toArray, List.set_cons_succ, List.set_cons_zero]
  refine wpAnyH_take (i := 21) (oi := _) (v := .agg (wc s8)) rfl (by kernel_rfl) (by kernel_rfl) (by kernel_rfl) (fun _ _ _ h => h) (yieldsIf_row_w (by rfl) 63 _ rfl (w8.heap.size) rfl (wc s8) 63 _ (fun w' hw' => Bk.keep (E8.bk (g := w8.heap.size) (s := s8) (x := xi) (by simp)) hw') Try.underlying63 rfl (by kernel_rfl)) hHeld ?_
  try simp only [Act.put, List.getElem_toArray, List.getElem_cons_succ, List.getElem_cons_zero, List.setIfInBounds_toArray, List.set_cons_succ, List.set_cons_zero]
  refine wpAnyH_take (i := 22) (oi := _) (v := .agg (wc s3)) rfl (by kernel_rfl) (by kernel_rfl) (by kernel_rfl) (fun _ _ _ h => h) (yieldsIf_row_w (by rfl) 63 _ rfl (w3.heap.size) rfl (wc s3) 63 _ (fun w' hw' => Bk.keep (E8.bk (g := w3.heap.size) (s := s3) (x := x) (by simp)) hw') Try.underlying63 rfl (by kernel_rfl)) hHeld ?_
  try simp only [Act.put, List.getElem_toArray, List.getElem_cons_succ, List.getElem_cons_zero, List.setIfInBounds_toArray, List.set_cons_succ, List.set_cons_zero]
  refine wpAnyH_take (i := 23) (oi := _) (v := .int .u64 e) rfl (by kernel_rfl) (by kernel_rfl) (by kernel_rfl) (fun _ _ _ h => h) (Or.inl ⟨by rfl, fun w' hSw => by go_simp⟩) hHeld ?_
  try simp only [Act.put, List.getElem_toArray, List.getElem_cons_succ, List.getElem_cons_zero, List.setIfInBounds_toArray, List.set_cons_succ, List.set_cons_zero]
  refine wpAnyH_ready (rs := [24]) (by kernel_rfl) (by simp) ?_
  refine AllReadyH.cons (o := _) rfl (fun K hK => ?_) AllReadyH.nil
  go_simp
  refine (HRI.out s3 _ ((E8.lies (g := w3.heap.size) (s := s3) (x := x) (by simp)).keep hHeld)).mono ?_
  rintro r u3 ⟨s9, rfl, L9, hb⟩
  have hHeld' := hHeld.trans (hb.mono hHeld.size)
  refine hK.out _ _ hHeld' (fun hHeld => ?_)
  clear hK K hb hHeld'
  try simp only [Act.put, List.getElem_toArray, List.getElem_cons_succ, List.getElem_cons_zero, List.setIfInBounds_toArray, List.set_cons_succ, List.set_cons_zero]
  refine wpAnyH_ready (rs := [25]) (by kernel_rfl) (by simp) ?_
  refine AllReadyH.cons (o := _) rfl (fun K hK => ?_) AllReadyH.nil
  go_simp
  refine (refSame ((E8.lies (g := w8.heap.size) (s := s8) (x := xi) (by simp)).keep hHeld) L9).mono ?_
  rintro r u4 ⟨rfl, hb⟩
  have hHeld' := hHeld.trans (hb.mono hHeld.size)
  refine hK.out _ _ hHeld' (fun hHeld => ?_)
  clear hK K hb hHeld'
  try simp only [Act.put, List.getElem_toArray, List.getElem_cons_succ, List.getElem_cons_zero, List.setIfInBounds_toArray, List.set_cons_succ, List.set_cons_zero]
  refine wpAnyH_take (i := 26) (oi := _) (v := .bool false) rfl (by kernel_rfl) (by kernel_rfl) (by kernel_rfl) (fun _ _ _ h => h) (Or.inl ⟨by rfl, fun w' hSw => by go_simp⟩) hHeld ?_
  try simp only [Act.put, List.getElem_toArray, List.getElem_cons_succ, List.getElem_cons_zero, List.setIfInBounds_toArray, List.set_cons_succ, List.set_cons_zero]
  refine wpAnyH_take (i := 27) (oi := _) (v := .bool false) rfl (by kernel_rfl) (by kernel_rfl) (by kernel_rfl) (fun _ _ _ h => h) (Or.inl ⟨by rfl, fun w' hSw => by go_simp⟩) hHeld ?_
  try simp only [Act.put, List.getElem_toArray, List.getElem_cons_succ, List.getElem_cons_zero, List.setIfInBounds_toArray, List.set_cons_succ, List.set_cons_zero]
  refine wpAnyH_done (by kernel_rfl) ?_ _
  have E9 := E8.keep hHeld
  clear E8 hHeld hs0 hsb0 HRI n1 n2 L9
  obtain ⟨gw, hgw⟩ : ∃ g, g = w3.heap.size := ⟨_, rfl⟩
  rw [← hgw] at E9 ⊢
  clear hgw
  have LW := (E9.lies (g := gw) (s := s3) (x := x) (by simp))
  have XW := (E9.bk (g := gw) (s := s3) (x := x) (by simp))
  have xw := XW.cells
  have m0 := reads_len LW.l0
  have m1 := reads_len LW.l1
  have m2 := reads_len LW.l2
  have z0 : s3.l0.len ≤ 40 := by rw [m0]; exact hx.l0
  have z1 : s3.l1.len ≤ 40 := by rw [m1]; exact hx.l1
  have z2 : s3.l2.len ≤ 40 := by rw [m2]; exact hx.l2
  have M0 := Lib.hid m0
  have M1 := Lib.hid m1
  have M2 := Lib.hid m2
  have HLW := Lib.hid LW
  have HE := Lib.hid E9
  have e12 : (wc s3)[12]? = some (.slice s3.l0.ad s3.l0.len s3.l0.cap) := rfl
  have e14 : (wc s3)[14]? = some (.slice s3.l1.ad s3.l1.len s3.l1.cap) := rfl
  have e16 : (wc s3)[16]? = some (.slice s3.l2.ad s3.l2.len s3.l2.cap) := rfl
  clear m0 m1 m2 E9 LW XW
  go_wp2_with fail
  refine wp_loop_rounds 4 ?_
  rw [rounds_succ]
  go_wp2_with fail
  go_loop [20, 22] (fun q i => ∃ (k : Nat) (qv : Bool), k ≤ s3.l0.len ∧ i = .int .i64 k ∧ q = .bool qv ∧ qv = (false || decide (b ∈ x.l0.take k))) (fun _ i => s3.l0.len - (intOf i).toNat)
  case atStart => exact ⟨0, _, Nat.zero_le _, rfl, rfl, by simp⟩
  case round =>
    obtain ⟨k, qv, hk, rfl, rfl, hq⟩ := hrel
    have HQ := Lib.hid hq
    clear hq
    by_cases hlt : k < s3.l0.len
    · have hkx : k < x.l0.length := by have := M0.out; omega
      obtain ⟨bh, oh, had, hch⟩ := reads_at HLW.out.l0 hkx
      have qc := xw 12
      rw [e12, had] at qc
      have hsum : IntKind.i64.wrap ((k : Int) + 1) = (k : Int) + 1 := IntWalk.i64_in _ (by omega)
      have hts : RowKit.Hid (x.l0.take (k + 1) = x.l0.take k ++ [x.l0[k]]) := Lib.hid (List.take_succ_eq_append_getElem hkx)
      clear had
      cases qv
      · by_cases hb : x.l0[k] = b
        · have hbb : (x.l0[k] == b) = true := by simp [hb]
          have HB := Lib.hid hb
          clear hb
          clear xw
          go_wp2
          go_round
          case rel => exact ⟨k + 1, true, by omega, by go_num, rfl, wq_hit HB.out hts.out⟩
          case measure => simp [intOf]; omega
        · have hbb : (x.l0[k] == b) = false := by simp [hb]
          have HB := Lib.hid hb
          clear hb
          clear xw
          go_wp2
          go_round
          case rel => exact ⟨k + 1, false, by omega, by go_num, rfl, wq_no HQ.out HB.out hts.out⟩
          case measure => simp [intOf]; omega
      · clear xw
        go_wp2
        go_round
        case rel => exact ⟨k + 1, true, by omega, by go_num, rfl, wq_old HQ.out hts.out⟩
        case measure => simp [intOf]; omega
    · obtain rfl : s3.l0.len = k := by omega
      have HQ0 : RowKit.Hid (qv = (false || decide (b ∈ x.l0))) := Lib.hid (by have q1 := HQ.out; rw [M0.out, List.take_length] at q1; exact q1)
      obtain ⟨q0, hq0⟩ : ∃ q : Bool, q = qv := ⟨_, rfl⟩
      rw [← hq0] at HQ0 ⊢
      clear hlt hk HQ hq0
      go_wp2_with fail
      rw [rounds_succ]
      go_wp2_with fail
      go_loop [20, 22] (fun q i => ∃ (k : Nat) (qv : Bool), k ≤ s3.l1.len ∧ i = .int .i64 k ∧ q = .bool qv ∧ qv = (q0 || decide (b ∈ x.l1.take k))) (fun _ i => s3.l1.len - (intOf i).toNat)
      case atStart => exact ⟨0, _, Nat.zero_le _, rfl, rfl, by simp⟩
      case round =>
        obtain ⟨k, qv, hk, rfl, rfl, hq⟩ := hrel
        have HQ := Lib.hid hq
        clear hq
        by_cases hlt : k < s3.l1.len
        · have hkx : k < x.l1.length := by have := M1.out; omega
          obtain ⟨bh, oh, had, hch⟩ := reads_at HLW.out.l1 hkx
          have qc := xw 14
          rw [e14, had] at qc
          have hsum : IntKind.i64.wrap ((k : Int) + 1) = (k : Int) + 1 := IntWalk.i64_in _ (by omega)
          have hts : RowKit.Hid (x.l1.take (k + 1) = x.l1.take k ++ [x.l1[k]]) := Lib.hid (List.take_succ_eq_append_getElem hkx)
          clear had
          cases qv
          · by_cases hb : x.l1[k] = b
            · have hbb : (x.l1[k] == b) = true := by simp [hb]
              have HB := Lib.hid hb
              clear hb
              clear xw
              go_wp2
              go_round
              case rel => exact ⟨k + 1, true, by omega, by go_num, rfl, wq_hit HB.out hts.out⟩
              case measure => simp [intOf]; omega
            · have hbb : (x.l1[k] == b) = false := by simp [hb]
              have HB := Lib.hid hb
              clear hb
              clear xw
              go_wp2
              go_round
              case rel => exact ⟨k + 1, false, by omega, by go_num, rfl, wq_no HQ.out HB.out hts.out⟩
              case measure => simp [intOf]; omega
          · clear xw
            go_wp2
            go_round
            case rel => exact ⟨k + 1, true, by omega, by go_num, rfl, wq_old HQ.out hts.out⟩
            case measure => simp [intOf]; omega
        · obtain rfl : s3.l1.len = k := by omega
          have HQ1 : RowKit.Hid (qv = (q0 || decide (b ∈ x.l1))) := Lib.hid (by have q1 := HQ.out; rw [M1.out, List.take_length] at q1; exact q1)
          obtain ⟨q1, hq1⟩ : ∃ q : Bool, q = qv := ⟨_, rfl⟩
          rw [← hq1] at HQ1 ⊢
          clear hlt hk HQ hq1
          go_wp2_with fail
          rw [rounds_succ]
          go_wp2_with fail
          go_loop [20, 22] (fun q i => ∃ (k : Nat) (qv : Bool), k ≤ s3.l2.len ∧ i = .int .i64 k ∧ q = .bool qv ∧ qv = (q1 || decide (b ∈ x.l2.take k))) (fun _ i => s3.l2.len - (intOf i).toNat)
          case atStart => exact ⟨0, _, Nat.zero_le _, rfl, rfl, by simp⟩
          case round =>
            obtain ⟨k, qv, hk, rfl, rfl, hq⟩ := hrel
            have HQ := Lib.hid hq
            clear hq
            by_cases hlt : k < s3.l2.len
            · have hkx : k < x.l2.length := by have := M2.out; omega
              obtain ⟨bh, oh, had, hch⟩ := reads_at HLW.out.l2 hkx
              have qc := xw 16
              rw [e16, had] at qc
              have hsum : IntKind.i64.wrap ((k : Int) + 1) = (k : Int) + 1 := IntWalk.i64_in _ (by omega)
              have hts : RowKit.Hid (x.l2.take (k + 1) = x.l2.take k ++ [x.l2[k]]) := Lib.hid (List.take_succ_eq_append_getElem hkx)
              clear had
              cases qv
              · by_cases hb : x.l2[k] = b
                · have hbb : (x.l2[k] == b) = true := by simp [hb]
                  have HB := Lib.hid hb
                  clear hb
                  clear xw
                  go_wp2
                  go_round
                  case rel => exact ⟨k + 1, true, by omega, by go_num, rfl, wq_hit HB.out hts.out⟩
                  case measure => simp [intOf]; omega
                · have hbb : (x.l2[k] == b) = false := by simp [hb]
                  have HB := Lib.hid hb
                  clear hb
                  clear xw
                  go_wp2
                  go_round
                  case rel => exact ⟨k + 1, false, by omega, by go_num, rfl, wq_no HQ.out HB.out hts.out⟩
                  case measure => simp [intOf]; omega
              · clear xw
                go_wp2
                go_round
                case rel => exact ⟨k + 1, true, by omega, by go_num, rfl, wq_old HQ.out hts.out⟩
                case measure => simp [intOf]; omega
            · obtain rfl : s3.l2.len = k := by omega
              have HQ2 : RowKit.Hid (qv = (q1 || decide (b ∈ x.l2))) := Lib.hid (by have q1 := HQ.out; rw [M2.out, List.take_length] at q1; exact q1)
              obtain ⟨q2, hq2⟩ : ∃ q : Bool, q = qv := ⟨_, rfl⟩
              rw [← hq2] at HQ2 ⊢
              clear hlt hk HQ hq2
              go_wp2_with fail
              rw [rounds_succ]
              have E9 := HE.out
              have hcv : ((x.l0.length + x.l1.length + x.l2.length : Nat) : Int) = (s3.l0.len : Int) + (s3.l1.len : Int) + (s3.l2.len : Int) := by have := M0.out; have := M1.out; have := M2.out; omega
              have hct := bagCount s x hx9 _ (E9.lies (g := w.heap.size + 1) (s := s) (x := x) (by simp))
              rw [hcv] at hct
              have HCT := Lib.hid hct
              have hwv : (decide (b ∈ x.l0) || decide (b ∈ x.l1) || decide (b ∈ x.l2)) = q2 := by rw [HQ2.out, HQ1.out, HQ0.out]; simp
              have HWV := Lib.hid hwv
              clear hcv hct hwv xw
              go_wp2_with (refine wpList_load_row rfl 63 _ rfl (w.heap.size + 1) rfl _ (wc s) (0, 0) _ (by exact (E9.bk (g := w.heap.size + 1) (s := s) (x := x) (by simp))) Try.underlying63 rfl (by kernel_rfl) ?_)
              refine HCT.out.mono ?_
              rintro r w10 ⟨rfl, hb10⟩
              have E10 := E9.keep hb10
              clear E9 hb10 HCT
              have hwc := bagWaitsC s x hx9 b w10 (E10.lies (g := w.heap.size + 1) (s := s) (x := x) (by simp))
              rw [HWV.out] at hwc
              have HWC := Lib.hid hwc
              clear hwc
              go_wp2_with (refine wpList_load_row_w rfl 63 _ rfl (w.heap.size + 1) rfl _ (wc s) (0, 0) _ (by exact (E10.bk (g := w.heap.size + 1) (s := s) (x := x) (by simp))) Try.underlying63 rfl (by kernel_rfl) ?_)
              refine HWC.out.mono ?_
              rintro r w11 ⟨rfl, hb11⟩
              have E11 := E10.keep hb11
              clear E10 hb11 HWC
              go_wp2_with (first | (refine wpList_load_row_w rfl 63 _ rfl (w.heap.size + 1) rfl _ (wc s) (0, 0) _ (by exact (E11.bk (g := w.heap.size + 1) (s := s) (x := x) (by simp))) Try.underlying63 rfl (by kernel_rfl) ?_) | (refine wpList_load_row_w rfl 63 _ rfl (gw) rfl _ (wc s3) (0, 0) _ (by exact (E11.bk (g := gw) (s := s3) (x := x) (by simp))) Try.underlying63 rfl (by kernel_rfl) ?_))
              refine (refSame (E11.lies (g := w.heap.size + 1) (s := s) (x := x) (by simp)) (E11.lies (g := gw) (s := s3) (x := x) (by simp))).mono ?_
              rintro r w12 ⟨rfl, hb12⟩
              have E12 := E11.keep hb12
              clear E11 hb12
              go_wp2_with (first | (refine wpList_load_row_w rfl 63 _ rfl (w4.heap.size) rfl _ (wc s4) (0, 0) _ (by exact (E12.bk (g := w4.heap.size) (s := s4) (x := xr) (by simp))) Try.underlying63 rfl (by kernel_rfl) ?_) | (refine wpList_load_row_w rfl 63 _ rfl (w5.heap.size) rfl _ (wc s5) (0, 0) _ (by exact (E12.bk (g := w5.heap.size) (s := s5) (x := xr) (by simp))) Try.underlying63 rfl (by kernel_rfl) ?_))
              refine (refSame (E12.lies (g := w4.heap.size) (s := s4) (x := xr) (by simp)) (E12.lies (g := w5.heap.size) (s := s5) (x := xr) (by simp))).mono ?_
              rintro r w13 ⟨rfl, hb13⟩
              go_wp2
              go_ret
              exact ⟨rfl, (E12.keep hb13).below⟩
theorem bagPuts (c : Cfg) (s : Wk) (x : St) (b e : Int) (he : e < 18446744073709551616) (w : World) (h : Lies w s x) :
    Calls Try.prog 5 #[cv c, wv s, .int .i64 b, .int .u64 e] w fun r w' => r = .returned (.bool true) ∧ Below w.heap.size w w' := by
  by_cases hx : Few 40 x
  · exact bagPuts_few c s x hx b e he w h
  · exact bagPuts_great c s x hx b e w h
end Go.Proofs.Ytkplkhcboobfaaa.Wo
