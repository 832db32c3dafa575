/- Part WorkFol4. -/
import Derived.Test.YtaiodbcnbcdokaaGreatKBags
import Derived.Test.YtaiodbcnbcdokaaGreatKWorkFol2
set_option linter.unusedVariables false
set_option linter.unusedSimpArgs false
set_option linter.unusedSectionVars false
set_option maxRecDepth 100000
set_option maxHeartbeats 16000000
section
namespace Go.Proofs.YtaiodbcnbcdokaaGreat.Wo
open Go Go.RowKit Gro Own Wd Ap Go.Proofs.YtaiodbcnbcdokaaGreat.Pl
def roomB (m : Int) (x : St) : St × Bool :=
 if cB x % 3 = 0 then (eY x, decide (((eY x).l0.length : Int) < m)) else if cB x % 3 = 1 then (eX x, decide (((eX x).l1.length : Int) < m)) else (eU x, decide (((eU x).l2.length : Int) < m))
theorem bagRoomF0 (c : Cfg) (s : Wk) (x : St) (hx : Few 900 x) (w : World) (h : aP w s x) (hM : cB x % 3 = 0) :
  Calls Tryz.prog 174 #[cv c, wv s] w fun e w' => ∃ s', e = .returned (.tuple #[wv s', .bool (decide (((eY x).l0.length : Int) < c.bg))]) ∧ aQ w.heap.size w' s' (eY x) ∧ Below w.heap.size w w' := by
 have eL : ∀ s : Wk, (wc s)[12]? = some (.slice s.l0.ad s.l0.len s.l0.cap) := fun _ => rfl
 have hw0 : Below w.heap.size w (w.alloc (.cells (ccW c) 24)) := (Below.refl _ _).alloc (Nat.le_refl _) _
 have T0 := Two.aY hw0 s
 have C0 := (((Bk.new w (ccW c) 24).alloc (.cells (wc s) 46)).alloc (.cells (wc wz) 46))
 rw [show (w.alloc (.cells (ccW c) 24)).heap.size = w.heap.size + 1 by simp] at T0
 have b0 := T0.lt
 have bc := C0.lt
 go_enter Tryz.func174, Tryz.ntmps174
 go_wp2_with (refine wpList_load_row rfl 46 _ rfl (w.heap.size + 1) rfl _ (wc s) (0, 0) _ bT Tryz.underlying46 rfl ah ?_)
 refine (prepare0 s x hx _ (h.keep T0.below) hM).mono ?_
 rintro e w1 ⟨s', rfl, A1, hb1⟩
 have T1 := T0.keep hb1
 have b1 := T1.lt
 have T2 := T1.bO s'
 have A2 := A1.setRow (g := w.heap.size + 1) aj (wc s')
 have C2 := (C0.keep hb1).aJ (g' := w.heap.size + 1) aj (wc s')
 have hlen := bI A1.l0.reads
 have HLEN := Lib.hid hlen
 have hs1 : (((w.alloc (Obj.cells (ccW c) 24)).alloc (Obj.cells (wc s) 46)).alloc (Obj.cells (wc wz) 46)).heap.size ≤ w1.heap.size := hb1.size
 clear C0 T0 hb1 hlen
 go_wp2_with (refine wpList_store_row rfl 46 _ _ rfl (w.heap.size + 1) (wc s') rfl rfl _ _ dG ah ah ah ?_)
 obtain ⟨w2, hw2⟩ : ∃ w2, w2 = w1.setRow (w.heap.size + 1) (wc s') := ⟨_, rfl⟩
 rw [← hw2] at T2 A2 C2 ⊢
 clear hw2 T1
 have eL := eL s'
 have hS0 : Bk w2.drew (w.heap.size + 1) (wc s') 46 ∧ Bk w2.drew (w.heap.size) (ccW c) 24 := ⟨T2.X.keep (Below.drew (Below.refl _ _)), C2.keep (Below.drew (Below.refl _ _))⟩
 have TD := T2.keep (w' := w2.drew) (Below.drew (Below.refl _ _))
 refine wp_region_held_drew (S := fun w' => Bk w' (w.heap.size + 1) (wc s') 46 ∧ Bk w' (w.heap.size) (ccW c) 24) ah hS0 (fun hHeld => ?_)
 clear hS0
 refine jY 0 (.agg (wc s')) rfl (bV rfl 46 _ rfl (w.heap.size + 1) rfl (wc s') 46 _ (fun w' hw' => hw'.1) Tryz.underlying46 rfl ah) hHeld ?_
 try simp only [Act.put, jP]
 refine jY 1 (.int .i64 0) rfl (Or.inl ⟨by rfl, fun w' hSw => by have xx := hSw.1.cells; have cc := hSw.2.cells; go_simp⟩) hHeld ?_
 try simp only [Act.put, jP]
 refine jY 2 (.pointer (some ⟨w.heap.size + 1, 11, none⟩)) rfl (Or.inl ⟨by rfl, fun w' hSw => by have xx := hSw.1.cells; have cc := hSw.2.cells; go_simp⟩) hHeld ?_
 try simp only [Act.put, jP]
 refine jY 3 (.pointer (some ⟨w.heap.size + 1, 11, none⟩)) rfl (Or.inl ⟨by rfl, fun w' hSw => by have xx := hSw.1.cells; have cc := hSw.2.cells; go_simp⟩) hHeld ?_
 try simp only [Act.put, jP]
 refine jY 4 (.pointer (some ⟨w.heap.size + 1, 12, none⟩)) rfl (Or.inl ⟨by rfl, fun w' hSw => by have xx := hSw.1.cells; have cc := hSw.2.cells; go_simp⟩) hHeld ?_
 try simp only [Act.put, jP]
 refine jY 5 (.slice s'.l0.ad s'.l0.len s'.l0.cap) rfl (Or.inl ⟨by rfl, fun w' hSw => by have xx := hSw.1.cells; have cc := hSw.2.cells; go_simp⟩) hHeld ?_
 try simp only [Act.put, jP]
 refine jY 6 (.int .i64 (s'.l0.len : Int)) rfl (Or.inl ⟨by rfl, fun w' hSw => by have xx := hSw.1.cells; have cc := hSw.2.cells; go_simp⟩) hHeld ?_
 try simp only [Act.put, jP]
 refine jY 7 (.pointer (some ⟨w.heap.size, 6, none⟩)) rfl (Or.inl ⟨by rfl, fun w' hSw => by have xx := hSw.1.cells; have cc := hSw.2.cells; go_simp⟩) hHeld ?_
 try simp only [Act.put, jP]
 refine jY 8 (.int .i64 c.bg) rfl (Or.inl ⟨by rfl, fun w' hSw => by have xx := hSw.1.cells; have cc := hSw.2.cells; go_simp⟩) hHeld ?_
 try simp only [Act.put, jP]
 refine jY 9 (.bool (decide ((s'.l0.len : Int) < c.bg))) rfl (Or.inl ⟨by rfl, fun w' hSw => by have xx := hSw.1.cells; have cc := hSw.2.cells; go_simp⟩) hHeld ?_
 try simp only [Act.put, jP]
 refine jR [10] ?_
 refine jC rfl (fun K hK => ?_) jN
 refine dh rfl 46 _ _ rfl (w.heap.size + 1 + 1) (wc s') rfl rfl _ _ (by exact TD.Z) ah ah ah ?_
 refine hK.out _ _ ⟨(TD.bN s').X, hHeld.2.aJ aj _⟩ (fun gJ => ?_)
 clear hK K
 try simp only [Act.put, jP]
 refine jY 11 (.bool (decide ((s'.l0.len : Int) < c.bg))) rfl (Or.inl ⟨by rfl, fun w' hSw => by go_simp⟩) gJ ?_
 try simp only [Act.put, jP]
 refine wpAnyH_done ah ?_ _
 have T3 := TD.bN s'
 go_wp2
 refine bodyPost_ret (v := .tuple #[wv s', .bool (decide (((eY x).l0.length : Int) < c.bg))]) ?_ rfl ⟨_, rfl, ?_, T3.below⟩
 ·exact qa3
 ·exact qa4
theorem bagRoomF1 (c : Cfg) (s : Wk) (x : St) (hx : Few 900 x) (w : World) (h : aP w s x) (hM : cB x % 3 = 1) :
  Calls Tryz.prog 174 #[cv c, wv s] w fun e w' => ∃ s', e = .returned (.tuple #[wv s', .bool (decide (((eX x).l1.length : Int) < c.bg))]) ∧ aQ w.heap.size w' s' (eX x) ∧ Below w.heap.size w w' := by
 have eL : ∀ s : Wk, (wc s)[14]? = some (.slice s.l1.ad s.l1.len s.l1.cap) := fun _ => rfl
 have hw0 : Below w.heap.size w (w.alloc (.cells (ccW c) 24)) := (Below.refl _ _).alloc (Nat.le_refl _) _
 have T0 := Two.aY hw0 s
 have C0 := (((Bk.new w (ccW c) 24).alloc (.cells (wc s) 46)).alloc (.cells (wc wz) 46))
 rw [show (w.alloc (.cells (ccW c) 24)).heap.size = w.heap.size + 1 by simp] at T0
 have b0 := T0.lt
 have bc := C0.lt
 go_enter Tryz.func174, Tryz.ntmps174
 go_wp2_with (refine wpList_load_row rfl 46 _ rfl (w.heap.size + 1) rfl _ (wc s) (0, 0) _ bT Tryz.underlying46 rfl ah ?_)
 refine (prepare1 s x hx _ (h.keep T0.below) hM).mono ?_
 rintro e w1 ⟨s', rfl, A1, hb1⟩
 have T1 := T0.keep hb1
 have b1 := T1.lt
 have T2 := T1.bO s'
 have A2 := A1.setRow (g := w.heap.size + 1) aj (wc s')
 have C2 := (C0.keep hb1).aJ (g' := w.heap.size + 1) aj (wc s')
 have hlen := bI A1.l1.reads
 have HLEN := Lib.hid hlen
 have hs1 : (((w.alloc (Obj.cells (ccW c) 24)).alloc (Obj.cells (wc s) 46)).alloc (Obj.cells (wc wz) 46)).heap.size ≤ w1.heap.size := hb1.size
 clear C0 T0 hb1 hlen
 go_wp2_with (refine wpList_store_row rfl 46 _ _ rfl (w.heap.size + 1) (wc s') rfl rfl _ _ dG ah ah ah ?_)
 obtain ⟨w2, hw2⟩ : ∃ w2, w2 = w1.setRow (w.heap.size + 1) (wc s') := ⟨_, rfl⟩
 rw [← hw2] at T2 A2 C2 ⊢
 clear hw2 T1
 have eL := eL s'
 have hS0 : Bk w2.drew (w.heap.size + 1) (wc s') 46 ∧ Bk w2.drew (w.heap.size) (ccW c) 24 := ⟨T2.X.keep (Below.drew (Below.refl _ _)), C2.keep (Below.drew (Below.refl _ _))⟩
 have TD := T2.keep (w' := w2.drew) (Below.drew (Below.refl _ _))
 refine wp_region_held_drew (S := fun w' => Bk w' (w.heap.size + 1) (wc s') 46 ∧ Bk w' (w.heap.size) (ccW c) 24) ah hS0 (fun hHeld => ?_)
 clear hS0
 refine jY 0 (.agg (wc s')) rfl (bV rfl 46 _ rfl (w.heap.size + 1) rfl (wc s') 46 _ (fun w' hw' => hw'.1) Tryz.underlying46 rfl ah) hHeld ?_
 try simp only [Act.put, jP]
 refine jY 1 (.int .i64 1) rfl (Or.inl ⟨by rfl, fun w' hSw => by have xx := hSw.1.cells; have cc := hSw.2.cells; go_simp⟩) hHeld ?_
 try simp only [Act.put, jP]
 refine jY 2 (.pointer (some ⟨w.heap.size + 1, 11, none⟩)) rfl (Or.inl ⟨by rfl, fun w' hSw => by have xx := hSw.1.cells; have cc := hSw.2.cells; go_simp⟩) hHeld ?_
 try simp only [Act.put, jP]
 refine jY 3 (.pointer (some ⟨w.heap.size + 1, 13, none⟩)) rfl (Or.inl ⟨by rfl, fun w' hSw => by have xx := hSw.1.cells; have cc := hSw.2.cells; go_simp⟩) hHeld ?_
 try simp only [Act.put, jP]
 refine jY 4 (.pointer (some ⟨w.heap.size + 1, 14, none⟩)) rfl (Or.inl ⟨by rfl, fun w' hSw => by have xx := hSw.1.cells; have cc := hSw.2.cells; go_simp⟩) hHeld ?_
 try simp only [Act.put, jP]
 refine jY 5 (.slice s'.l1.ad s'.l1.len s'.l1.cap) rfl (Or.inl ⟨by rfl, fun w' hSw => by have xx := hSw.1.cells; have cc := hSw.2.cells; go_simp⟩) hHeld ?_
 try simp only [Act.put, jP]
 refine jY 6 (.int .i64 (s'.l1.len : Int)) rfl (Or.inl ⟨by rfl, fun w' hSw => by have xx := hSw.1.cells; have cc := hSw.2.cells; go_simp⟩) hHeld ?_
 try simp only [Act.put, jP]
 refine jY 7 (.pointer (some ⟨w.heap.size, 6, none⟩)) rfl (Or.inl ⟨by rfl, fun w' hSw => by have xx := hSw.1.cells; have cc := hSw.2.cells; go_simp⟩) hHeld ?_
 try simp only [Act.put, jP]
 refine jY 8 (.int .i64 c.bg) rfl (Or.inl ⟨by rfl, fun w' hSw => by have xx := hSw.1.cells; have cc := hSw.2.cells; go_simp⟩) hHeld ?_
 try simp only [Act.put, jP]
 refine jY 9 (.bool (decide ((s'.l1.len : Int) < c.bg))) rfl (Or.inl ⟨by rfl, fun w' hSw => by have xx := hSw.1.cells; have cc := hSw.2.cells; go_simp⟩) hHeld ?_
 try simp only [Act.put, jP]
 refine jR [10] ?_
 refine jC rfl (fun K hK => ?_) jN
 refine dh rfl 46 _ _ rfl (w.heap.size + 1 + 1) (wc s') rfl rfl _ _ (by exact TD.Z) ah ah ah ?_
 refine hK.out _ _ ⟨(TD.bN s').X, hHeld.2.aJ aj _⟩ (fun gJ => ?_)
 clear hK K
 try simp only [Act.put, jP]
 refine jY 11 (.bool (decide ((s'.l1.len : Int) < c.bg))) rfl (Or.inl ⟨by rfl, fun w' hSw => by go_simp⟩) gJ ?_
 try simp only [Act.put, jP]
 refine wpAnyH_done ah ?_ _
 have T3 := TD.bN s'
 go_wp2
 refine bodyPost_ret (v := .tuple #[wv s', .bool (decide (((eX x).l1.length : Int) < c.bg))]) ?_ rfl ⟨_, rfl, ?_, T3.below⟩
 ·exact qa3
 ·exact qa4
theorem bagRoomF2 (c : Cfg) (s : Wk) (x : St) (hx : Few 900 x) (w : World) (h : aP w s x) (hM : cB x % 3 = 2) :
  Calls Tryz.prog 174 #[cv c, wv s] w fun e w' => ∃ s', e = .returned (.tuple #[wv s', .bool (decide (((eU x).l2.length : Int) < c.bg))]) ∧ aQ w.heap.size w' s' (eU x) ∧ Below w.heap.size w w' := by
 have eL : ∀ s : Wk, (wc s)[16]? = some (.slice s.l2.ad s.l2.len s.l2.cap) := fun _ => rfl
 have hw0 : Below w.heap.size w (w.alloc (.cells (ccW c) 24)) := (Below.refl _ _).alloc (Nat.le_refl _) _
 have T0 := Two.aY hw0 s
 have C0 := (((Bk.new w (ccW c) 24).alloc (.cells (wc s) 46)).alloc (.cells (wc wz) 46))
 rw [show (w.alloc (.cells (ccW c) 24)).heap.size = w.heap.size + 1 by simp] at T0
 have b0 := T0.lt
 have bc := C0.lt
 go_enter Tryz.func174, Tryz.ntmps174
 go_wp2_with (refine wpList_load_row rfl 46 _ rfl (w.heap.size + 1) rfl _ (wc s) (0, 0) _ bT Tryz.underlying46 rfl ah ?_)
 refine (prepare2 s x hx _ (h.keep T0.below) hM).mono ?_
 rintro e w1 ⟨s', rfl, A1, hb1⟩
 have T1 := T0.keep hb1
 have b1 := T1.lt
 have T2 := T1.bO s'
 have A2 := A1.setRow (g := w.heap.size + 1) aj (wc s')
 have C2 := (C0.keep hb1).aJ (g' := w.heap.size + 1) aj (wc s')
 have hlen := bI A1.l2.reads
 have HLEN := Lib.hid hlen
 have hs1 : (((w.alloc (Obj.cells (ccW c) 24)).alloc (Obj.cells (wc s) 46)).alloc (Obj.cells (wc wz) 46)).heap.size ≤ w1.heap.size := hb1.size
 clear C0 T0 hb1 hlen
 go_wp2_with (refine wpList_store_row rfl 46 _ _ rfl (w.heap.size + 1) (wc s') rfl rfl _ _ dG ah ah ah ?_)
 obtain ⟨w2, hw2⟩ : ∃ w2, w2 = w1.setRow (w.heap.size + 1) (wc s') := ⟨_, rfl⟩
 rw [← hw2] at T2 A2 C2 ⊢
 clear hw2 T1
 have eL := eL s'
 have hS0 : Bk w2.drew (w.heap.size + 1) (wc s') 46 ∧ Bk w2.drew (w.heap.size) (ccW c) 24 := ⟨T2.X.keep (Below.drew (Below.refl _ _)), C2.keep (Below.drew (Below.refl _ _))⟩
 have TD := T2.keep (w' := w2.drew) (Below.drew (Below.refl _ _))
 refine wp_region_held_drew (S := fun w' => Bk w' (w.heap.size + 1) (wc s') 46 ∧ Bk w' (w.heap.size) (ccW c) 24) ah hS0 (fun hHeld => ?_)
 clear hS0
 refine jY 0 (.agg (wc s')) rfl (bV rfl 46 _ rfl (w.heap.size + 1) rfl (wc s') 46 _ (fun w' hw' => hw'.1) Tryz.underlying46 rfl ah) hHeld ?_
 try simp only [Act.put, jP]
 refine jY 1 (.int .i64 2) rfl (Or.inl ⟨by rfl, fun w' hSw => by have xx := hSw.1.cells; have cc := hSw.2.cells; go_simp⟩) hHeld ?_
 try simp only [Act.put, jP]
 refine jY 2 (.pointer (some ⟨w.heap.size + 1, 11, none⟩)) rfl (Or.inl ⟨by rfl, fun w' hSw => by have xx := hSw.1.cells; have cc := hSw.2.cells; go_simp⟩) hHeld ?_
 try simp only [Act.put, jP]
 refine jY 3 (.pointer (some ⟨w.heap.size + 1, 15, none⟩)) rfl (Or.inl ⟨by rfl, fun w' hSw => by have xx := hSw.1.cells; have cc := hSw.2.cells; go_simp⟩) hHeld ?_
 try simp only [Act.put, jP]
 refine jY 4 (.pointer (some ⟨w.heap.size + 1, 16, none⟩)) rfl (Or.inl ⟨by rfl, fun w' hSw => by have xx := hSw.1.cells; have cc := hSw.2.cells; go_simp⟩) hHeld ?_
 try simp only [Act.put, jP]
 refine jY 5 (.slice s'.l2.ad s'.l2.len s'.l2.cap) rfl (Or.inl ⟨by rfl, fun w' hSw => by have xx := hSw.1.cells; have cc := hSw.2.cells; go_simp⟩) hHeld ?_
 try simp only [Act.put, jP]
 refine jY 6 (.int .i64 (s'.l2.len : Int)) rfl (Or.inl ⟨by rfl, fun w' hSw => by have xx := hSw.1.cells; have cc := hSw.2.cells; go_simp⟩) hHeld ?_
 try simp only [Act.put, jP]
 refine jY 7 (.pointer (some ⟨w.heap.size, 6, none⟩)) rfl (Or.inl ⟨by rfl, fun w' hSw => by have xx := hSw.1.cells; have cc := hSw.2.cells; go_simp⟩) hHeld ?_
 try simp only [Act.put, jP]
 refine jY 8 (.int .i64 c.bg) rfl (Or.inl ⟨by rfl, fun w' hSw => by have xx := hSw.1.cells; have cc := hSw.2.cells; go_simp⟩) hHeld ?_
 try simp only [Act.put, jP]
 refine jY 9 (.bool (decide ((s'.l2.len : Int) < c.bg))) rfl (Or.inl ⟨by rfl, fun w' hSw => by have xx := hSw.1.cells; have cc := hSw.2.cells; go_simp⟩) hHeld ?_
 try simp only [Act.put, jP]
 refine jR [10] ?_
 refine jC rfl (fun K hK => ?_) jN
 refine dh rfl 46 _ _ rfl (w.heap.size + 1 + 1) (wc s') rfl rfl _ _ (by exact TD.Z) ah ah ah ?_
 refine hK.out _ _ ⟨(TD.bN s').X, hHeld.2.aJ aj _⟩ (fun gJ => ?_)
 clear hK K
 try simp only [Act.put, jP]
 refine jY 11 (.bool (decide ((s'.l2.len : Int) < c.bg))) rfl (Or.inl ⟨by rfl, fun w' hSw => by go_simp⟩) gJ ?_
 try simp only [Act.put, jP]
 refine wpAnyH_done ah ?_ _
 have T3 := TD.bN s'
 go_wp2
 refine bodyPost_ret (v := .tuple #[wv s', .bool (decide (((eU x).l2.length : Int) < c.bg))]) ?_ rfl ⟨_, rfl, ?_, T3.below⟩
 ·exact qa3
 ·exact qa4
theorem bagRoomFC (c : Cfg) (s : Wk) (x : St) (hx : Few 900 x) (w : World) (h : aP w s x) :
  Calls Tryz.prog 174 #[cv c, wv s] w fun e w' => ∃ s', e = .returned (.tuple #[wv s', .bool (roomB c.bg x).2]) ∧ aQ w.heap.size w' s' (roomB c.bg x).1 ∧ Below w.heap.size w w' := by
 have ht := (gN x).1
 unfold roomB
 by_cases h0 : cB x % 3 = 0
 ·rw [if_pos h0]; exact bagRoomF0 c s x hx w h h0
 ·rw [if_neg h0]
  by_cases h1 : cB x % 3 = 1
  ·rw [if_pos h1]; exact bagRoomF1 c s x hx w h h1
  ·rw [if_neg h1]; exact bagRoomF2 c s x hx w h aj
end Go.Proofs.YtaiodbcnbcdokaaGreat.Wo
end
section
namespace Go.Proofs.YtaiodbcnbcdokaaGreat.Me
open Go Go.RowKit Go.ChangeMaps Gro Own Wd Ap Go.Proofs.YtaiodbcnbcdokaaGreat.Pl Wo Mr
def roomS (c : Cfg) (l : Int) (x : St) : St := if (roomB c.bg x).2 = true then atS (roomB c.bg x).1 l else bS 6 (roomB c.bg x).1
theorem fRoomW (c : Cfg) {P : Nat → Prop} {w : World} {s : Wk} {x : St} (hP : ∀ b, w.heap.size ≤ b → P b) (A : aM P w s x) (hx : Few 900 x) (hx8 : Few 800 (roomB c.bg x).1) {a : Nat} {n : Int} (K : Bk w a #[.int .i64 n] 3) :
  Calls Tryz.prog 173 #[cv c, wv s, .pointer (some ⟨a, 0, none⟩)] w (FW P w (roomS c n x)) := by
 unfold roomS
 cases hr : (roomB c.bg x).2 with
 | true =>
  rw [if_pos rfl]
  have hbc : Below w.heap.size w (w.alloc (.cells (ccM c) 24)) := (Below.refl _ _).alloc (Nat.le_refl _) _
  have cO : (w.alloc (.cells (ccM c) 24)).heap.size = w.heap.size + 1 := aF
  have T0 := Two.aY hbc s
  rw [cO] at T0
  have AQ := (A.mono (Q := fun b => P b ∧ b ≠ w.heap.size + 1 ∧ b ≠ w.heap.size + 1 + 1) (fun b hb q => ⟨q, by omega, by omega⟩)).keep T0.below
  obtain ⟨v0, hv0⟩ : ∃ u, u = ((w.alloc (.cells (ccM c) 24)).alloc (.cells (wc s) 46)).alloc (.cells (wc wz) 46) := ⟨_, rfl⟩
  rw [← hv0] at T0 AQ
  have x0 := T0.X.cells
  have z0 := T0.X.frozen
  have C0 : Bk v0 w.heap.size (ccM c) 24 := qa6y
  have lt0 := T0.lt
  have ls0 := T0.below.size
  have la := K.lt
  have KK := (K.keep (T0.below))
  have HRM := Lib.hid (bagRoomFC c s x hx _ AQ.lies)
  rw [hr] at HRM
  clear hr
  go_enter Tryz.func173, Tryz.ntmps173
  go_wp2_with (first | ((with_reducible refine au rfl rfl ?_); rw [← hv0]; clear hv0) | (refine wpList_load_row rfl 46 _ rfl (w.heap.size + 1) rfl _ (wc s) (0, 0) _ bT Tryz.underlying46 rfl ah ?_) | (refine wpList_load_row rfl 24 _ rfl w.heap.size rfl _ (ccM c) (0, 0) _ qa6z Tryz.underlying24 rfl ah ?_))
  refine HRM.out.mono ?_
  rintro en w5 ⟨s5, rfl, A5, hb5⟩
  have T5 := T0.keep hb5
  have l5 := T5.lt
  have l7 := hb5.size
  have T6 := T5.bO s5
  have A6 := (aM.of (P := (fun b => P b ∧ b ≠ w.heap.size + 1 ∧ b ≠ w.heap.size + 1 + 1)) A5 (fun b _ q => ⟨hP b aj, by omega, by omega⟩)).row (g := w.heap.size + 1) (fun q => q.2.1 rfl) (wc s5)
  have K6 := (KK.keep hb5).aJ (g' := w.heap.size + 1) aj (wc s5)
  obtain ⟨w6, hw6⟩ : ∃ u, u = w5.setRow (w.heap.size + 1) (wc s5) := ⟨_, rfl⟩
  have l8 : w6.heap.size = w5.heap.size := qa6g
  rw [← hw6] at T6 A6 K6
  have k6 := K6.cells
  clear A5 hb5 HRM x0 z0 C0 AQ KK
  have HC := Lib.hid (fAt (P := (fun b => P b ∧ b ≠ w.heap.size + 1 ∧ b ≠ w.heap.size + 1 + 1)) (fun b hb => ⟨hP b aj, by omega, by omega⟩) A6 n)
  go_wp2_with (first | (refine wpList_store_row rfl 46 _ _ rfl (w.heap.size + 1) (wc s5) rfl rfl _ _ qa6f ah ah ah ?_; rw [← hw6]; clear hw6 T5) | (refine wpList_load_row rfl 46 _ rfl (w.heap.size + 1) rfl _ (wc s5) (0, 0) _ qa6h Tryz.underlying46 rfl ah ?_))
  refine HC.out.mono ?_
  rintro e w9 ⟨s9, rfl, A9, hb9⟩
  have T9 := T6.keep hb9
  go_wp2_with (first | (refine wpList_store_row rfl 46 _ _ rfl (w.heap.size + 1 + 1) (wc s9) rfl rfl _ _ eP ah ah ah ?_))
  have ZF := T9.bN s9
  refine bodyPost_ret (v := wv s9) ?_ rfl ⟨s9, rfl, ((A9.row (g := w.heap.size + 1 + 1) (fun q => q.2.2 rfl) _).mono (fun b _ q => q.1)), ZF.below⟩
  exact results_cell_row (p := 5) (ty := 46) Tryz.results173 _ _ (w.heap.size + 1 + 1) 46 _ (0, 0) _ rfl ZF.Z Tryz.underlying46 rfl ah
 | false =>
  rw [if_neg aL]
  have hbc : Below w.heap.size w (w.alloc (.cells (ccM c) 24)) := (Below.refl _ _).alloc (Nat.le_refl _) _
  have cO : (w.alloc (.cells (ccM c) 24)).heap.size = w.heap.size + 1 := aF
  have T0 := Two.aY hbc s
  rw [cO] at T0
  have AQ := (A.mono (Q := fun b => P b ∧ b ≠ w.heap.size + 1 ∧ b ≠ w.heap.size + 1 + 1) (fun b hb q => ⟨q, by omega, by omega⟩)).keep T0.below
  obtain ⟨v0, hv0⟩ : ∃ u, u = ((w.alloc (.cells (ccM c) 24)).alloc (.cells (wc s) 46)).alloc (.cells (wc wz) 46) := ⟨_, rfl⟩
  rw [← hv0] at T0 AQ
  have x0 := T0.X.cells
  have z0 := T0.X.frozen
  have C0 : Bk v0 w.heap.size (ccM c) 24 := qa6y
  have lt0 := T0.lt
  have ls0 := T0.below.size
  have la := K.lt
  have KK := (K.keep (T0.below))
  have HRM := Lib.hid (bagRoomFC c s x hx _ AQ.lies)
  rw [hr] at HRM
  clear hr
  go_enter Tryz.func173, Tryz.ntmps173
  go_wp2_with (first | ((with_reducible refine au rfl rfl ?_); rw [← hv0]; clear hv0) | (refine wpList_load_row rfl 46 _ rfl (w.heap.size + 1) rfl _ (wc s) (0, 0) _ bT Tryz.underlying46 rfl ah ?_) | (refine wpList_load_row rfl 24 _ rfl w.heap.size rfl _ (ccM c) (0, 0) _ qa6z Tryz.underlying24 rfl ah ?_))
  refine HRM.out.mono ?_
  rintro en w5 ⟨s5, rfl, A5, hb5⟩
  have T5 := T0.keep hb5
  have l5 := T5.lt
  have l7 := hb5.size
  have T6 := T5.bO s5
  have A6 := (aM.of (P := (fun b => P b ∧ b ≠ w.heap.size + 1 ∧ b ≠ w.heap.size + 1 + 1)) A5 (fun b _ q => ⟨hP b aj, by omega, by omega⟩)).row (g := w.heap.size + 1) (fun q => q.2.1 rfl) (wc s5)
  have K6 := (KK.keep hb5).aJ (g' := w.heap.size + 1) aj (wc s5)
  obtain ⟨w6, hw6⟩ : ∃ u, u = w5.setRow (w.heap.size + 1) (wc s5) := ⟨_, rfl⟩
  have l8 : w6.heap.size = w5.heap.size := qa6g
  rw [← hw6] at T6 A6 K6
  have k6 := K6.cells
  clear A5 hb5 HRM x0 z0 C0 AQ KK
  have HC := Lib.hid (fFail (P := (fun b => P b ∧ b ≠ w.heap.size + 1 ∧ b ≠ w.heap.size + 1 + 1)) (fun b hb => ⟨hP b aj, by omega, by omega⟩) A6 (hx8.mono aj) hx8 6)
  go_wp2_with (first | (refine wpList_store_row rfl 46 _ _ rfl (w.heap.size + 1) (wc s5) rfl rfl _ _ qa6f ah ah ah ?_; rw [← hw6]; clear hw6 T5) | (refine wpList_load_row rfl 46 _ rfl (w.heap.size + 1) rfl _ (wc s5) (0, 0) _ qa6h Tryz.underlying46 rfl ah ?_))
  refine HC.out.mono ?_
  rintro e w9 ⟨s9, rfl, A9, hb9⟩
  have T9 := T6.keep hb9
  go_wp2_with (first | (refine wpList_store_row rfl 46 _ _ rfl (w.heap.size + 1 + 1) (wc s9) rfl rfl _ _ eP ah ah ah ?_))
  have ZF := T9.bN s9
  refine bodyPost_ret (v := wv s9) ?_ rfl ⟨s9, rfl, ((A9.row (g := w.heap.size + 1 + 1) (fun q => q.2.2 rfl) _).mono (fun b _ q => q.1)), ZF.below⟩
  exact results_cell_row (p := 5) (ty := 46) Tryz.results173 _ _ (w.heap.size + 1 + 1) 46 _ (0, 0) _ rfl ZF.Z Tryz.underlying46 rfl ah
end Go.Proofs.YtaiodbcnbcdokaaGreat.Me
end
