/- The example of layer 7 (made by genei.py). -/
import Derived.Test.YtblkfbbdeodpjaaEpochLeast
namespace Go.Proofs.Ytblkfbbdeodpjaa.Me
open Go Go.RowKit Go.Proofs.Ytblkfbbdeodpjaa.Gro Go.Proofs.Ytblkfbbdeodpjaa.Own Go.Proofs.Ytblkfbbdeodpjaa.Wd Go.Proofs.Ytblkfbbdeodpjaa.Ap Go.Proofs.Ytblkfbbdeodpjaa.Pl Go.Proofs.Ytblkfbbdeodpjaa.Wo
set_option linter.unusedVariables false
set_option linter.unusedSimpArgs false
abbrev c7 : Cfg := ⟨1, 1, 1, 1, 1, 0, 1, 1⟩
theorem c7_wf : c7.Wf := ⟨by decide, by decide⟩
theorem c7_ok : Ok c7 := chk_ok.1 (by decide)
theorem build_c7 (w : World) : (Instr.build 24 #[(0, .int .i64 1), (1, .int .i64 1), (2, .int .i64 1), (3, .int .i64 1), (4, .int .i64 1), (6, .int .i64 1), (7, .int .u64 1)]).run Try.prog w = .ok (cv c7) w := run_build w _ _ _ (by kernel_rfl)
abbrev p7 : Pl := { pz with ln := 1 }
abbrev q7 : Pl := { pz with ep := 2, ln := 2 }
abbrev r7 : Pl := { pz with ep := 2, ln := 3 }
abbrev s7 : Wk := { wz with p := p7 }
theorem build_s7 (w : World) : (Instr.build 46 #[(0, .int .i64 1)]).run Try.prog w = .ok (wv s7) w := run_build w _ _ _ (by kernel_rfl)
theorem first7 : (firstL c7).length = 9 ∧ (firstL c7)[0]? = some 2 := by decide
theorem first7r : ∀ x ∈ (firstL c7).set 3 5, 0 ≤ x ∧ x < 18446744073709551616 := by decide
theorem an25 : Pk.an 2 true = 5 := by decide
theorem ann7 : aAnn c7 0 = ((3 : Nat) : Int) := by decide
theorem lies_z7 (p : Pl) (w : World) : Lies w { wz with p := p } { zS with p := p } := ⟨rfl, Reads.nil _ _, Reads.nil _ _, Reads.nil _ _, Reads.nil _ _, Reads.nil _ _, Reads.nil _ _⟩
theorem few_z7 (p : Pl) : Few 1000 { zS with p := p } := ⟨Nat.zero_le _, Nat.zero_le _, Nat.zero_le _, Nat.zero_le _, Nat.zero_le _, Nat.zero_le _⟩
section
variable {B : Nat} {w : World} {g gl cap : Nat} {a : Acc} {L : List Int} {s : Wk}
theorem step7a (M : MemAt B w g c7 a gl cap L) (hl : L.length = 9) (h2 : L[0]? = some 2) (h : Lies w s { zS with p := p7 }) : Calls Try.prog 28 #[.pointer (some ⟨g, 0, none⟩), .int .i64 0, wv s] w (SPost B g gl cap c7 L { zS with p := p7 } q7 0 true w) := by
  have e2 : L[0]'(by omega) = 2 := by rw [List.getElem?_eq_getElem (by omega)] at h2; simpa using h2
  refine epochStep0 M s _ (few_z7 _) h 0 (Lib.hid fun gx s1 w1 a1 H hp => ?_)
  have := epochLine1 H (by rw [hp]) (by omega) (by omega) 0
  rw [hp, e2] at this
  exact this
theorem step7b (M : MemAt B w g c7 a gl cap L) (hl : L.length = 9) (h : Lies w s { zS with p := q7 }) : Calls Try.prog 28 #[.pointer (some ⟨g, 0, none⟩), .int .i64 0, wv s] w (SPost B g gl cap c7 (L.set 3 5) { zS with p := q7 } r7 0 true w) := by
  refine epochStep0 M s _ (few_z7 _) h 0 (Lib.hid fun gx s1 w1 a1 H hp => ?_)
  have := epochLine2 H c7_wf (by rw [hp]) (by omega) 0 3 ann7 (by omega)
  rw [hp, an25] at this
  exact this
theorem step7c (M : MemAt B w g c7 a gl cap L) (hl : L.length = 9) (h2 : L[0]? = some 2) (h : Lies w s { zS with p := r7 }) : Calls Try.prog 28 #[.pointer (some ⟨g, 0, none⟩), .int .i64 0, wv s] w (SPost B g gl cap c7 L { zS with p := r7 } { r7 with ln := 0 } 1 true w) := by
  have e2 : L[0]'(by omega) = 2 := by rw [List.getElem?_eq_getElem (by omega)] at h2; simpa using h2
  refine epochStep1 M s _ (few_z7 _) h 0 (p1 := r7) (by decide) (Lib.hid fun gx s1 w1 a1 H hp => ?_)
  have := epochLine3 H (by rw [hp]) (by omega) (by omega) (by rw [e2, hp]) 0
  have e : ({ s1 with p := r7 } : Wk) = s1 := by
    obtain ⟨p, rk, l0, l1, l2, hl, rd⟩ := s1
    simp only at hp
    rw [hp]
  rw [e]
  exact this
end
theorem ins7 {L : List Int} (hl : L.length = 9) : insB c7 (L.set 3 5) 0 = true ∧ insE c7 (L.set 3 5) 0 = 2 := by
  have e : (L.set 3 5).getD (3 + (0 : Int).toNat) 0 = 5 := by
    rw [show 3 + (0 : Int).toNat = 3 from rfl, List.getD_eq_getElem?_getD, List.getElem?_set_self (by omega)]
    rfl
  have hs : siz c7 = 9 := by decide
  have h := ins_yes (c := c7) (L := L.set 3 5) (k := 0) ⟨by decide, by rw [List.length_set, hl, hs]; rfl, by decide, by decide, by rw [e]; decide⟩
  exact ⟨h.1, by rw [h.2, e]; decide⟩
set_option maxRecDepth 100000 in
set_option maxHeartbeats 16000000 in
theorem awake7 (w : World) : Calls Try.prog 27 #[] w fun e w' => e = .returned (.bool true) ∧ Below w.heap.size w w' := by
  have hb0 := build_c7
  have hbs := build_s7
  obtain ⟨hl, h2⟩ := first7
  have hR := first7r
  have hn := newMem_ok c7 c7_wf c7_ok
  obtain ⟨L, hL⟩ : ∃ L, L = firstL c7 := ⟨_, rfl⟩
  rw [← hL] at hl h2 hn hR
  have HR := Lib.hid hR
  have HN := Lib.hid hn
  have HL := Lib.hid hl
  have H2 := Lib.hid h2
  clear hn hl h2 hL hR
  have C0 := Bk.new w (ccM c7) 24
  have hw0 : Below w.heap.size w (w.alloc (.cells (ccM c7) 24)) := (Below.refl _ _).alloc (Nat.le_refl _) _
  go_enter Try.func27, Try.ntmps27
  go_wp2_with (refine wpList_load_row rfl 24 _ rfl w.heap.size rfl _ (ccM c7) (0, 0) _ (by exact C0) Try.underlying24 rfl (by kernel_rfl) ?_)
  refine (HN.out _).mono ?_
  rintro e w1 ⟨g, gl, cap, rfl, M1, hb1⟩
  have g0 := M1.g0
  have gl0 := M1.gl0
  simp only [World.size_alloc] at g0 gl0 hb1
  have C1 := C0.keepB hb1 (by omega)
  have hw1 := hw0.trans (hb1.mono (by omega))
  have lt1 := M1.lt
  have lc1 := C1.lt
  have Z1 := Bk.new w1 (wc wz) 46
  have X1 := boxed_bk w1 s7
  have bb1 := boxed_below w1 s7
  have C2 := C1.keep bb1
  have M2 := M1.keep bb1
  have hw2 := hw1.trans (bb1.mono hw1.size)
  have sz2 := bb1.size
  have lx2 := X1.lt
  obtain ⟨w2, hw2'⟩ : ∃ u, u = (w1.alloc (.cells (wc wz) 46)).setRow w1.heap.size (wc s7) := ⟨_, rfl⟩
  rw [← hw2'] at X1 C2 M2 hw2 sz2 lx2
  have X2 := X1
  clear bb1 hb1 C0 hw0 C1 X1
  go_wp2_with (first | (refine wpList_alloc_wz rfl rfl ?_) | (refine wpList_store_row rfl 46 _ _ rfl (w1.heap.size) (wc s7) rfl rfl _ _ (by exact Z1) (by kernel_rfl) (by kernel_rfl) (by kernel_rfl) ?_; rw [← hw2']; clear hw2'))
  clear Z1
  refine wp_loop_rounds 4 ?_
  rw [rounds_succ]
  go_wp2_with (refine wpList_load_row rfl 46 _ rfl (w1.heap.size) rfl _ (wc s7) (0, 0) _ (by exact X2) Try.underlying46 rfl (by kernel_rfl) ?_)
  refine (step7a M2 HL.out H2.out (lies_z7 _ _)).mono ?_
  rintro e w3 ⟨s3, a3, rfl, A3, M3, T3⟩
  have X3 := T3.bk X2 (by omega) (by omega)
  have C3 := T3.bk C2 (by omega) (by omega)
  have A3' := A3.setRow (g := (w1.heap.size)) (by omega) (wc s3)
  have Xs3 := X3.setRow (wc s3)
  have Cs3 := C3.setRow_far (g' := (w1.heap.size)) (by omega) (wc s3)
  have Ms3 := M3.apart (g' := (w1.heap.size)) (gl' := (w1.heap.size)) ((Touch.refl (w1.heap.size) (w1.heap.size) w3).setRow (wc s3)) (by omega) (by omega) (by omega) (by omega)
  have hw3s := below_setRow (hw2.trans (T3.below (base := w.heap.size) (by omega) (by omega) hw2.size)) (show w.heap.size ≤ (w1.heap.size) by have := hw1.size; omega) (wc s3)
  have sz3 : (w1.heap.size) < (w3.setRow (w1.heap.size) (wc s3)).heap.size := Xs3.lt
  obtain ⟨u3, hu3⟩ : ∃ u, u = w3.setRow (w1.heap.size) (wc s3) := ⟨_, rfl⟩
  rw [← hu3] at A3' Xs3 Cs3 Ms3 hw3s sz3
  go_wp2_with (refine wpList_store_row rfl 46 _ _ rfl (w1.heap.size) (wc s3) rfl rfl _ _ (by exact X3) (by kernel_rfl) (by kernel_rfl) (by kernel_rfl) ?_; rw [← hu3]; clear hu3)
  rw [rounds_succ]
  go_wp2_with (refine wpList_load_row rfl 46 _ rfl (w1.heap.size) rfl _ (wc s3) (0, 0) _ (by exact Xs3) Try.underlying46 rfl (by kernel_rfl) ?_)
  refine (step7b Ms3 HL.out A3'.lies).mono ?_
  rintro e w4 ⟨s4, a4, rfl, A4, M4, T4⟩
  have X4 := T4.bk Xs3 (by omega) (by omega)
  have C4 := T4.bk Cs3 (by omega) (by omega)
  have A4' := A4.setRow (g := (w1.heap.size)) (by omega) (wc s4)
  have Xs4 := X4.setRow (wc s4)
  have Cs4 := C4.setRow_far (g' := (w1.heap.size)) (by omega) (wc s4)
  have Ms4 := M4.apart (g' := (w1.heap.size)) (gl' := (w1.heap.size)) ((Touch.refl (w1.heap.size) (w1.heap.size) w4).setRow (wc s4)) (by omega) (by omega) (by omega) (by omega)
  have hw4s := below_setRow (hw3s.trans (T4.below (base := w.heap.size) (by omega) (by omega) hw3s.size)) (show w.heap.size ≤ (w1.heap.size) by have := hw1.size; omega) (wc s4)
  have sz4 : (w1.heap.size) < (w4.setRow (w1.heap.size) (wc s4)).heap.size := Xs4.lt
  obtain ⟨u4, hu4⟩ : ∃ u, u = w4.setRow (w1.heap.size) (wc s4) := ⟨_, rfl⟩
  rw [← hu4] at A4' Xs4 Cs4 Ms4 hw4s sz4
  go_wp2_with (refine wpList_store_row rfl 46 _ _ rfl (w1.heap.size) (wc s4) rfl rfl _ _ (by exact X4) (by kernel_rfl) (by kernel_rfl) (by kernel_rfl) ?_; rw [← hu4]; clear hu4)
  rw [rounds_succ]
  go_wp2_with (refine wpList_load_row rfl 46 _ rfl (w1.heap.size) rfl _ (wc s4) (0, 0) _ (by exact Xs4) Try.underlying46 rfl (by kernel_rfl) ?_)
  refine (step7c Ms4 (by rw [List.length_set]; exact HL.out) (by rw [List.getElem?_set_ne (by decide)]; exact H2.out) A4'.lies).mono ?_
  rintro e w5 ⟨s5, a5, rfl, A5, M5, T5⟩
  have X5 := T5.bk Xs4 (by omega) (by omega)
  have C5 := T5.bk Cs4 (by omega) (by omega)
  have A5' := A5.setRow (g := (w1.heap.size)) (by omega) (wc s5)
  have Xs5 := X5.setRow (wc s5)
  have Cs5 := C5.setRow_far (g' := (w1.heap.size)) (by omega) (wc s5)
  have Ms5 := M5.apart (g' := (w1.heap.size)) (gl' := (w1.heap.size)) ((Touch.refl (w1.heap.size) (w1.heap.size) w5).setRow (wc s5)) (by omega) (by omega) (by omega) (by omega)
  have hw5s := below_setRow (hw4s.trans (T5.below (base := w.heap.size) (by omega) (by omega) hw4s.size)) (show w.heap.size ≤ (w1.heap.size) by have := hw1.size; omega) (wc s5)
  have sz5 : (w1.heap.size) < (w5.setRow (w1.heap.size) (wc s5)).heap.size := Xs5.lt
  obtain ⟨u5, hu5⟩ : ∃ u, u = w5.setRow (w1.heap.size) (wc s5) := ⟨_, rfl⟩
  rw [← hu5] at A5' Xs5 Cs5 Ms5 hw5s sz5
  go_wp2_with (refine wpList_store_row rfl 46 _ _ rfl (w1.heap.size) (wc s5) rfl rfl _ _ (by exact X5) (by kernel_rfl) (by kernel_rfl) (by kernel_rfl) ?_; rw [← hu5]; clear hu5)
  rw [rounds_succ]
  have cx := Cs5.lt
  have hlen : ((L.set 3 5).length : Nat) = 9 := by rw [List.length_set]; exact HL.out
  have HI7 := Lib.hid (ins7 HL.out)
  have hrange : ∀ x ∈ L.set 3 5, 0 ≤ x ∧ x < 18446744073709551616 := HR.out
  go_wp2
  have hS0 : Below u5.heap.size u5 u5.drew := Below.drew (Below.refl _ _)
  refine wp_region_held_drew (S := fun w' => Below u5.heap.size u5 w') (by kernel_rfl) hS0 (fun hHeld => ?_)
  generalize u5.drew = z0 at *
  refine wpAnyH_take (i := 0) (oi := _) (v := .agg (ccM c7)) rfl (by kernel_rfl) (by kernel_rfl) (by kernel_rfl) (fun _ _ _ h => h) (yieldsIf_row rfl 24 _ rfl (w.heap.size) rfl (ccM c7) 24 _ (fun w' hw' => Bk.keep Cs5 hw') Try.underlying24 rfl (by kernel_rfl)) hHeld ?_
  try simp only [Act.put, List.getElem_toArray, List.getElem_cons_succ, List.getElem_cons_zero, List.setIfInBounds_toArray, List.set_cons_succ, List.set_cons_zero]
  refine wpAnyH_take (i := 1) (oi := _) (v := .pointer (some ⟨g, 0, none⟩)) rfl (by kernel_rfl) (by kernel_rfl) (by kernel_rfl) (fun _ _ _ h => h) (Or.inl ⟨by rfl, fun w' hSw => by go_simp⟩) hHeld ?_
  try simp only [Act.put, List.getElem_toArray, List.getElem_cons_succ, List.getElem_cons_zero, List.setIfInBounds_toArray, List.set_cons_succ, List.set_cons_zero]
  refine wpAnyH_ready (rs := [2]) (by kernel_rfl) (by simp) ?_
  refine AllReadyH.cons (o := _) rfl (fun K hK => ?_) AllReadyH.nil
  go_simp
  refine (all_in (Ms5.keep hHeld) (by omega)).mono ?_
  rintro e z1 ⟨y1, rfl, hy1, hb⟩
  have hHeld' := hHeld.trans (hb.mono hHeld.size)
  refine hK.out _ _ hHeld' (fun hHeld => ?_)
  clear hK K hHeld'
  try simp only [Act.put, List.getElem_toArray, List.getElem_cons_succ, List.getElem_cons_zero, List.setIfInBounds_toArray, List.set_cons_succ, List.set_cons_zero]
  have rd1 := Reads.of_own hy1 rfl
  clear hb hy1
  have hin := inside c7 c7_wf rd1 hrange 0
  unfold InsPost at hin
  rw [HI7.out.1, HI7.out.2] at hin
  have HIN := Lib.hid hin
  clear hin rd1
  refine wpAnyH_ready (rs := [3]) (by kernel_rfl) (by simp) ?_
  refine AllReadyH.cons (o := _) rfl (fun K hK => ?_) AllReadyH.nil
  go_simp
  refine (HIN.out).mono ?_
  rintro e z2 ⟨rfl, hb⟩
  have hHeld' := hHeld.trans (hb.mono hHeld.size)
  refine hK.out _ _ hHeld' (fun hHeld => ?_)
  clear hK K hHeld'
  try simp only [Act.put, List.getElem_toArray, List.getElem_cons_succ, List.getElem_cons_zero, List.setIfInBounds_toArray, List.set_cons_succ, List.set_cons_zero]
  clear hb
  refine wpAnyH_take (i := 4) (oi := _) (v := .tuple #[.int .u64 2, .bool true]) rfl (by kernel_rfl) (by kernel_rfl) (by kernel_rfl) (fun _ _ _ h => h) (Or.inl ⟨by rfl, fun w' hSw => by go_simp⟩) hHeld ?_
  try simp only [Act.put, List.getElem_toArray, List.getElem_cons_succ, List.getElem_cons_zero, List.setIfInBounds_toArray, List.set_cons_succ, List.set_cons_zero]
  refine wpAnyH_take (i := 5) (oi := _) (v := .int .u64 2) rfl (by kernel_rfl) (by kernel_rfl) (by kernel_rfl) (fun _ _ _ h => h) (Or.inl ⟨by rfl, fun w' hSw => by go_simp⟩) hHeld ?_
  try simp only [Act.put, List.getElem_toArray, List.getElem_cons_succ, List.getElem_cons_zero, List.setIfInBounds_toArray, List.set_cons_succ, List.set_cons_zero]
  refine wpAnyH_take (i := 6) (oi := _) (v := .bool true) rfl (by kernel_rfl) (by kernel_rfl) (by kernel_rfl) (fun _ _ _ h => h) (Or.inl ⟨by rfl, fun w' hSw => by go_simp⟩) hHeld ?_
  try simp only [Act.put, List.getElem_toArray, List.getElem_cons_succ, List.getElem_cons_zero, List.setIfInBounds_toArray, List.set_cons_succ, List.set_cons_zero]
  refine wpAnyH_take (i := 7) (oi := _) (v := .int .u64 2) rfl (by kernel_rfl) (by kernel_rfl) (by kernel_rfl) (fun _ _ _ h => h) (Or.inl ⟨by rfl, fun w' hSw => by go_simp⟩) hHeld ?_
  try simp only [Act.put, List.getElem_toArray, List.getElem_cons_succ, List.getElem_cons_zero, List.setIfInBounds_toArray, List.set_cons_succ, List.set_cons_zero]
  refine wpAnyH_take (i := 8) (oi := _) (v := .bool true) rfl (by kernel_rfl) (by kernel_rfl) (by kernel_rfl) (fun _ _ _ h => h) (Or.inl ⟨by rfl, fun w' hSw => by go_simp⟩) hHeld ?_
  try simp only [Act.put, List.getElem_toArray, List.getElem_cons_succ, List.getElem_cons_zero, List.setIfInBounds_toArray, List.set_cons_succ, List.set_cons_zero]
  refine wpAnyH_done (by kernel_rfl) ?_ _
  have hfin := hw5s.trans (hHeld.mono hw5s.size)
  clear hHeld hS0
  go_wp2
  go_ret
  exact ⟨rfl, hfin⟩
end Go.Proofs.Ytblkfbbdeodpjaa.Me
