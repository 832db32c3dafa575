/- The example of layer 8 (made by genst.py). -/
import Derived.Test.YtblkfbbdeodpjaaSlabStep
import Derived.Test.YtblkfbbdeodpjaaMemFirstWalk
namespace Go.Proofs.Ytblkfbbdeodpjaa.Me
open Go Go.RowKit Go.Proofs.Ytblkfbbdeodpjaa.Gro Go.Proofs.Ytblkfbbdeodpjaa.Own Go.Proofs.Ytblkfbbdeodpjaa.Wd Go.Proofs.Ytblkfbbdeodpjaa.Ap Go.Proofs.Ytblkfbbdeodpjaa.Pl Go.Proofs.Ytblkfbbdeodpjaa.Wo
set_option linter.unusedVariables false
set_option linter.unusedSimpArgs false
abbrev c8 : Cfg := ⟨1, 1, 2, 1, 1, 0, 1, 1⟩
theorem c8_wf : c8.Wf := ⟨by decide, by decide⟩
theorem c8_ok : Ok c8 := chk_ok.1 (by decide)
theorem build_c8 (w : World) : (Instr.build 24 #[(0, .int .i64 1), (1, .int .i64 1), (2, .int .i64 2), (3, .int .i64 1), (4, .int .i64 1), (6, .int .i64 1), (7, .int .u64 1)]).run Try.prog w = .ok (cv c8) w := run_build w _ _ _ (by kernel_rfl)
abbrev p8 : Pl := { pz with ln := 33 }
abbrev q8 : Pl := { pz with v := 0, ln := 34 }
abbrev s8 : Wk := { wz with p := p8 }
theorem build_s8 (w : World) : (Instr.build 46 #[(0, .int .i64 33)]).run Try.prog w = .ok (wv s8) w := run_build w _ _ _ (by kernel_rfl)
theorem first8 : (firstL c8).length = 11 ∧ (firstL c8)[4]? = some 0 := by decide
theorem first8r : ∀ x ∈ (firstL c8).set 4 1, 0 ≤ x ∧ x < 18446744073709551616 := by decide
theorem sl1 : Pk.sl 1 0 0 = 1 := by decide
theorem slab8 : aSlab c8 0 = ((4 : Nat) : Int) := by decide
theorem lies_z8 (p : Pl) (w : World) : Lies w { wz with p := p } { zS with p := p } := ⟨rfl, Reads.nil _ _, Reads.nil _ _, Reads.nil _ _, Reads.nil _ _, Reads.nil _ _, Reads.nil _ _⟩
theorem few_z8 (p : Pl) : Few 1000 { zS with p := p } := ⟨Nat.zero_le _, Nat.zero_le _, Nat.zero_le _, Nat.zero_le _, Nat.zero_le _, Nat.zero_le _⟩
section
variable {B : Nat} {w : World} {g gl cap : Nat} {a : Acc} {L : List Int} {s : Wk}
theorem step8a (M : MemAt B w g c8 a gl cap L) (hl : L.length = 11) (h2 : L[4]? = some 0) (h : Lies w s { zS with p := p8 }) : Calls Try.prog 31 #[.pointer (some ⟨g, 0, none⟩), wv s] w (SPost B g gl cap c8 L { zS with p := p8 } q8 0 true w) := by
  have e2 : L[4]'(by omega) = 0 := by rw [List.getElem?_eq_getElem (by omega)] at h2; simpa using h2
  refine slabStep0 M s _ (few_z8 _) h (Lib.hid fun gx s1 w1 a1 H hp => ?_)
  have := slabLine33 H c8_wf (by rw [hp]) (by omega) 4 (by rw [hp]; exact slab8) (by omega) (by rw [e2]; decide) (by rw [e2]; decide) (by rw [hp]; decide) (by rw [e2, hp]; decide)
  rw [hp, e2] at this
  exact this
theorem step8b (M : MemAt B w g c8 a gl cap L) (hl : L.length = 11) (h2 : L[4]? = some 0) (h : Lies w s { zS with p := q8 }) : Calls Try.prog 31 #[.pointer (some ⟨g, 0, none⟩), wv s] w (SPost B g gl cap c8 (L.set 4 1) { zS with p := q8 } { q8 with ln := 0 } 1 true w) := by
  have e2 : L[4]'(by omega) = 0 := by rw [List.getElem?_eq_getElem (by omega)] at h2; simpa using h2
  refine slabStep1 M s _ (few_z8 _) h (p1 := q8) (by decide) (Lib.hid fun gx s1 w1 a1 H hp => ?_)
  have := slabLine34 H c8_wf (by rw [hp]) (by omega) 4 (by rw [hp]; exact slab8) (by omega) (by rw [e2, hp])
  rw [sl1] at this
  have e : ({ s1 with p := q8 } : Wk) = s1 := by
    obtain ⟨p, rk, l0, l1, l2, hl, rd⟩ := s1
    simp only at hp
    rw [hp]
  rw [e]
  exact this
end
theorem wrd8 {L : List Int} (hl : L.length = 11) : wrdB c8 (L.set 4 1) 0 = true ∧ wrdV c8 (L.set 4 1) 0 = 1 := by
  have e : (L.set 4 1).getD (3 + c8.ww.toNat + (0 : Int).toNat) 0 = 1 := by
    rw [show 3 + c8.ww.toNat + (0 : Int).toNat = 4 from rfl, List.getD_eq_getElem?_getD, List.getElem?_set_self (by omega)]
    rfl
  have hs : siz c8 = 11 := by decide
  have h := wrd_yes (c := c8) (L := L.set 4 1) (k := 0) ⟨by decide, by rw [List.length_set, hl, hs]; rfl, by decide, by decide⟩
  exact ⟨h.1, by rw [h.2, e]⟩
set_option maxRecDepth 100000 in
set_option maxHeartbeats 16000000 in
theorem awake8 (w : World) : Calls Try.prog 29 #[] w fun e w' => e = .returned (.bool true) ∧ Below w.heap.size w w' := by
  have hb0 := build_c8
  have hbs := build_s8
  obtain ⟨hl, h2⟩ := first8
  have hR := first8r
  have hn := newMem_ok c8 c8_wf c8_ok
  obtain ⟨L, hL⟩ : ∃ L, L = firstL c8 := ⟨_, rfl⟩
  rw [← hL] at hl h2 hn hR
  have HN := Lib.hid hn
  have HL := Lib.hid hl
  have H2 := Lib.hid h2
  have HR := Lib.hid hR
  clear hn hl h2 hL hR
  have C0 := Bk.new w (ccM c8) 24
  have hw0 : Below w.heap.size w (w.alloc (.cells (ccM c8) 24)) := (Below.refl _ _).alloc (Nat.le_refl _) _
  go_enter Try.func29, Try.ntmps29
  go_wp2_with (refine wpList_load_row rfl 24 _ rfl w.heap.size rfl _ (ccM c8) (0, 0) _ (by exact C0) Try.underlying24 rfl (by kernel_rfl) ?_)
  refine (HN.out _).mono ?_
  rintro e w1 ⟨g, gl, cap, rfl, M1, hb1⟩
  have g0 := M1.g0
  have gl0 := M1.gl0
  simp only [World.size_alloc] at g0 gl0 hb1
  have C1 := C0.keepB hb1 (by omega)
  have hw1 := hw0.trans (hb1.mono (by omega))
  have lc1 := C1.lt
  clear hb1 C0 hw0
  go_wp2_with fail
  refine (step8a M1 HL.out H2.out (lies_z8 _ _)).mono ?_
  rintro e w3 ⟨s3, a3, rfl, A3, M3, T3⟩
  have C3 := T3.bk C1 (by omega) (by omega)
  have hw3 := hw1.trans (T3.below (base := w.heap.size) (by omega) (by omega) hw1.size)
  have sz3 := T3.size
  have Z3 := Bk.new w3 (wc wz) 46
  have X4 := boxed_bk w3 s3
  have bb4 := boxed_below w3 s3
  have C4 := C3.keep bb4
  have M4 := M3.keep bb4
  have A4 := A3.keep bb4
  have hw4 := hw3.trans (bb4.mono hw3.size)
  have m3 := M3.lt
  obtain ⟨w4, hw4'⟩ : ∃ u, u = (w3.alloc (.cells (wc wz) 46)).setRow w3.heap.size (wc s3) := ⟨_, rfl⟩
  rw [← hw4'] at X4 C4 M4 A4 hw4
  clear bb4 A3 M3 T3 C3 hw3 C1 hw1
  go_wp2_with (first | (refine wpList_alloc_wz rfl rfl ?_) | (refine wpList_store_row rfl 46 _ _ rfl (w3.heap.size) (wc s3) rfl rfl _ _ (by exact Z3) (by kernel_rfl) (by kernel_rfl) (by kernel_rfl) ?_; rw [← hw4']; clear hw4' Z3) | (refine wpList_load_row rfl 46 _ rfl (w3.heap.size) rfl _ (wc s3) (0, 0) _ (by exact X4) Try.underlying46 rfl (by kernel_rfl) ?_))
  refine (step8b M4 HL.out H2.out A4.lies).mono ?_
  rintro e w5 ⟨s5, a5, rfl, A5, M5, T5⟩
  have C5 := T5.bk C4 (by omega) (by omega)
  have hw5 := hw4.trans (T5.below (base := w.heap.size) (by omega) (by omega) hw4.size)
  have Z5 := Bk.new w5 (wc wz) 46
  have bb6 := boxed_below w5 s5
  have C6 := C5.keep bb6
  have M6 := M5.keep bb6
  have hw6 := hw5.trans (bb6.mono hw5.size)
  obtain ⟨w6, hw6'⟩ : ∃ u, u = (w5.alloc (.cells (wc wz) 46)).setRow w5.heap.size (wc s5) := ⟨_, rfl⟩
  rw [← hw6'] at C6 M6 hw6
  clear bb6 A5 M5 T5 C5 hw5 A4 M4 X4 C4 hw4
  go_wp2_with (first | (refine wpList_alloc_wz rfl rfl ?_) | (refine wpList_store_row rfl 46 _ _ rfl (w5.heap.size) (wc s5) rfl rfl _ _ (by exact Z5) (by kernel_rfl) (by kernel_rfl) (by kernel_rfl) ?_; rw [← hw6']; clear hw6' Z5))
  have hlen : ((L.set 4 1).length : Nat) = 11 := by rw [List.length_set]; exact HL.out
  have HI8 := Lib.hid (wrd8 HL.out)
  have hS0 : Below w6.heap.size w6 w6.drew := Below.drew (Below.refl _ _)
  refine wp_region_held_drew (S := fun w' => Below w6.heap.size w6 w') (by kernel_rfl) hS0 (fun hHeld => ?_)
  generalize w6.drew = z0 at *
  refine wpAnyH_take (i := 0) (oi := _) (v := .int .i64 0) rfl (by kernel_rfl) (by kernel_rfl) (by kernel_rfl) (fun _ _ _ h => h) (Or.inl ⟨by rfl, fun w' hSw => by go_simp⟩) hHeld ?_
  try simp only [Act.put, List.getElem_toArray, List.getElem_cons_succ, List.getElem_cons_zero, List.setIfInBounds_toArray, List.set_cons_succ, List.set_cons_zero]
  refine wpAnyH_take (i := 1) (oi := _) (v := .bool true) rfl (by kernel_rfl) (by kernel_rfl) (by kernel_rfl) (fun _ _ _ h => h) (Or.inl ⟨by rfl, fun w' hSw => by go_simp⟩) hHeld ?_
  try simp only [Act.put, List.getElem_toArray, List.getElem_cons_succ, List.getElem_cons_zero, List.setIfInBounds_toArray, List.set_cons_succ, List.set_cons_zero]
  refine wpAnyH_take (i := 2) (oi := _) (v := .bool true) rfl (by kernel_rfl) (by kernel_rfl) (by kernel_rfl) (fun _ _ _ h => h) (Or.inl ⟨by rfl, fun w' hSw => by go_simp⟩) hHeld ?_
  try simp only [Act.put, List.getElem_toArray, List.getElem_cons_succ, List.getElem_cons_zero, List.setIfInBounds_toArray, List.set_cons_succ, List.set_cons_zero]
  refine wpAnyH_take (i := 3) (oi := _) (v := .int .i64 1) rfl (by kernel_rfl) (by kernel_rfl) (by kernel_rfl) (fun _ _ _ h => h) (Or.inl ⟨by rfl, fun w' hSw => by go_simp⟩) hHeld ?_
  try simp only [Act.put, List.getElem_toArray, List.getElem_cons_succ, List.getElem_cons_zero, List.setIfInBounds_toArray, List.set_cons_succ, List.set_cons_zero]
  refine wpAnyH_take (i := 4) (oi := _) (v := .bool true) rfl (by kernel_rfl) (by kernel_rfl) (by kernel_rfl) (fun _ _ _ h => h) (Or.inl ⟨by rfl, fun w' hSw => by go_simp⟩) hHeld ?_
  try simp only [Act.put, List.getElem_toArray, List.getElem_cons_succ, List.getElem_cons_zero, List.setIfInBounds_toArray, List.set_cons_succ, List.set_cons_zero]
  refine wpAnyH_take (i := 5) (oi := _) (v := .bool true) rfl (by kernel_rfl) (by kernel_rfl) (by kernel_rfl) (fun _ _ _ h => h) (Or.inl ⟨by rfl, fun w' hSw => by go_simp⟩) hHeld ?_
  try simp only [Act.put, List.getElem_toArray, List.getElem_cons_succ, List.getElem_cons_zero, List.setIfInBounds_toArray, List.set_cons_succ, List.set_cons_zero]
  refine wpAnyH_take (i := 6) (oi := _) (v := .bool true) rfl (by kernel_rfl) (by kernel_rfl) (by kernel_rfl) (fun _ _ _ h => h) (Or.inl ⟨by rfl, fun w' hSw => by go_simp⟩) hHeld ?_
  try simp only [Act.put, List.getElem_toArray, List.getElem_cons_succ, List.getElem_cons_zero, List.setIfInBounds_toArray, List.set_cons_succ, List.set_cons_zero]
  refine wpAnyH_take (i := 7) (oi := _) (v := cv c8) rfl (by kernel_rfl) (by kernel_rfl) (by kernel_rfl) (fun _ _ _ h => h) (Or.inl ⟨by rfl, fun w' hSw => by have xx := (C6.keep hSw).cells; go_simp⟩) hHeld ?_
  try simp only [Act.put, List.getElem_toArray, List.getElem_cons_succ, List.getElem_cons_zero, List.setIfInBounds_toArray, List.set_cons_succ, List.set_cons_zero]
  refine wpAnyH_take (i := 8) (oi := _) (v := .pointer (some ⟨g, 0, none⟩)) rfl (by kernel_rfl) (by kernel_rfl) (by kernel_rfl) (fun _ _ _ h => h) (Or.inl ⟨by rfl, fun w' hSw => by go_simp⟩) hHeld ?_
  try simp only [Act.put, List.getElem_toArray, List.getElem_cons_succ, List.getElem_cons_zero, List.setIfInBounds_toArray, List.set_cons_succ, List.set_cons_zero]
  refine wpAnyH_ready (rs := [9]) (by kernel_rfl) (by simp) ?_
  refine AllReadyH.cons (o := _) rfl (fun K hK => ?_) AllReadyH.nil
  go_simp
  refine (all_in (M6.keep hHeld) (by omega)).mono ?_
  rintro e z1 ⟨y1, rfl, hy1, hb⟩
  have hHeld' := hHeld.trans (hb.mono hHeld.size)
  refine hK.out _ _ hHeld' (fun hHeld => ?_)
  clear hK K hHeld'
  try simp only [Act.put, List.getElem_toArray, List.getElem_cons_succ, List.getElem_cons_zero, List.setIfInBounds_toArray, List.set_cons_succ, List.set_cons_zero]
  have rd1 := Reads.of_own hy1 rfl
  clear hb hy1
  have hin := stateW c8 c8_wf rd1 HR.out 0 HI8.out.2 HI8.out.1
  rw [show (1 : Int) % 16 = 1 from rfl] at hin
  have HIN := Lib.hid hin
  clear hin rd1
  refine wpAnyH_ready (rs := [10]) (by kernel_rfl) (by simp) ?_
  refine AllReadyH.cons (o := _) rfl (fun K hK => ?_) AllReadyH.nil
  go_simp
  refine (HIN.out).mono ?_
  rintro e z2 ⟨rfl, hb⟩
  have hHeld' := hHeld.trans (hb.mono hHeld.size)
  refine hK.out _ _ hHeld' (fun hHeld => ?_)
  clear hK K hHeld'
  try simp only [Act.put, List.getElem_toArray, List.getElem_cons_succ, List.getElem_cons_zero, List.setIfInBounds_toArray, List.set_cons_succ, List.set_cons_zero]
  clear hb
  refine wpAnyH_take (i := 11) (oi := _) (v := .bool true) rfl (by kernel_rfl) (by kernel_rfl) (by kernel_rfl) (fun _ _ _ h => h) (Or.inl ⟨by rfl, fun w' hSw => by go_simp⟩) hHeld ?_
  try simp only [Act.put, List.getElem_toArray, List.getElem_cons_succ, List.getElem_cons_zero, List.setIfInBounds_toArray, List.set_cons_succ, List.set_cons_zero]
  refine wpAnyH_take (i := 12) (oi := _) (v := .bool true) rfl (by kernel_rfl) (by kernel_rfl) (by kernel_rfl) (fun _ _ _ h => h) (Or.inl ⟨by rfl, fun w' hSw => by go_simp⟩) hHeld ?_
  try simp only [Act.put, List.getElem_toArray, List.getElem_cons_succ, List.getElem_cons_zero, List.setIfInBounds_toArray, List.set_cons_succ, List.set_cons_zero]
  refine wpAnyH_take (i := 13) (oi := _) (v := .bool true) rfl (by kernel_rfl) (by kernel_rfl) (by kernel_rfl) (fun _ _ _ h => h) (Or.inl ⟨by rfl, fun w' hSw => by go_simp⟩) hHeld ?_
  try simp only [Act.put, List.getElem_toArray, List.getElem_cons_succ, List.getElem_cons_zero, List.setIfInBounds_toArray, List.set_cons_succ, List.set_cons_zero]
  refine wpAnyH_done (by kernel_rfl) ?_ _
  have hfin := hw6.trans (hHeld.mono hw6.size)
  clear hHeld hS0
  go_wp2
  go_ret
  exact ⟨rfl, hfin⟩
end Go.Proofs.Ytblkfbbdeodpjaa.Me
