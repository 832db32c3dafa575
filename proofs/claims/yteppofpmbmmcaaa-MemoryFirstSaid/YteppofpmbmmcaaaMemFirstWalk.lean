/- The law MemoryFirst, walked. -/
import Derived.Test.YteppofpmbmmcaaaMemIn
namespace Go.Proofs.Yteppofpmbmmcaaa.Me
open Go Go.RowKit Go.Proofs.Yteppofpmbmmcaaa.Gro Go.Proofs.Yteppofpmbmmcaaa.Own Go.Proofs.Yteppofpmbmmcaaa.Wd Go.Proofs.Yteppofpmbmmcaaa.Ap Go.Proofs.Yteppofpmbmmcaaa.Pl
set_option linter.unusedVariables false
set_option linter.unusedSimpArgs false

section
variable {base : Nat} {w : World} {g gl cap : Nat} {c : Cfg} {a : Acc} {L : List Int}
theorem MemAt.reads (M : MemAt base w g c a gl cap L) : Reads w .u64 (.slice (some ⟨gl, 0, none⟩) L.length cap) L := Reads.of_own M.W rfl
theorem all_in (M : MemAt base w g c a gl cap L) (hm : L.length ≤ 1000) : Calls Try.prog 41 #[.pointer (some ⟨g, 0, none⟩)] w fun e w' => ∃ y : Sl, e = .returned y.v ∧ w'.ownsRow w.heap.size 22 1 y.v L.length (L.map (.int .u64)) ∧ Below w.heap.size w w' := by
  have x := M.B.cells
  have hr := M.reads
  go_enter Try.func41, Try.ntmps41
  go_wp2_with fail
  refine (clone (v := ⟨some ⟨gl, 0, none⟩, L.length, cap⟩) hm hr).mono ?_
  rintro e w1 ⟨y, rfl, hy, hb1⟩
  go_wp2
  go_ret
  exact ⟨y, rfl, hy, hb1⟩
end
theorem acc5 {base : Nat} {w : World} {g gl cap : Nat} {c : Cfg} {L : List Int} (M : MemAt base w g c a0 gl cap L) : w.cell? ⟨g, 8, none⟩ = some (.int .i64 0) ∧ w.cell? ⟨g, 9, none⟩ = some (.int .i64 0) ∧ w.cell? ⟨g, 10, none⟩ = some (.int .u64 0) ∧ w.cell? ⟨g, 11, none⟩ = some (.int .u64 0) ∧ w.cell? ⟨g, 12, none⟩ = some (.int .u64 0) :=
  ⟨M.B.cells 8, M.B.cells 9, M.B.cells 10, M.B.cells 11, M.B.cells 12⟩
theorem dec_self (l : List Int) : decide (l = l) = true := by simp
theorem eql_acc (w : World) : (binOp .eql 48 (av ⟨4, 5, 3, 0, 5⟩) (av ⟨4, 5, 3, 0, 5⟩)).run Try.prog w = .ok (.bool true) w := by kernel_rfl
theorem neq_acc0 (w : World) : (binOp .neq 48 (av a0) (av a0)).run Try.prog w = .ok (.bool false) w := by kernel_rfl
theorem guard_acc : Try.prog.eqGuardType Try.prog.depth 48 = false := by kernel_rfl
theorem build_acc4 (w : World) : (Instr.build 48 #[(0, .int .i64 4), (1, .int .i64 5), (2, .int .u64 3), (4, .int .u64 5)]).run Try.prog w = .ok (av ⟨4, 5, 3, 0, 5⟩) w := run_build w _ _ _ (by kernel_rfl)
theorem build_acc0 (w : World) : (Instr.build 48 #[]).run Try.prog w = .ok (av a0) w := run_build w _ _ _ (by kernel_rfl)
set_option maxHeartbeats 1000000 in
theorem awake3 (w : World) : Calls Try.prog 23 #[] w fun e w' => e = .returned (.bool true) ∧ Below w.heap.size w w' := by
  have hb := build_c0
  have hl : (firstL c0).length = 11 := by have := firstL_len c0_ok; have : siz c0 = 11 := by decide
                                          omega
  obtain ⟨L, hL⟩ : ∃ L, L = firstL c0 := ⟨_, rfl⟩
  have hn := newMem_ok c0 c0_wf c0_ok
  rw [← hL] at hl hn
  have HN := Lib.hid hn
  have HL := Lib.hid hl
  have hq := eql_acc
  have hb4 := build_acc4
  have hgd := guard_acc
  clear hn hl hL
  go_enter Try.func23, Try.ntmps23
  go_wp2_with fail
  refine (HN.out _).mono ?_
  rintro e w1 ⟨g, gl, cap, rfl, M1, hb1⟩
  go_wp2_with fail
  refine (store_in M1 5 (by rw [HL.out]; omega) (by rw [HL.out]; omega) 5).mono ?_
  rintro e w2 ⟨rfl, M2, t2⟩
  have ha := add_in M2 5 (by rw [List.length_set, HL.out]; omega) (by rw [List.length_set, HL.out]; omega) 3
  rw [List.getElem_set_self, show IntKind.u64.wrap (5 + 3) = 8 by decide] at ha
  have HA := Lib.hid ha
  clear ha
  go_wp2_with fail
  refine HA.out.mono ?_
  rintro e w3 ⟨rfl, M3, t3⟩
  have x3 := M3.B.cells
  have hp := peek_in M3 5 (by rw [List.length_set, List.length_set, HL.out]; omega) (by rw [List.length_set, List.length_set, HL.out]; omega)
  rw [List.getElem_set_self] at hp
  have HP := Lib.hid hp
  clear hp
  go_wp2_with fail
  refine HP.out.mono ?_
  rintro e w4 ⟨rfl, rfl⟩
  go_wp2
  go_ret
  exact ⟨rfl, hb1.trans ((t2.trans t3).below M1.g0 M1.gl0 hb1.size)⟩
set_option maxHeartbeats 2000000 in
theorem memoryFirst_no (c : Cfg) (hf : c.Wf) (h : chk c ≠ 0) (at_ x : Int) (w : World) : Calls Try.prog 5 #[cv c, .int .i64 at_, .int .u64 x] w fun e w' => e = .returned (.bool true) ∧ Below w.heap.size w w' := by
  have hv1 : (chk c != 0) = true := by simp [h]
  have hv2 : (chk c == 0) = false := by simp [h]
  have HN := Lib.hid (newMem_no c hf h)
  clear h
  go_enter Try.func5, Try.ntmps5
  go_wp2_with fail
  refine (awake3 _).mono ?_
  rintro e w1 ⟨rfl, hb1⟩
  have C1 := (Bk.new w (ccM c) 24).keep hb1
  have hw1 : Below w.heap.size w w1 := ((Below.refl _ _).alloc (Nat.le_refl _) _).trans (hb1.mono (by simp))
  have x1 := C1.cells
  go_wp2_with fail
  refine (HN.out _).mono ?_
  rintro e w2 ⟨rfl, hb2⟩
  have C2 := C1.keep hb2
  have hw2 := hw1.trans (hb2.mono hw1.size)
  have x2 := C2.cells
  clear x1 C1 hw1 hb1 hb2
  go_wp2_with fail
  refine (refCheck c hf _).mono ?_
  rintro e w3 ⟨rfl, hb3⟩
  have HWX := hw2.trans (hb3.mono hw2.size)
  clear x2 C2 hb3 hw2
  go_wp2
  go_quiet (fail)
  have HWX := gro_drewN HWX (n := nq)
  go_wp2_with (first | (go_at_call 31; refine (store_nil _ _ _).mono ?_; rintro e v1 ⟨rfl, nb1⟩) | (go_at_call 37; refine (clear_nil _).mono ?_; rintro e v2 ⟨rfl, rfl⟩) | (go_at_call 29; refine (load_nil _ _).mono ?_; rintro e v3 ⟨rfl, nb3⟩) | (go_at_call 33; refine (cas_nil _ _ _ _).mono ?_; rintro e v4 ⟨rfl, nb4⟩) | (go_at_call 35; refine (add_nil _ _ _).mono ?_; rintro e v5 ⟨rfl, nb5⟩) | (go_at_call 38; refine (peek_nil _ _).mono ?_; rintro e v6 ⟨rfl, rfl⟩) | (go_at_call 41; refine (all_nil _).mono ?_; rintro e v7 ⟨rfl, rfl⟩) | (go_at_call 39; refine (copy_nil _).mono ?_; rintro e v8 ⟨rfl, rfl⟩))
  go_ret
  exact ⟨rfl, HWX.trans (((nb1.trans (nb3.mono nb1.size)).trans (nb4.mono (by have := nb1.size; have := nb3.size; omega))).trans (nb5.mono (by have := nb1.size; have := nb3.size; have := nb4.size; omega)) |>.mono HWX.size)⟩
set_option maxHeartbeats 4000000 in
theorem memoryFirst_ok (c : Cfg) (hf : c.Wf) (h : Ok c) (at_ x : Int) (w : World) : Calls Try.prog 5 #[cv c, .int .i64 at_, .int .u64 x] w fun e w' => e = .returned (.bool true) ∧ Below w.heap.size w w' := by
  have HN := Lib.hid (newMem_ok c hf h)
  have hr := refCheck c hf
  rw [chk_ok.2 h] at hr
  have HR := Lib.hid hr
  have hmax : (firstL c).length ≤ 1000 := by
    have hl := firstL_len h
    have h2 := tot_ok (okB_of_ok h)
    have h3 := h.ww
    have h4 := h.sl
    have h5 := h.wd
    have h6 := h.en
    rw [siz, if_pos (okB_of_ok h)] at hl
    have := mul_range (a := c.sl * c.bl) (b := 1 + c.wd) (A := 128) (B := 5) h2.2.1 h2.2.2 (by omega) (by omega)
    omega
  have hq0 := neq_acc0
  have hb0 := build_acc0
  have hgd := guard_acc
  clear hr
  go_enter Try.func5, Try.ntmps5
  go_wp2_with fail
  refine (awake3 _).mono ?_
  rintro e w1 ⟨rfl, hb1⟩
  have C1 := (Bk.new w (ccM c) 24).keep hb1
  have hw1 : Below w.heap.size w w1 := ((Below.refl _ _).alloc (Nat.le_refl _) _).trans (hb1.mono (by simp))
  have x1 := C1.cells
  go_wp2_with fail
  refine (HN.out _).mono ?_
  rintro e w2 ⟨g, gl, cap, rfl, M2, hb2⟩
  have C2 := C1.keep hb2
  have hw2 := hw1.trans (hb2.mono hw1.size)
  have x2 := C2.cells
  clear x1 C1 hw1 hb1 hb2
  go_wp2_with fail
  refine (HR.out _).mono ?_
  rintro e w3 ⟨rfl, hb3⟩
  have C3 := C2.keep hb3
  have M3 := M2.keep hb3
  have hw3 := hw2.trans (hb3.mono hw2.size)
  clear x2 C2 hb3 hw2
  have M3' := M3.keep ((Below.refl w3.heap.size w3).drew)
  have hw3' := hw3.drew
  clear hw3 M3 M2 HN HR
  go_wp2
  go_region_held3 (fun w' => (w'.cell? ⟨w.heap.size, 0, none⟩ = some (.int .i64 c.ww) ∧ w'.cell? ⟨w.heap.size, 1, none⟩ = some (.int .i64 c.sl) ∧ w'.cell? ⟨w.heap.size, 2, none⟩ = some (.int .i64 c.bl) ∧ w'.cell? ⟨w.heap.size, 3, none⟩ = some (.int .i64 c.wd) ∧ w'.cell? ⟨w.heap.size, 4, none⟩ = some (.int .i64 c.en) ∧ w'.cell? ⟨w.heap.size, 5, none⟩ = some (.int .i64 c.rk) ∧ w'.cell? ⟨w.heap.size, 6, none⟩ = some (.int .i64 c.bg) ∧ w'.cell? ⟨w.heap.size, 7, none⟩ = some (.int .u64 c.la)) ∧ (w'.cell? ⟨g, 8, none⟩ = some (.int .i64 0) ∧ w'.cell? ⟨g, 9, none⟩ = some (.int .i64 0) ∧ w'.cell? ⟨g, 10, none⟩ = some (.int .u64 0) ∧ w'.cell? ⟨g, 11, none⟩ = some (.int .u64 0) ∧ w'.cell? ⟨g, 12, none⟩ = some (.int .u64 0))) (first | exact ⟨box8 (w := w3.drew) C3, acc5 M3'⟩ | exact ⟨box8 C7, acc5 M7⟩ | exact ⟨box8 C6, acc5 M6⟩ | exact ⟨box8 C5, acc5 M5⟩) (first | (go_at_call 41; refine (all_in M3' hmax).mono ?_; rintro e w5 ⟨y, rfl, hy, hb5⟩; have C5 := Bk.keep (w := w3.drew) C3 hb5; have M5 := M3'.keep hb5; have R5 := Reads.of_own hy rfl; have hw5 := hw3'.trans (hb5.mono hw3'.size)) | (go_at_call 43; refine (refFirst c hf _).mono ?_; rintro e w6 ⟨v6, rfl, R6, hb6⟩; have C6 := Bk.keep C5 hb6; have M6 := M5.keep hb6; have R56 := R5.keep hb6; have hw6 := hw5.trans (hb6.mono hw5.size)) | (go_at_call 40; refine (same R56 R6).mono ?_; rw [dec_self]; rintro e w7 ⟨rfl, hb7⟩; have C7 := Bk.keep C6 hb7; have M7 := M6.keep hb7; have HWX := hw6.trans (hb7.mono hw6.size)))
  go_wp2_with (first | (go_at_call 31; refine (store_nil _ _ _).mono ?_; rintro e v1 ⟨rfl, nb1⟩) | (go_at_call 37; refine (clear_nil _).mono ?_; rintro e v2 ⟨rfl, rfl⟩) | (go_at_call 29; refine (load_nil _ _).mono ?_; rintro e v3 ⟨rfl, nb3⟩) | (go_at_call 33; refine (cas_nil _ _ _ _).mono ?_; rintro e v4 ⟨rfl, nb4⟩) | (go_at_call 35; refine (add_nil _ _ _).mono ?_; rintro e v5 ⟨rfl, nb5⟩) | (go_at_call 38; refine (peek_nil _ _).mono ?_; rintro e v6 ⟨rfl, rfl⟩) | (go_at_call 41; refine (all_nil _).mono ?_; rintro e v7 ⟨rfl, rfl⟩) | (go_at_call 39; refine (copy_nil _).mono ?_; rintro e v8 ⟨rfl, rfl⟩))
  go_ret
  exact ⟨rfl, HWX.trans (((nb1.trans (nb3.mono nb1.size)).trans (nb4.mono (by have := nb1.size; have := nb3.size; omega))).trans (nb5.mono (by have := nb1.size; have := nb3.size; have := nb4.size; omega)) |>.mono HWX.size)⟩
theorem memoryFirst (c : Cfg) (hf : c.Wf) (at_ x : Int) (w : World) : Calls Try.prog 5 #[cv c, .int .i64 at_, .int .u64 x] w fun e w' => e = .returned (.bool true) ∧ Below w.heap.size w w' := by
  by_cases hv : chk c = 0
  · exact memoryFirst_ok c hf (chk_ok.1 hv) at_ x w
  · exact memoryFirst_no c hf hv at_ x w
end Go.Proofs.Yteppofpmbmmcaaa.Me
