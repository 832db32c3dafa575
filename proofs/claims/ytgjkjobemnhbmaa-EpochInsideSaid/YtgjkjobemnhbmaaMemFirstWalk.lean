/- The law MemoryFirst, walked. -/
import Derived.Test.YtgjkjobemnhbmaaMemIn
namespace Go.Proofs.Ytgjkjobemnhbmaa.Me
open Go Go.RowKit Go.Proofs.Ytgjkjobemnhbmaa.Gro Go.Proofs.Ytgjkjobemnhbmaa.Own Go.Proofs.Ytgjkjobemnhbmaa.Wd Go.Proofs.Ytgjkjobemnhbmaa.Ap Go.Proofs.Ytgjkjobemnhbmaa.Pl
set_option linter.unusedVariables false
set_option linter.unusedSimpArgs false

section
variable {base : Nat} {w : World} {g gl cap : Nat} {c : Cfg} {a : Acc} {L : List Int}
theorem MemAt.reads (M : MemAt base w g c a gl cap L) : Reads w .u64 (.slice (some ⟨gl, 0, none⟩) L.length cap) L := Reads.of_own M.W rfl
theorem all_in (M : MemAt base w g c a gl cap L) (hm : L.length ≤ 1000) : Calls Try.prog 29 #[.pointer (some ⟨g, 0, none⟩)] w fun e w' => ∃ y : Sl, e = .returned y.v ∧ w'.ownsRow w.heap.size 22 1 y.v L.length (L.map (.int .u64)) ∧ Below w.heap.size w w' := by
  have x := M.B.cells
  have hr := M.reads
  go_enter Try.func29, Try.ntmps29
  go_wp2_with fail
  refine (clone (v := ⟨some ⟨gl, 0, none⟩, L.length, cap⟩) hm hr).mono ?_
  rintro e w1 ⟨y, rfl, hy, hb1⟩
  go_wp2
  go_ret
  exact ⟨y, rfl, hy, hb1⟩
end
theorem acc5 {base : Nat} {w : World} {g gl cap : Nat} {c : Cfg} {L : List Int} (M : MemAt base w g c a0 gl cap L) : w.cell? ⟨g, 8, none⟩ = some (.int .i64 0) ∧ w.cell? ⟨g, 9, none⟩ = some (.int .i64 0) ∧ w.cell? ⟨g, 10, none⟩ = some (.int .u64 0) ∧ w.cell? ⟨g, 11, none⟩ = some (.int .u64 0) ∧ w.cell? ⟨g, 12, none⟩ = some (.int .u64 0) :=
  ⟨M.B.cells 8, M.B.cells 9, M.B.cells 10, M.B.cells 11, M.B.cells 12⟩
theorem dec_self (l : List Int) : decide (l = l) = true := by simp
theorem eql_acc (w : World) : (binOp .eql 39 (av ⟨4, 5, 3, 0, 5⟩) (av ⟨4, 5, 3, 0, 5⟩)).run Try.prog w = .ok (.bool true) w := by kernel_rfl
theorem neq_acc0 (w : World) : (binOp .neq 39 (av a0) (av a0)).run Try.prog w = .ok (.bool false) w := by kernel_rfl
theorem guard_acc : Try.prog.eqGuardType Try.prog.depth 39 = false := by kernel_rfl
theorem build_acc4 (w : World) : (Instr.build 39 #[(0, .int .i64 4), (1, .int .i64 5), (2, .int .u64 3), (4, .int .u64 5)]).run Try.prog w = .ok (av ⟨4, 5, 3, 0, 5⟩) w := run_build w _ _ _ (by kernel_rfl)
theorem build_acc0 (w : World) : (Instr.build 39 #[]).run Try.prog w = .ok (av a0) w := run_build w _ _ _ (by kernel_rfl)
set_option maxHeartbeats 1000000 in
theorem awake3 (w : World) : Calls Try.prog 11 #[] w fun e w' => e = .returned (.bool true) ∧ Below w.heap.size w w' := by
  have hb := build_c0
  have hl : (firstL c0).length = 11 := by have := firstL_len c0_ok; have : siz c0 = 11 := by decide
                                          omega
  obtain ⟨L, hL⟩ : ∃ L, L = firstL c0 := ⟨_, rfl⟩
  have hn := newMem_ok c0 c0_wf c0_ok
  rw [← hL] at hl hn
  have HN := Lib.hid hn
  have HL := Lib.hid hl
  have hq := eql_acc
  have hb4 := build_acc4
  have hgd := guard_acc
  clear hn hl hL
  go_enter Try.func11, Try.ntmps11
  go_wp2_with fail
  refine (HN.out _).mono ?_
  rintro e w1 ⟨g, gl, cap, rfl, M1, hb1⟩
  go_wp2_with fail
  refine (store_in M1 5 (by rw [HL.out]; omega) (by rw [HL.out]; omega) 5).mono ?_
  rintro e w2 ⟨rfl, M2, t2⟩
  have ha := add_in M2 5 (by rw [List.length_set, HL.out]; omega) (by rw [List.length_set, HL.out]; omega) 3
  rw [List.getElem_set_self, show IntKind.u64.wrap (5 + 3) = 8 by decide] at ha
  have HA := Lib.hid ha
  clear ha
  go_wp2_with fail
  refine HA.out.mono ?_
  rintro e w3 ⟨rfl, M3, t3⟩
  have x3 := M3.B.cells
  have hp := peek_in M3 5 (by rw [List.length_set, List.length_set, HL.out]; omega) (by rw [List.length_set, List.length_set, HL.out]; omega)
  rw [List.getElem_set_self] at hp
  have HP := Lib.hid hp
  clear hp
  go_wp2_with fail
  refine HP.out.mono ?_
  rintro e w4 ⟨rfl, rfl⟩
  go_wp2
  go_ret
  exact ⟨rfl, hb1.trans ((t2.trans t3).below M1.g0 M1.gl0 hb1.size)⟩
end Go.Proofs.Ytgjkjobemnhbmaa.Me
