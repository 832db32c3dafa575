/- The law MemoryFirst, walked. -/
import Derived.Test.YtgpdkagmacpghaaGreatMems
namespace Go.Proofs.YtgpdkagmacpghaaGreat.Me
open Go Go.RowKit Go.Proofs.YtgpdkagmacpghaaGreat.Gro Go.Proofs.YtgpdkagmacpghaaGreat.Own Go.Proofs.YtgpdkagmacpghaaGreat.Wd Go.Proofs.YtgpdkagmacpghaaGreat.Ap Go.Proofs.YtgpdkagmacpghaaGreat.Pl
set_option linter.unusedVariables false
set_option linter.unusedSimpArgs false

section
variable {base : Nat} {w : World} {g gl cap : Nat} {c : Cfg} {a : Acc} {L : List Int}
theorem MemAt.reads (M : MemAt base w g c a gl cap L) : Reads w .u64 (.slice (some ⟨gl, 0, none⟩) L.length cap) L := Reads.of_own M.W rfl
theorem all_in (M : MemAt base w g c a gl cap L) (hm : L.length ≤ 1000) : Calls Tryz.prog 56 #[.pointer (some ⟨g, 0, none⟩)] w fun e w' => ∃ y : Sl, e = .returned y.v ∧ w'.ownsRow w.heap.size 22 1 y.v L.length (L.map (.int .u64)) ∧ Below w.heap.size w w' := by
  have x := M.B.cells
  have hr := M.reads
  go_enter Tryz.func56, Tryz.ntmps56
  go_wp2_with fail
  refine (clone (v := ⟨some ⟨gl, 0, none⟩, L.length, cap⟩) hm hr).mono ?_
  rintro e w1 ⟨y, rfl, hy, hb1⟩
  go_wp2
  go_ret
  exact ⟨y, rfl, hy, hb1⟩
end
theorem acc5 {base : Nat} {w : World} {g gl cap : Nat} {c : Cfg} {L : List Int} (M : MemAt base w g c a0 gl cap L) : w.cell? ⟨g, 8, none⟩ = some (.int .i64 0) ∧ w.cell? ⟨g, 9, none⟩ = some (.int .i64 0) ∧ w.cell? ⟨g, 10, none⟩ = some (.int .u64 0) ∧ w.cell? ⟨g, 11, none⟩ = some (.int .u64 0) ∧ w.cell? ⟨g, 12, none⟩ = some (.int .u64 0) :=
  ⟨M.B.cells 8, M.B.cells 9, M.B.cells 10, M.B.cells 11, M.B.cells 12⟩
theorem dec_self (l : List Int) : decide (l = l) = true := by simp
theorem eql_acc (w : World) : (binOp .eql 62 (av ⟨4, 5, 3, 0, 5⟩) (av ⟨4, 5, 3, 0, 5⟩)).run Tryz.prog w = .ok (.bool true) w := by kernel_rfl
theorem neq_acc0 (w : World) : (binOp .neq 62 (av a0) (av a0)).run Tryz.prog w = .ok (.bool false) w := by kernel_rfl
theorem guard_acc : Tryz.prog.eqGuardType Tryz.prog.depth 62 = false := by kernel_rfl
theorem build_acc4 (w : World) : (Instr.build 62 #[(0, .int .i64 4), (1, .int .i64 5), (2, .int .u64 3), (4, .int .u64 5)]).run Tryz.prog w = .ok (av ⟨4, 5, 3, 0, 5⟩) w := run_build w _ _ _ (by kernel_rfl)
theorem build_acc0 (w : World) : (Instr.build 62 #[]).run Tryz.prog w = .ok (av a0) w := run_build w _ _ _ (by kernel_rfl)
end Go.Proofs.YtgpdkagmacpghaaGreat.Me
