/- The example of layer 4 (made by genrackaw.py). -/
import Derived.Test.YticgpikpefgldaaRackPut
import Derived.Test.YticgpikpefgldaaQuietRow
namespace Go.Proofs.Yticgpikpefgldaa.Wo
open Go Go.RowKit Go.Proofs.Yticgpikpefgldaa.Gro Go.Proofs.Yticgpikpefgldaa.Own Go.Proofs.Yticgpikpefgldaa.Wd Go.Proofs.Yticgpikpefgldaa.Ap Go.Proofs.Yticgpikpefgldaa.Pl
set_option linter.unusedVariables false
set_option linter.unusedSimpArgs false

def zS : St := ⟨pz, [], [], [], [], [], []⟩
theorem lies_z (w : World) : Lies w wz zS := ⟨rfl, Reads.nil _ _, Reads.nil _ _, Reads.nil _ _, Reads.nil _ _, Reads.nil _ _, Reads.nil _ _⟩
theorem build_wz (w : World) : (Instr.build 34 #[]).run Try.prog w = .ok (wv wz) w := run_build w _ _ _ (by kernel_rfl)
theorem few_z : Few 0 zS := ⟨Nat.le_refl _, Nat.le_refl _, Nat.le_refl _, Nat.le_refl _, Nat.le_refl _, Nat.le_refl _⟩
/-- A variable that is made and then set. -/
theorem boxed_bk (w : World) (s : Wk) : Bk ((w.alloc (.cells (wc wz) 34)).setRow w.heap.size (wc s)) w.heap.size (wc s) 34 := (Bk.new w (wc wz) 34).setRow _
theorem boxed_below (w : World) (s : Wk) : Below w.heap.size w ((w.alloc (.cells (wc wz) 34)).setRow w.heap.size (wc s)) := below_setRow ((Below.refl _ _).alloc (Nat.le_refl _) _) (Nat.le_refl _) _
theorem run_alloc_wz (w : World) : (Instr.alloc 34 true (.tuple #[])).run Try.prog w = .ok (.pointer (some ⟨w.heap.size, 0, none⟩)) (w.alloc (.cells (wc wz) 34)) := by kernel_rfl
theorem wpList_alloc_wz {ops : Array Oper} {rest : List Oper} {o : Oper} {a : Act} {w : World} {Q : Exit → Act → World → Prop} (hg : o.guard = none) (ho : o.op = .alloc 34)
    (h : wpList Try.prog ops Q rest (a.put o.dst (.pointer (some ⟨w.heap.size, 0, none⟩))) (w.alloc (.cells (wc wz) 34))) : wpList Try.prog ops Q (o :: rest) a w := by
  refine wpList_plain hg fun K hK => ?_
  unfold Oper.wp
  simp [execOp, ho, run_alloc_wz, Result.andThen]
  exact hK _ _ h
abbrev c4 : Cfg := ⟨0, 0, 0, 0, 0, 1, 0, 0⟩
theorem build_c4 (w : World) : (Instr.build 24 #[(5, .int .i64 1)]).run Try.prog w = .ok (cv c4) w := run_build w _ _ _ (by kernel_rfl)
end Go.Proofs.Yticgpikpefgldaa.Wo
