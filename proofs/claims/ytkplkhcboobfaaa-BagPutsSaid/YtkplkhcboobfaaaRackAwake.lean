/- The example of layer 4 (made by genrackaw.py). -/
import Derived.Test.YtkplkhcboobfaaaRackPut
import Derived.Test.YtkplkhcboobfaaaQuietRow
namespace Go.Proofs.Ytkplkhcboobfaaa.Wo
open Go Go.RowKit Go.Proofs.Ytkplkhcboobfaaa.Gro Go.Proofs.Ytkplkhcboobfaaa.Own Go.Proofs.Ytkplkhcboobfaaa.Wd Go.Proofs.Ytkplkhcboobfaaa.Ap Go.Proofs.Ytkplkhcboobfaaa.Pl
set_option linter.unusedVariables false
set_option linter.unusedSimpArgs false

def zS : St := ⟨pz, [], [], [], [], [], []⟩
theorem lies_z (w : World) : Lies w wz zS := ⟨rfl, Reads.nil _ _, Reads.nil _ _, Reads.nil _ _, Reads.nil _ _, Reads.nil _ _, Reads.nil _ _⟩
theorem build_wz (w : World) : (Instr.build 63 #[]).run Try.prog w = .ok (wv wz) w := run_build w _ _ _ (by kernel_rfl)
theorem few_z : Few 0 zS := ⟨Nat.le_refl _, Nat.le_refl _, Nat.le_refl _, Nat.le_refl _, Nat.le_refl _, Nat.le_refl _⟩
/-- A variable that is made and then set. -/
theorem boxed_bk (w : World) (s : Wk) : Bk ((w.alloc (.cells (wc wz) 63)).setRow w.heap.size (wc s)) w.heap.size (wc s) 63 := (Bk.new w (wc wz) 63).setRow _
theorem boxed_below (w : World) (s : Wk) : Below w.heap.size w ((w.alloc (.cells (wc wz) 63)).setRow w.heap.size (wc s)) := below_setRow ((Below.refl _ _).alloc (Nat.le_refl _) _) (Nat.le_refl _) _
theorem run_alloc_wz (w : World) : (Instr.alloc 63 true (.tuple #[])).run Try.prog w = .ok (.pointer (some ⟨w.heap.size, 0, none⟩)) (w.alloc (.cells (wc wz) 63)) := by kernel_rfl
theorem wpList_alloc_wz {ops : Array Oper} {rest : List Oper} {o : Oper} {a : Act} {w : World} {Q : Exit → Act → World → Prop} (hg : o.guard = none) (ho : o.op = .alloc 63)
    (h : wpList Try.prog ops Q rest (a.put o.dst (.pointer (some ⟨w.heap.size, 0, none⟩))) (w.alloc (.cells (wc wz) 63))) : wpList Try.prog ops Q (o :: rest) a w := by
  refine wpList_plain hg fun K hK => ?_
  unfold Oper.wp
  simp [execOp, ho, run_alloc_wz, Result.andThen]
  exact hK _ _ h
abbrev c4 : Cfg := ⟨0, 0, 0, 0, 0, 1, 0, 0⟩
theorem build_c4 (w : World) : (Instr.build 24 #[(5, .int .i64 1)]).run Try.prog w = .ok (cv c4) w := run_build w _ _ _ (by kernel_rfl)
set_option maxRecDepth 100000 in
set_option maxHeartbeats 1000000 in
theorem awake4 (w : World) : Calls Try.prog 29 #[] w fun e w' => e = .returned (.bool true) ∧ Below w.heap.size w w' := by
  have hp1 := rackPut c4 wz zS (few_z.mono (by omega)) 4
  rw [show putS c4.rk zS 4 = { zS with rk := [4] } from rfl, show decide ((zS.rk.length : Int) < c4.rk) = true from rfl] at hp1
  have HP1 := Lib.hid hp1
  have hp2 : ∀ s : Wk, ∀ w : World, Lies w s { zS with rk := [4] } → _ := fun s w h => rackPut c4 s { zS with rk := [4] } ⟨by decide, by decide, by decide, by decide, by decide, by decide⟩ 5 w h
  have HP2 := Lib.hid hp2
  have ht : ∀ s : Wk, ∀ w : World, Lies w s { zS with rk := [4] } → _ := fun s w h => rackTake s { zS with rk := [4] } ⟨by decide, by decide, by decide, by decide, by decide, by decide⟩ w h
  have HT := Lib.hid ht
  clear hp1 hp2 ht
  have hb0 := build_c4
  have hbz := build_wz
  go_enter Try.func29, Try.ntmps29
  go_wp2_with fail
  refine (HP1.out _ (lies_z _)).mono ?_
  rintro e w1 ⟨s1, rfl, L1, hb1⟩
  have C1 := (Bk.new w (ccW c4) 24).keep hb1
  have hw1 : Below w.heap.size w w1 := ((Below.refl _ _).alloc (Nat.le_refl _) _).trans (hb1.mono (by simp))
  have Z1 := Bk.new w1 (wc wz) 63
  have X2 := boxed_bk w1 s1
  have B2 := boxed_below w1 s1
  have L2 := L1.lies.keep B2
  have C2 := C1.keep B2
  have c2 := C2.cells
  have hw2 := hw1.trans (B2.mono hw1.size)
  clear hb1
  go_wp2_with (first | (refine wpList_alloc_wz rfl rfl ?_) | (refine wpList_store_row rfl 63 _ _ rfl (w1.heap.size) (wc s1) rfl rfl _ _ (by exact Z1) (by kernel_rfl) (by kernel_rfl) (by kernel_rfl) ?_) | (refine wpList_load_row rfl 63 _ rfl (w1.heap.size) rfl _ (wc s1) (0, 0) _ (by exact X2) Try.underlying63 rfl (by kernel_rfl) ?_))
  refine (HP2.out s1 _ L2).mono ?_
  rintro e w3 ⟨s3, rfl, L3, hb3⟩
  have X3 := X2.keep hb3
  have C3 := C2.keep hb3
  have L3' := L2.keep hb3
  have hw3 := hw2.trans (hb3.mono hw2.size)
  have Z3 := Bk.new w3 (wc wz) 63
  have X4 := X3.keep (boxed_below w3 s3)
  have L4 := L3'.keep (boxed_below w3 s3)
  have hw4 := hw3.trans ((boxed_below w3 s3).mono hw3.size)
  clear c2 hb3 hw2 B2 hw1 Z1
  go_wp2_with (first | (refine wpList_alloc_wz rfl rfl ?_) | (refine wpList_store_row rfl 63 _ _ rfl (w3.heap.size) (wc s3) rfl rfl _ _ (by exact Z3) (by kernel_rfl) (by kernel_rfl) (by kernel_rfl) ?_) | (refine wpList_load_row rfl 63 _ rfl (w1.heap.size) rfl _ (wc s1) (0, 0) _ (by exact X4) Try.underlying63 rfl (by kernel_rfl) ?_))
  refine (HT.out s1 _ L4).mono ?_
  rintro e w5 ⟨s5, rfl, L5, hb5⟩
  have hw5 := hw4.trans (hb5.mono hw4.size)
  have Z5 := Bk.new w5 (wc wz) 63
  clear hb5
  go_wp2_with (first | (refine wpList_alloc_wz rfl rfl ?_) | (refine wpList_store_row rfl 63 _ _ rfl (w5.heap.size) (wc s5) rfl rfl _ _ (by exact Z5) (by kernel_rfl) (by kernel_rfl) (by kernel_rfl) ?_))
  go_ret
  exact ⟨rfl, hw5.trans ((boxed_below w5 s5).mono hw5.size)⟩
end Go.Proofs.Ytkplkhcboobfaaa.Wo
