/- The example of layer 5 (made by genbagaw.py). -/
import Derived.Test.YtkplkhcboobfaaaBagPut
import Derived.Test.YtkplkhcboobfaaaBagRipe
import Derived.Test.YtkplkhcboobfaaaHeldRow
namespace Go.Proofs.Ytkplkhcboobfaaa.Wo
open Go Go.RowKit Go.Proofs.Ytkplkhcboobfaaa.Gro Go.Proofs.Ytkplkhcboobfaaa.Own Go.Proofs.Ytkplkhcboobfaaa.Wd Go.Proofs.Ytkplkhcboobfaaa.Ap Go.Proofs.Ytkplkhcboobfaaa.Pl
set_option linter.unusedVariables false
set_option linter.unusedSimpArgs false

abbrev c5 : Cfg := ⟨0, 0, 0, 0, 0, 0, 1, 0⟩
def pE : Pl := { pz with ep := 2 }
def wE : Wk := { wz with p := pE }
def xE : St := { zS with p := pE }
def x5 : St := { zS with p := { pE with t0 := 3 }, l0 := [7] }
theorem lies_E (w : World) : Lies w wE xE := ⟨rfl, Reads.nil _ _, Reads.nil _ _, Reads.nil _ _, Reads.nil _ _, Reads.nil _ _, Reads.nil _ _⟩
theorem build_c5 (w : World) : (Instr.build 24 #[(6, .int .i64 1)]).run Try.prog w = .ok (cv c5) w := run_build w _ _ _ (by kernel_rfl)
theorem build_wE (w : World) : (Instr.build 63 #[(3, .int .u64 2)]).run Try.prog w = .ok (wv wE) w := run_build w _ _ _ (by kernel_rfl)
theorem put_5 : putB c5.bg xE 7 = (x5, true) := by decide
theorem ripe_54 : ripeS x5 4 = x5 := by decide
theorem ripe_55 : ripeS x5 5 = { x5 with p := { x5.p with t0 := 0 }, l0 := [], hl := [7] } := by decide
set_option maxRecDepth 100000 in
set_option maxHeartbeats 1000000 in
theorem awake5 (w : World) : Calls Try.prog 35 #[] w fun e w' => e = .returned (.bool true) ∧ Below w.heap.size w w' := by
  have hp1 := bagPut c5 wE xE ⟨by decide, by decide, by decide, by decide, by decide, by decide⟩ 7
  rw [put_5] at hp1
  have HP1 := Lib.hid hp1
  have hr4 : ∀ s : Wk, ∀ w : World, Lies w s x5 → _ := fun s w h => bagRipe s x5 ⟨by decide, by decide, by decide, by decide, by decide, by decide⟩ 4 (by decide) w h
  have hr5 : ∀ s : Wk, ∀ w : World, Lies w s x5 → _ := fun s w h => bagRipe s x5 ⟨by decide, by decide, by decide, by decide, by decide, by decide⟩ 5 (by decide) w h
  rw [ripe_54] at hr4
  rw [ripe_55] at hr5
  have HR4 := Lib.hid hr4
  have HR5 := Lib.hid hr5
  clear hp1 hr4 hr5
  have hb0 := build_c5
  have hbz := build_wE
  have e11 : ∀ s : Wk, (wc s)[11]? = some (.int .u64 s.p.t0) := fun _ => rfl
  go_enter Try.func35, Try.ntmps35
  go_wp2_with fail
  refine (HP1.out _ (lies_E _)).mono ?_
  rintro e w1 ⟨s1, rfl, L1, hb1⟩
  have hw1 : Below w.heap.size w w1 := hb1
  have Z1 := Bk.new w1 (wc wz) 63
  have X2 := boxed_bk w1 s1
  have B2 := boxed_below w1 s1
  have L2 := L1.lies.keep B2
  have hw2 := hw1.trans (B2.mono hw1.size)
  have hp : s1.p.t0 = 3 := by rw [L1.p]; rfl
  have x2 := X2.cells
  have ec := e11 s1
  rw [hp] at ec
  clear e11 hp hb1
  go_wp2_with (first | (refine wpList_alloc_wz rfl rfl ?_) | (refine wpList_store_row rfl 63 _ _ rfl (w1.heap.size) (wc s1) rfl rfl _ _ (by exact Z1) (by kernel_rfl) (by kernel_rfl) (by kernel_rfl) ?_) | (refine wpList_load_row_w rfl 63 _ rfl (w1.heap.size) rfl _ (wc s1) (0, 0) _ (by exact X2) Try.underlying63 rfl (by kernel_rfl) ?_))
  refine (HR4.out s1 _ L2).mono ?_
  rintro e w3 ⟨s3, rfl, L3, hb3⟩
  have X3 := X2.keep hb3
  have L3' := L2.keep hb3
  have hw3 := hw2.trans (hb3.mono hw2.size)
  have cnt := bagCount s3 x5 ⟨by decide, by decide, by decide, by decide, by decide, by decide⟩ w3 L3.lies
  have CNT := Lib.hid cnt
  clear cnt x2
  go_wp2_with fail
  refine CNT.out.mono ?_
  rintro e w4 ⟨rfl, hb4⟩
  have X4 := X3.keep hb4
  have L4 := L3'.keep hb4
  have hw4 := hw3.trans (hb4.mono hw3.size)
  clear CNT hb3 hb4
  go_wp2_with (refine wpList_load_row_w rfl 63 _ rfl (w1.heap.size) rfl _ (wc s1) (0, 0) _ (by exact X4) Try.underlying63 rfl (by kernel_rfl) ?_)
  refine (HR5.out s1 _ L4).mono ?_
  rintro e w5 ⟨s5, rfl, L5, hb5⟩
  have hw5 := hw4.trans (hb5.mono hw4.size)
  have CNT := Lib.hid (bagCount s5 { x5 with p := { x5.p with t0 := 0 }, l0 := [], hl := [7] } ⟨by decide, by decide, by decide, by decide, by decide, by decide⟩ w5 L5.lies)
  go_wp2_with fail
  refine CNT.out.mono ?_
  rintro e w6 ⟨rfl, hb6⟩
  have hw6 := hw5.trans (hb6.mono hw5.size)
  go_wp2_with fail
  go_ret
  exact ⟨rfl, hw6⟩
end Go.Proofs.Ytkplkhcboobfaaa.Wo
