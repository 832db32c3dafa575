/- Layer 12: the laws, walked. -/
import Derived.Test.YtononcokdlkjdaaDoorOpParse
namespace Go.Proofs.YtononcokdlkjdaaDoor.Opw
open Go Go.RowKit Go.ChangeMaps Go.Proofs.YtononcokdlkjdaaDoor.Gro Go.Proofs.YtononcokdlkjdaaDoor.Own Go.Proofs.YtononcokdlkjdaaDoor.Mr Go.Proofs.YtononcokdlkjdaaDoor.Opn
set_option linter.unusedVariables false
set_option linter.unusedSimpArgs false
abbrev opW : OpD := ⟨5, 0, 7, 0, true, 1, 0⟩
abbrev txW : List UInt8 := [119, 114, 105, 116, 101, 32, 64, 49, 46, 48, 32, 55]
theorem text_W : text opW = txW := by
  have h1 : dec 1 = [49] := Lib.decDigits_one (by decide)
  have h2 : dec 0 = [48] := Lib.decDigits_one (by decide)
  have h3 : dec 7 = [55] := Lib.decDigits_one (by decide)
  have h4 : tick opW = [64, 49, 46, 48] := by unfold tick; rw [if_pos rfl, h1, h2]; rfl
  have h5 : words opW = [name 5, [64, 49, 46, 48], [55]] := by
    unfold words parts
    rw [h4, h3]
    rfl
  unfold text
  rw [h5]
  decide
theorem fits_W : opW.Fits := ⟨by decide, by decide, by decide, by decide, by decide, by decide⟩
theorem parse_W : parseL txW = some opW := by
  rw [← text_W]
  exact parse_text fits_W (by decide)
theorem build_W (u : World) : (Instr.build 24 #[(0, .int .i64 5), (4, .bool true), (5, .int .i64 1), (2, .int .u64 7)]).run Tryd.prog u = .ok (.agg (opC opW)) u := run_build u _ _ _ (by kernel_rfl)
set_option maxRecDepth 100000 in
set_option maxHeartbeats 16000000 in
theorem awake (w : World) (L : Lb w) : Calls Tryd.prog 6 #[] w fun e w' => e = .returned (.bool true) ∧ Below w.heap.size w w' := by
  have hP := fParse txW (by decide) w L
  unfold ParsePost at hP
  rw [parse_W] at hP
  simp only [Option.getD_some, Option.isSome_some, if_true] at hP
  have HP := Lib.hid hP
  have hz0 := zero_op
  have hbw := build_W
  clear hP
  go_enter Tryd.func6, Tryd.ntmps6
  go_wp2_with fail
  refine HP.out.mono ?_
  rintro e w1 ⟨rfl, hb1⟩
  have sz1 := hb1.size
  have X2 := Bk.new w1 (opC OpD.zero) 24
  obtain ⟨w3, hw3⟩ : ∃ q, q = (w1.alloc (.cells (opC OpD.zero) 24)).setRow w1.heap.size (opC opW) := ⟨_, rfl⟩
  have X3 : Bk w3 w1.heap.size (opC opW) 24 := by rw [hw3]; exact X2.setRow _
  have b13 : Below w1.heap.size w1 w3 := by rw [hw3]; exact below_setRow ((Below.refl _ _).alloc (Nat.le_refl _) _) (Nat.le_refl _) _
  have b3 := hb1.trans (b13.mono sz1)
  clear b13 HP hb1
  go_wp2_with (first | ((refine wpList_store_row rfl 24 _ _ rfl w1.heap.size (opC opW) rfl rfl _ _ (by exact X2) (by kernel_rfl) (by kernel_rfl) (by kernel_rfl) ?_); rw [← hw3]; clear hw3 X2) | (refine wpList_load_row_w rfl 24 _ rfl w1.heap.size rfl _ (opC opW) (0, 0) _ (by exact X3) Tryd.underlying24 rfl (by kernel_rfl) ?_))
  go_ret
  exact ⟨rfl, b3⟩
end Go.Proofs.YtononcokdlkjdaaDoor.Opw
