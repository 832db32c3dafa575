/- entry.Step of no memory (made by gennil.py). -/
import Derived.Test.YtblkfbbdeodpjaaStepFn
import Derived.Test.YtblkfbbdeodpjaaBigCopy
namespace Go.Proofs.Ytblkfbbdeodpjaa.Me
open Go Go.RowKit Go.Proofs.Ytblkfbbdeodpjaa.Gro Go.Proofs.Ytblkfbbdeodpjaa.Own Go.Proofs.Ytblkfbbdeodpjaa.Wd Go.Proofs.Ytblkfbbdeodpjaa.Ap Go.Proofs.Ytblkfbbdeodpjaa.Pl Go.Proofs.Ytblkfbbdeodpjaa.Wo
set_option linter.unusedVariables false
set_option linter.unusedSimpArgs false
set_option maxRecDepth 10000 in
set_option maxHeartbeats 4000000 in
theorem entryNil (s : Wk) (x : St) (hx : Few bigN x) (w : World) (h : Lies w s x) :
    Calls Try.prog 37 #[.pointer none, wv s] w fun e w' => ∃ s2, e = .returned (.tuple #[wv s2, .int .i64 0, .bool false]) ∧ Below w.heap.size w w' := by
  have T0 := Two.start w s
  go_enter Try.func37, Try.ntmps37
  go_wp2_with (first | ((with_reducible refine wpList_alloc_wz rfl rfl ?_)) | (refine wpList_load_row rfl 46 _ rfl w.heap.size rfl _ (wc s) (0, 0) _ (by exact T0.X) Try.underlying46 rfl (by kernel_rfl) ?_))
  refine (copyWorkB s x hx _ (h.keep T0.below)).mono ?_
  rintro e w1 ⟨s1, rfl, A1, hb1⟩
  have T1 := T0.keep hb1
  have T2 := T1.rowX s1
  clear A1 hb1 T0
  go_wp2_with (first | (refine wpList_store_row rfl 46 _ _ rfl w.heap.size (wc s1) rfl rfl _ _ (by exact T1.X) (by kernel_rfl) (by kernel_rfl) (by kernel_rfl) ?_) | (refine wpList_load_row rfl 46 _ rfl w.heap.size rfl _ (wc s1) (0, 0) _ (by exact T2.X) Try.underlying46 rfl (by kernel_rfl) ?_) | (refine wpList_store_row rfl 46 _ _ rfl (w.heap.size + 1) (wc s1) rfl rfl _ _ (by exact T2.Z) (by kernel_rfl) (by kernel_rfl) (by kernel_rfl) ?_))
  have ZF := T2.Z.setRow (wc s1)
  refine bodyPost_ret (v := .tuple #[wv s1, .int .i64 0, .bool false]) ?_ rfl ⟨_, rfl, below_setRow T2.below (by omega) _⟩
  exact Rw.results_cell_slot2 (p := 4) (q := 5) (r := 6) (ty := 46) Try.results37 _ _ (w.heap.size + 1) 46 _ (0, 0) _ rfl ZF Try.underlying46 rfl (by kernel_rfl)
end Go.Proofs.Ytblkfbbdeodpjaa.Me
