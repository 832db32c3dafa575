/- memory.Copy. -/
import Derived.Test.YtgjkjobemnhbmaaMemFirstWalk
namespace Go.Proofs.Ytgjkjobemnhbmaa.Me
open Go Go.RowKit Go.Proofs.Ytgjkjobemnhbmaa.Gro Go.Proofs.Ytgjkjobemnhbmaa.Own Go.Proofs.Ytgjkjobemnhbmaa.Wd Go.Proofs.Ytgjkjobemnhbmaa.Ap Go.Proofs.Ytgjkjobemnhbmaa.Pl
set_option linter.unusedVariables false
set_option linter.unusedSimpArgs false
theorem memBox {base : Nat} {w : World} {g gl cap : Nat} {c : Cfg} {a : Acc} {L : List Int} (M : MemAt base w g c a gl cap L) : S8 c g w :=
  ⟨M.B.cells 0, M.B.cells 1, M.B.cells 2, M.B.cells 3, M.B.cells 4, M.B.cells 5, M.B.cells 6, M.B.cells 7⟩
set_option maxHeartbeats 1000000 in
theorem memCopy {base : Nat} {w : World} {g gl cap : Nat} {c : Cfg} {a : Acc} {L : List Int} (M : MemAt base w g c a gl cap L) (hm : L.length ≤ 1000) (h0 : 0 < L.length) :
    Calls Try.prog 27 #[.pointer (some ⟨g, 0, none⟩)] w fun e w' => ∃ g' gl' cap', e = .returned (.pointer (some ⟨g', 0, none⟩)) ∧ MemAt w.heap.size w' g' c a0 gl' cap' L ∧ Below w.heap.size w w' := by
  have hbm := build_mem c
  have HM := Lib.hid (And.intro hm h0)
  have MD := M.keep (w' := w.drew) (Below.drew (Below.refl _ _))
  clear hm h0
  go_enter Try.func27, Try.ntmps27
  go_wp2
  go_region_held3 (fun w' => w'.cell? ⟨g, 0, none⟩ = some (.int .i64 c.ww) ∧ w'.cell? ⟨g, 1, none⟩ = some (.int .i64 c.sl) ∧ w'.cell? ⟨g, 2, none⟩ = some (.int .i64 c.bl) ∧ w'.cell? ⟨g, 3, none⟩ = some (.int .i64 c.wd) ∧ w'.cell? ⟨g, 4, none⟩ = some (.int .i64 c.en) ∧ w'.cell? ⟨g, 5, none⟩ = some (.int .i64 c.rk) ∧ w'.cell? ⟨g, 6, none⟩ = some (.int .i64 c.bg) ∧ w'.cell? ⟨g, 7, none⟩ = some (.int .u64 c.la)) (first | exact memBox MD | exact memBox M5 | exact memBox (M5.keep ((Below.refl _ _).alloc (Nat.le_refl _) _))) ((go_at_call 29; refine (all_in MD HM.out.1).mono ?_; rintro e w5 ⟨y, rfl, hy, hb5⟩; have M5 := MD.keep hb5))
  go_wp2
  obtain ⟨gl', cap', hyv, hgl0, hgl1, hc1, hc2, _⟩ := owns_cells hy HM.out.2
  obtain ⟨ad, ln, cp⟩ := y
  simp only [Value.slice.injEq] at hyv
  obtain ⟨rfl, rfl, rfl⟩ := hyv
  go_ret
  have hw5 : Below w.heap.size w w5 := (Below.drew (Below.refl _ _)).trans hb5
  refine ⟨w5.heap.size, gl', cp, rfl, ⟨Bk.new w5 (mc c a0 ⟨some ⟨gl', 0, none⟩, L.length, cp⟩) _, ?_, hw5.size, by omega⟩, hw5.alloc hw5.size _⟩
  exact hy.alloc _
end Go.Proofs.Ytgjkjobemnhbmaa.Me
