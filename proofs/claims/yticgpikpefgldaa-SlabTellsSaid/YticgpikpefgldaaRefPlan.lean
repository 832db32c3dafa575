/- Contracts of the reference of layer 2: Check, Home. -/
import Derived.Test.YticgpikpefgldaaPlanAddr
namespace Go.Proofs.Yticgpikpefgldaa.Pl
open Go Go.RowKit Go.Proofs.Yticgpikpefgldaa.Gro
set_option linter.unusedVariables false
set_option linter.unusedSimpArgs false

theorem chk1 {c : Cfg} (h : Small c) : (1 : Int) = chk c := (chk_small h).symm
theorem chk2 {c : Cfg} (h : ¬ Small c) (hb : Big c) : (2 : Int) = chk c := by unfold chk; rw [if_neg h, if_pos hb]
theorem chk0 {c : Cfg} (h : ¬ Small c) (hb : ¬ Big c) : (0 : Int) = chk c := by unfold chk; rw [if_neg h, if_neg hb]
set_option maxHeartbeats 2000000 in
theorem refCheck (c : Cfg) (h : c.Wf) (w : World) : Calls Try.prog 63 #[cv c] w fun e w' => e = .returned (.int .i64 (chk c)) ∧ Below w.heap.size w w' := by
  have k0 := h.la0
  go_enter Try.func63, Try.ntmps63
  go_wp2
  all_goals go_ret
  all_goals refine ⟨ret_int ?_, (Below.refl _ _).alloc (Nat.le_refl _) _⟩
  all_goals first | exact chk1 (by unfold Small; omega) | exact chk2 (by unfold Small; omega) (by unfold Big; omega) | exact chk0 (by unfold Small; omega) (by unfold Big; omega)
end Go.Proofs.Yticgpikpefgldaa.Pl
