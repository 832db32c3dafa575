/- Contracts of package plan: the addresses. -/
import Derived.Test.YtpmcedfeiconfaaGreatDoorPlanWalks
import Derived.Test.YtpmcedfeiconfaaGreatDoorGrow
import Derived.Test.YtpmcedfeiconfaaGreatDoorRows2
namespace Go.Proofs.YtpmcedfeiconfaaGreatDoor.Pl
open Go Go.RowKit Go.Proofs.YtpmcedfeiconfaaGreatDoor.Gro
set_option linter.unusedVariables false
set_option linter.unusedSimpArgs false

theorem ret_bool {a b : Bool} (h : a = b) : Ending.returned (.bool a) = .returned (.bool b) := by rw [h]
def nc (c : Cfg) : Cfg := if chk c = 0 then c else ⟨0, 0, 0, 0, 0, 0, 0, 0⟩
def okB (c : Cfg) : Bool := chk c == 0
theorem okB_true {c : Cfg} (h : chk c = 0) : okB c = true := by simp [okB, h]
theorem okB_false {c : Cfg} (h : chk c ≠ 0) : okB c = false := by simp [okB, h]
theorem okB_ok {c : Cfg} (h : okB c = true) : Ok c := chk_ok.1 (by simpa [okB] using h)
def tot (c : Cfg) : Int := if okB c = true then c.sl * c.bl else 0
def siz (c : Cfg) : Int := if okB c = true then 3 + c.ww + c.sl + 2 * c.en + c.sl * c.bl * (1 + c.wd) else 0
def hasB (c : Cfg) (i n : Int) : Bool := okB c && decide (0 ≤ i) && decide (i < n)
def aAnn (c : Cfg) (i : Int) : Int := if hasB c i c.ww = true then 3 + i else -1
def aSlab (c : Cfg) (i : Int) : Int := if hasB c i c.sl = true then 3 + c.ww + i else -1
def aEnt (c : Cfg) (i : Int) : Int := if hasB c i c.en = true then 3 + c.ww + c.sl + 2 * i else -1
def aEnl (c : Cfg) (i : Int) : Int := if hasB c i c.en = true then 3 + c.ww + c.sl + 2 * i + 1 else -1
def aBlk (c : Cfg) (i : Int) : Int := if hasB c i (tot c) = true then 3 + c.ww + c.sl + 2 * c.en + i * (1 + c.wd) else -1
def aWrd (c : Cfg) (b i : Int) : Int := if (hasB c b (tot c) && hasB c i c.wd) = true then 3 + c.ww + c.sl + 2 * c.en + b * (1 + c.wd) + 1 + i else -1
def aHom (c : Cfg) (b : Int) : Int := if hasB c b (tot c) = true then b / c.bl else -1
theorem hasB_spec {c : Cfg} {i n : Int} (h : hasB c i n = true) : okB c = true ∧ 0 ≤ i ∧ i < n := by
  simp only [hasB, Bool.and_eq_true, decide_eq_true_eq] at h
  exact ⟨h.1.1, h.1.2, h.2⟩
theorem mul_range {a b A B : Int} (ha : 0 ≤ a) (hA : a ≤ A) (hb : 0 ≤ b) (hB : b ≤ B) : 0 ≤ a * b ∧ a * b ≤ A * B :=
  ⟨Int.mul_nonneg ha hb, Int.mul_le_mul hA hB hb (Int.le_trans ha hA)⟩
theorem tot_ok {c : Cfg} (h : okB c = true) : tot c = c.sl * c.bl ∧ 0 ≤ c.sl * c.bl ∧ c.sl * c.bl ≤ 128 := by
  have k := okB_ok h
  refine ⟨by rw [tot, if_pos h], ?_⟩
  have := mul_range (a := c.sl) (b := c.bl) (A := 8) (B := 16) (by have := k.sl; omega) k.sl.2 (by have := k.bl; omega) k.bl.2
  omega
theorem tot_range (c : Cfg) : 0 ≤ tot c ∧ tot c ≤ 128 := by
  by_cases h : okB c = true
  · have := tot_ok h; omega
  · rw [tot, if_neg h]; omega
end Go.Proofs.YtpmcedfeiconfaaGreatDoor.Pl

/- Contracts of the reference of layer 2: Check, Home. -/
namespace Go.Proofs.YtpmcedfeiconfaaGreatDoor.Pl
open Go Go.RowKit Go.Proofs.YtpmcedfeiconfaaGreatDoor.Gro
set_option linter.unusedVariables false
set_option linter.unusedSimpArgs false

theorem chk1 {c : Cfg} (h : Small c) : (1 : Int) = chk c := (chk_small h).symm
theorem chk2 {c : Cfg} (h : ¬ Small c) (hb : Big c) : (2 : Int) = chk c := by unfold chk; rw [if_neg h, if_pos hb]
theorem chk0 {c : Cfg} (h : ¬ Small c) (hb : ¬ Big c) : (0 : Int) = chk c := by unfold chk; rw [if_neg h, if_neg hb]
set_option maxHeartbeats 2000000 in
theorem refCheck (c : Cfg) (h : c.Wf) (w : World) : Calls Tryz.prog 23 #[cv c] w fun e w' => e = .returned (.int .i64 (chk c)) ∧ Below w.heap.size w w' := by
  have k0 := h.la0
  go_enter Tryz.func23, Tryz.ntmps23
  go_wp2
  all_goals go_ret
  all_goals refine ⟨ret_int ?_, (Below.refl _ _).alloc (Nat.le_refl _) _⟩
  all_goals first | exact chk1 (by unfold Small; omega) | exact chk2 (by unfold Small; omega) (by unfold Big; omega) | exact chk0 (by unfold Small; omega) (by unfold Big; omega)
end Go.Proofs.YtpmcedfeiconfaaGreatDoor.Pl
