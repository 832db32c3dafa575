/- epoch.Inside, the reference's, epoch.Least (made by geninside.py). -/
import Derived.Test.YtgpdkagmacpghaaGreatMemCopy
import Derived.Test.YtgpdkagmacpghaaGreatWorks
import Derived.Test.YtgpdkagmacpghaaGreatPlans
import Derived.IntWalk
namespace Go.Proofs.YtgpdkagmacpghaaGreat.Me
open Go Go.RowKit Go.Proofs.YtgpdkagmacpghaaGreat.Gro Go.Proofs.YtgpdkagmacpghaaGreat.Own Go.Proofs.YtgpdkagmacpghaaGreat.Wd Go.Proofs.YtgpdkagmacpghaaGreat.Ap Go.Proofs.YtgpdkagmacpghaaGreat.Pl Go.Proofs.YtgpdkagmacpghaaGreat.Wo
set_option linter.unusedVariables false
set_option linter.unusedSimpArgs false
/-- Does worker k announce an epoch as active, in the words L? -/
def insB (c : Cfg) (L : List Int) (k : Int) : Bool := decide (chk c = 0) && decide ((L.length : Int) = siz c) && decide (0 ≤ k) && decide (k < c.ww) && (L.getD (3 + k.toNat) 0 % 2 == 1)
def insE (c : Cfg) (L : List Int) (k : Int) : Int := if insB c L k = true then L.getD (3 + k.toNat) 0 / 2 else 0
theorem insB_spec {c : Cfg} {L : List Int} {k : Int} : insB c L k = true ↔ chk c = 0 ∧ (L.length : Int) = siz c ∧ 0 ≤ k ∧ k < c.ww ∧ L.getD (3 + k.toNat) 0 % 2 = 1 := by
  simp [insB, and_assoc]
def InsPost (c : Cfg) (L : List Int) (k : Int) (w : World) (e : Ending) (w' : World) : Prop := e = .returned (.tuple #[.int .u64 (insE c L k), .bool (insB c L k)]) ∧ Below w.heap.size w w'
theorem zero_wf : (⟨0, 0, 0, 0, 0, 0, 0, 0⟩ : Cfg).Wf := by constructor <;> decide
theorem ins_no {c : Cfg} {L : List Int} {k : Int} (h : ¬ (chk c = 0 ∧ (L.length : Int) = siz c ∧ 0 ≤ k ∧ k < c.ww ∧ L.getD (3 + k.toNat) 0 % 2 = 1)) : insB c L k = false ∧ insE c L k = 0 := by
  have hb : insB c L k = false := by
    cases hq : insB c L k
    · rfl
    · exact absurd (insB_spec.1 hq) h
  exact ⟨hb, by rw [insE, hb]; rfl⟩
theorem ins_yes {c : Cfg} {L : List Int} {k : Int} (h : chk c = 0 ∧ (L.length : Int) = siz c ∧ 0 ≤ k ∧ k < c.ww ∧ L.getD (3 + k.toNat) 0 % 2 = 1) : insB c L k = true ∧ insE c L k = L.getD (3 + k.toNat) 0 / 2 := by
  have hb := insB_spec.2 h
  exact ⟨hb, by rw [insE, if_pos hb]⟩
abbrev InsQ (x : Int) (b : Bool) (w : World) (e : Ending) (w' : World) : Prop := e = .returned (.tuple #[.int .u64 x, .bool b]) ∧ Below w.heap.size w w'
theorem ins_post {c : Cfg} {L : List Int} {k x : Int} {b : Bool} {f : FuncId} {args : Array Value} {w : World} (h : Calls Tryz.prog f args w (InsQ x b w)) (h1 : insE c L k = x) (h2 : insB c L k = b) : Calls Tryz.prog f args w (InsPost c L k w) := by
  subst h1
  subst h2
  exact h
end Go.Proofs.YtgpdkagmacpghaaGreat.Me
