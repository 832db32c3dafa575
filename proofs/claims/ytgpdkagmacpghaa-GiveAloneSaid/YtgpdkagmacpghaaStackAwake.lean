/- The example of layer 6 (made by genaw6.py). -/
import Derived.Test.YtgpdkagmacpghaaStacks
import Derived.Test.YtgpdkagmacpghaaMemFirstWalk
namespace Go.Proofs.Ytgpdkagmacpghaa.Me
open Go Go.RowKit Go.Proofs.Ytgpdkagmacpghaa.Gro Go.Proofs.Ytgpdkagmacpghaa.Own Go.Proofs.Ytgpdkagmacpghaa.Wd Go.Proofs.Ytgpdkagmacpghaa.Ap Go.Proofs.Ytgpdkagmacpghaa.Pl Go.Proofs.Ytgpdkagmacpghaa.Wo
set_option linter.unusedVariables false
set_option linter.unusedSimpArgs false
abbrev c6 : Cfg := ⟨1, 1, 1, 1, 2, 0, 1, 1⟩
theorem c6_wf : c6.Wf := ⟨by decide, by decide⟩
theorem c6_ok : Ok c6 := chk_ok.1 (by decide)
theorem build_c6 (w : World) : (Instr.build 24 #[(0, .int .i64 1), (1, .int .i64 1), (2, .int .i64 1), (3, .int .i64 1), (4, .int .i64 2), (6, .int .i64 1), (7, .int .u64 1)]).run Try.prog w = .ok (cv c6) w := run_build w _ _ _ (by kernel_rfl)
abbrev p60 : Pl := { pz with ln := 20 }
abbrev p61 : Pl := { pz with v := 1, h := 1, ln := 21 }
abbrev p62 : Pl := { pz with v := 1, h := 1, n := 2, ln := 22 }
abbrev p63 : Pl := { pz with v := 1, h := 1, n := 2, ln := 0 }
abbrev s60 : Wk := { wz with p := p60 }
theorem build_s60 (w : World) : (Instr.build 43 #[(0, .int .i64 20)]).run Try.prog w = .ok (wv s60) w := run_build w _ _ _ (by kernel_rfl)
def L60 : List Int := [2, 0, 1, 0, 0, 1048576, 2, 1048576, 0, 0, 0]
def L61 : List Int := [2, 0, 4294967298, 0, 0, 1048576, 2, 1048576, 0, 0, 0]
theorem first6 : firstL c6 = L60 := by decide
theorem wr60 : WR L60 := by unfold WR L60; decide
theorem lies_z6 (p : Pl) (w : World) : Lies w { wz with p := p } { zS with p := p } := ⟨rfl, Reads.nil _ _, Reads.nil _ _, Reads.nil _ _, Reads.nil _ _, Reads.nil _ _, Reads.nil _ _⟩
theorem few_z6 (p : Pl) : Few 1000 { zS with p := p } := ⟨Nat.zero_le _, Nat.zero_le _, Nat.zero_le _, Nat.zero_le _, Nat.zero_le _, Nat.zero_le _⟩
theorem run6a (a : Acc) : (stackLn c6 a L60 p60).fin = ⟨⟨1, 2, 0, 0, 1⟩, L60, p61, 0, true⟩ := by kernel_rfl
theorem run6b (a : Acc) : (stackLn c6 a L60 p61).fin = ⟨⟨1, 6, 0, 0, 2⟩, L60, p62, 0, true⟩ := by kernel_rfl
theorem run6c (a : Acc) : (stackLn c6 a L60 p62).fin = ⟨⟨3, 2, 1, 4294967298, 1⟩, L61, p63, 1, true⟩ := by kernel_rfl
theorem peek6 : ldV L61 2 = 4294967298 := by kernel_rfl
theorem head6 : Pk.hd 1 1 = 4294967298 := by decide
theorem pr6 {p : Pl} (h : p.ep = 0 ∧ p.u = 0 ∧ p.g = 0 ∧ p.t = 0 ∧ 0 ≤ p.h ∧ p.h ≤ 9 ∧ 0 ≤ p.n ∧ p.n ≤ 9 ∧ 0 ≤ p.v ∧ p.v ≤ 9) : PR p := by
  constructor <;> omega
section
variable {B : Nat} {w : World} {g gl cap : Nat} {a : Acc} {s : Wk}
theorem step6a (M : MemAt B w g c6 a gl cap L60) (h : Lies w s { zS with p := p60 }) : Calls Try.prog 113 #[.pointer (some ⟨g, 0, none⟩), wv s] w (GPost B g gl cap c6 ⟨⟨1, 2, 0, 0, 1⟩, L60, p61, 0, true⟩ { zS with p := p60 } w) := by
  have := stackStepAny M c6_wf (by decide) wr60 s _ (few_z6 _) h (pr6 (by decide))
  rwa [run6a] at this
theorem step6b (M : MemAt B w g c6 a gl cap L60) (h : Lies w s { zS with p := p61 }) : Calls Try.prog 113 #[.pointer (some ⟨g, 0, none⟩), wv s] w (GPost B g gl cap c6 ⟨⟨1, 6, 0, 0, 2⟩, L60, p62, 0, true⟩ { zS with p := p61 } w) := by
  have := stackStepAny M c6_wf (by decide) wr60 s _ (few_z6 _) h (pr6 (by decide))
  rwa [run6b] at this
theorem step6c (M : MemAt B w g c6 a gl cap L60) (h : Lies w s { zS with p := p62 }) : Calls Try.prog 113 #[.pointer (some ⟨g, 0, none⟩), wv s] w (GPost B g gl cap c6 ⟨⟨3, 2, 1, 4294967298, 1⟩, L61, p63, 1, true⟩ { zS with p := p62 } w) := by
  have := stackStepAny M c6_wf (by decide) wr60 s _ (few_z6 _) h (pr6 (by decide))
  rwa [run6c] at this
end
end Go.Proofs.Ytgpdkagmacpghaa.Me
