/- The example of layer 5 (made by genbagaw.py). -/
import Derived.Test.YtblkfbbdeodpjaaBagPut
import Derived.Test.YtblkfbbdeodpjaaBagRipe
import Derived.Test.YtblkfbbdeodpjaaWorks
namespace Go.Proofs.Ytblkfbbdeodpjaa.Wo
open Go Go.RowKit Go.Proofs.Ytblkfbbdeodpjaa.Gro Go.Proofs.Ytblkfbbdeodpjaa.Own Go.Proofs.Ytblkfbbdeodpjaa.Wd Go.Proofs.Ytblkfbbdeodpjaa.Ap Go.Proofs.Ytblkfbbdeodpjaa.Pl
set_option linter.unusedVariables false
set_option linter.unusedSimpArgs false

abbrev c5 : Cfg := ⟨0, 0, 0, 0, 0, 0, 1, 0⟩
def pE : Pl := { pz with ep := 2 }
def wE : Wk := { wz with p := pE }
def xE : St := { zS with p := pE }
def x5 : St := { zS with p := { pE with t0 := 3 }, l0 := [7] }
theorem lies_E (w : World) : Lies w wE xE := ⟨rfl, Reads.nil _ _, Reads.nil _ _, Reads.nil _ _, Reads.nil _ _, Reads.nil _ _, Reads.nil _ _⟩
theorem build_c5 (w : World) : (Instr.build 24 #[(6, .int .i64 1)]).run Try.prog w = .ok (cv c5) w := run_build w _ _ _ (by kernel_rfl)
theorem build_wE (w : World) : (Instr.build 46 #[(3, .int .u64 2)]).run Try.prog w = .ok (wv wE) w := run_build w _ _ _ (by kernel_rfl)
theorem put_5 : putB c5.bg xE 7 = (x5, true) := by decide
theorem ripe_54 : ripeS x5 4 = x5 := by decide
theorem ripe_55 : ripeS x5 5 = { x5 with p := { x5.p with t0 := 0 }, l0 := [], hl := [7] } := by decide
end Go.Proofs.Ytblkfbbdeodpjaa.Wo
