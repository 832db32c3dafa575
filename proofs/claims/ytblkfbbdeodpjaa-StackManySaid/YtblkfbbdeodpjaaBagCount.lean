/- bag.Count (made by genbag2.py). -/
import Derived.Test.YtblkfbbdeodpjaaBagPrep
import Derived.WalkLawsBesides
namespace Go.Proofs.Ytblkfbbdeodpjaa.Wo
open Go Go.RowKit Go.Proofs.Ytblkfbbdeodpjaa.Gro Go.Proofs.Ytblkfbbdeodpjaa.Own Go.Proofs.Ytblkfbbdeodpjaa.Wd Go.Proofs.Ytblkfbbdeodpjaa.Ap Go.Proofs.Ytblkfbbdeodpjaa.Pl
set_option linter.unusedVariables false
set_option linter.unusedSimpArgs false
theorem bag_index0 (s : Wk) (w : World) : (Instr.index 43 (.agg #[.int .u64 s.p.t0, .slice s.l0.ad s.l0.len s.l0.cap, .int .u64 s.p.t1, .slice s.l1.ad s.l1.len s.l1.cap, .int .u64 s.p.t2, .slice s.l2.ad s.l2.len s.l2.cap]) (.int .i64 0)).run Try.prog w = .ok (.agg #[.int .u64 s.p.t0, .slice s.l0.ad s.l0.len s.l0.cap]) w := by kernel_rfl
theorem bag_index1 (s : Wk) (w : World) : (Instr.index 43 (.agg #[.int .u64 s.p.t0, .slice s.l0.ad s.l0.len s.l0.cap, .int .u64 s.p.t1, .slice s.l1.ad s.l1.len s.l1.cap, .int .u64 s.p.t2, .slice s.l2.ad s.l2.len s.l2.cap]) (.int .i64 1)).run Try.prog w = .ok (.agg #[.int .u64 s.p.t1, .slice s.l1.ad s.l1.len s.l1.cap]) w := by kernel_rfl
theorem bag_index2 (s : Wk) (w : World) : (Instr.index 43 (.agg #[.int .u64 s.p.t0, .slice s.l0.ad s.l0.len s.l0.cap, .int .u64 s.p.t1, .slice s.l1.ad s.l1.len s.l1.cap, .int .u64 s.p.t2, .slice s.l2.ad s.l2.len s.l2.cap]) (.int .i64 2)).run Try.prog w = .ok (.agg #[.int .u64 s.p.t2, .slice s.l2.ad s.l2.len s.l2.cap]) w := by kernel_rfl
end Go.Proofs.Ytblkfbbdeodpjaa.Wo
