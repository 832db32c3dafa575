/- The words of a state that was opened are words. -/
import Derived.Test.YtblkfbbdeodpjaaStepFn
import Derived.Test.YtblkfbbdeodpjaaOpens
namespace Go.Proofs.Ytblkfbbdeodpjaa.Shp
open Go Go.Proofs.Ytblkfbbdeodpjaa.Wo Go.Proofs.Ytblkfbbdeodpjaa.Me
theorem pr_of_fit {x : St} (h : WFit x) : PR x.p := ⟨wf_u64 h.ep, wf_u64 h.h, wf_u64 h.n, wf_u64 h.v, wf_u64 h.u, wf_u64 h.g, wf_u64 h.t⟩
end Go.Proofs.Ytblkfbbdeodpjaa.Shp
