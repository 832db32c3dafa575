/- bag.Ripe, way by way (made by genbag3.py). -/
import Derived.Test.YtblkfbbdeodpjaaBagRipe0
namespace Go.Proofs.Ytblkfbbdeodpjaa.Wo
open Go Go.RowKit Go.Proofs.Ytblkfbbdeodpjaa.Gro Go.Proofs.Ytblkfbbdeodpjaa.Own Go.Proofs.Ytblkfbbdeodpjaa.Wd Go.Proofs.Ytblkfbbdeodpjaa.Ap Go.Proofs.Ytblkfbbdeodpjaa.Pl
set_option linter.unusedVariables false
set_option linter.unusedSimpArgs false
end Go.Proofs.Ytblkfbbdeodpjaa.Wo
