/- The reference's Great, and Same on equal states (made by gensame.py). -/
import Derived.Test.YtgpdkagmacpghaaGreat
import Derived.Test.YtgpdkagmacpghaaWorks
import Derived.Laws.StructEq
namespace Go.Proofs.Ytgpdkagmacpghaa.Wo
open Go Go.RowKit Go.Proofs.Ytgpdkagmacpghaa.Gro Go.Proofs.Ytgpdkagmacpghaa.Own Go.Proofs.Ytgpdkagmacpghaa.Wd Go.Proofs.Ytgpdkagmacpghaa.Ap Go.Proofs.Ytgpdkagmacpghaa.Pl
set_option linter.unusedVariables false
set_option linter.unusedSimpArgs false

end Go.Proofs.Ytgpdkagmacpghaa.Wo
