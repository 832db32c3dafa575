/- The reference's Copy of words and Great; memory.Copy. -/
import Derived.Test.YtgpdkagmacpghaaGreatRefs
import Derived.Test.YtgpdkagmacpghaaGreatMemFirstWalk
import Derived.Test.YtgpdkagmacpghaaGreatRef04
import Derived.Test.YtgpdkagmacpghaaGreatWorks
namespace Go.Proofs.YtgpdkagmacpghaaGreat.Me
open Go Go.RowKit Go.Proofs.YtgpdkagmacpghaaGreat.Gro Go.Proofs.YtgpdkagmacpghaaGreat.Own Go.Proofs.YtgpdkagmacpghaaGreat.Wd Go.Proofs.YtgpdkagmacpghaaGreat.Ap Go.Proofs.YtgpdkagmacpghaaGreat.Pl
set_option linter.unusedVariables false
set_option linter.unusedSimpArgs false
/-- What the statements about memories leave aside. -/
def greatC (c : Cfg) : Bool := decide (chk c = 0) && (decide (40 < c.sl * c.bl) || decide (16 < c.en))
end Go.Proofs.YtgpdkagmacpghaaGreat.Me
