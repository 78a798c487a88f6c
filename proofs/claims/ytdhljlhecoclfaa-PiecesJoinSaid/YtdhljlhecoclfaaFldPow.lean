/- The walk of Pow and Inv. -/
import Derived.Test.YtdhljlhecoclfaaFldOne
import Derived.WalkMore
import Derived.Deep.LoopGhost
namespace Go.Proofs.Ytdhljlhecoclfaa.Fld
open Go.RowKit

end Go.Proofs.Ytdhljlhecoclfaa.Fld
