/- The walk of Pow and Inv. -/
import Derived.Test.YtnbmdlkeeabmjaaFldOne
import Derived.WalkMore
import Derived.Deep.LoopGhost
namespace Go.Proofs.Ytnbmdlkeeabmjaa.Fld
open Go.RowKit

end Go.Proofs.Ytnbmdlkeeabmjaa.Fld
