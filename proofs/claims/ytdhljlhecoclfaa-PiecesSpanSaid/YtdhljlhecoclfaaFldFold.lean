/- The walk of Fold. -/
import Derived.Test.YtdhljlhecoclfaaRows
import Derived.Test.YtdhljlhecoclfaaFldMath
import Derived.WalkKit
import Derived.Lib.Hide
namespace Go.Proofs.Ytdhljlhecoclfaa.Fld
open Go.RowKit

end Go.Proofs.Ytdhljlhecoclfaa.Fld
