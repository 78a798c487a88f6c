/- The walks of Add, Sub, Mul. -/
import Derived.Test.YtdhljlhecoclfaaRows
import Derived.Test.YtdhljlhecoclfaaFldFold
import Derived.WalkKit
import Derived.Lib.Hide
namespace Go.Proofs.Ytdhljlhecoclfaa.Fld
open Go.RowKit

end Go.Proofs.Ytdhljlhecoclfaa.Fld
