/- The walks of the document's own answers for layer 1. -/
import Derived.Test.YtdhljlhecoclfaaFldPow
namespace Go.Proofs.Ytdhljlhecoclfaa.Fld
open Go.RowKit

end Go.Proofs.Ytdhljlhecoclfaa.Fld
