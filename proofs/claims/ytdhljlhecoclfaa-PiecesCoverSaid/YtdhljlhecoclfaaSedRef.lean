/- The walks of the document's own answers for layer 3. -/
import Derived.Test.YtdhljlhecoclfaaSedBits
import Derived.Test.YtdhljlhecoclfaaGrow
import Derived.Test.YtdhljlhecoclfaaLaw
import Derived.Test.YtdhljlhecoclfaaFldFold
namespace Go.Proofs.Ytdhljlhecoclfaa.Sed
open Go.RowKit Lw Fld

end Go.Proofs.Ytdhljlhecoclfaa.Sed
