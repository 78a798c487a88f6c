/- A walk of the document's own answers of layer 2: RMinus. Parted by wip/gen/split.py. -/
import Derived.Test.YtonbidohhgenlaaWidBase
import Derived.Test.YtonbidohhgenlaaWidDig
import Derived.Test.YtonbidohhgenlaaWidEq
import Derived.Test.YtonbidohhgenlaaWidRPlus
import Derived.WalkSmall
namespace Go.Proofs.Ytonbidohhgenlaa.Wid
open Go.RowKit
set_option linter.unusedVariables false
end Go.Proofs.Ytonbidohhgenlaa.Wid
