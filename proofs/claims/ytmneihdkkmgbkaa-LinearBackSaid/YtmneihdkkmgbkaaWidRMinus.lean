/- A walk of the document's own answers of layer 2: RMinus. Parted by wip/gen/split.py. -/
import Derived.Test.YtmneihdkkmgbkaaWidBase
import Derived.Test.YtmneihdkkmgbkaaWidDig
import Derived.Test.YtmneihdkkmgbkaaWidEq
import Derived.Test.YtmneihdkkmgbkaaWidRPlus
import Derived.WalkSmall
namespace Go.Proofs.Ytmneihdkkmgbkaa.Wid
open Go.RowKit
set_option linter.unusedVariables false
end Go.Proofs.Ytmneihdkkmgbkaa.Wid
