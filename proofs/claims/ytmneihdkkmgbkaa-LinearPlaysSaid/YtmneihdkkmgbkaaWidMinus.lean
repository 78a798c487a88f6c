/- Walks of layer 2, one function each: Minus. -/
import Derived.Test.YtmneihdkkmgbkaaWidOf
import Derived.Test.YtmneihdkkmgbkaaWidSub
import Derived.Test.YtmneihdkkmgbkaaWidInt
import Derived.Handy
import Derived.Deep.QuietTactic
import Derived.BigQuiet
import Derived.Deep.RegionHeld3
import Derived.Shelf.Spec.BitsCarry
namespace Go.Proofs.Ytmneihdkkmgbkaa.Wid
open Go.RowKit
set_option linter.unusedVariables false

end Go.Proofs.Ytmneihdkkmgbkaa.Wid
