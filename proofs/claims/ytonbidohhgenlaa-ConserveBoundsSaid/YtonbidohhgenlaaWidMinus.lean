/- Walks of layer 2, one function each: Minus. -/
import Derived.Test.YtonbidohhgenlaaWidOf
import Derived.Test.YtonbidohhgenlaaWidSub
import Derived.Test.YtonbidohhgenlaaWidInt
import Derived.Handy
import Derived.Deep.QuietTactic
import Derived.BigQuiet
import Derived.Deep.RegionHeld3
import Derived.Shelf.Spec.BitsCarry
namespace Go.Proofs.Ytonbidohhgenlaa.Wid
open Go.RowKit
set_option linter.unusedVariables false

end Go.Proofs.Ytonbidohhgenlaa.Wid
