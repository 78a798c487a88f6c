/- What Halves answers. Printed by wip/gen/pcslaws.py. -/
import Derived.Test.YtdhljlhecoclfaaPcsCov
import Derived.Deep.LoopGhost
import Derived.Deep.RegionHeld3
import Derived.Deep.DeepCutAuto
import Derived.Deep.QuietTactic
import Derived.BigQuiet
namespace Go.Proofs.Ytdhljlhecoclfaa.Pcs
open Go Go.RowKit Lw
set_option linter.unusedVariables false
set_option linter.unusedSimpArgs false
def haB (b L i : Int) : Bool := isP b L i && decide (0 < L)
def haL (b L i : Int) : Int := if haB b L i = true then L - 1 else 0
def haX (b L i : Int) : Int := if haB b L i = true then 2 * i else 0
def haY (b L i : Int) : Int := if haB b L i = true then 2 * i + 1 else 0
end Go.Proofs.Ytdhljlhecoclfaa.Pcs
