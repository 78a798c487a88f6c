/- The walk of the document's own answer for Inv: Euclid's steps. -/
import Derived.Test.YtdhljlhecoclfaaFldRef
import Derived.Test.YtdhljlhecoclfaaFldMore
namespace Go.Proofs.Ytdhljlhecoclfaa.Fld
open Go.RowKit

theorem quo_bd (r0 r1 : Int) (h0 : 0 ≤ r0) (h1 : 1 ≤ r1) : 0 ≤ r0 / r1 ∧ r0 / r1 ≤ r0 ∧ 0 ≤ r0 / r1 * r1 ∧ r0 / r1 * r1 ≤ r0 ∧ 0 ≤ r0 - r0 / r1 * r1 ∧ r0 - r0 / r1 * r1 ≤ r1 - 1 := by
  have e := Int.ediv_mul_add_emod r0 r1
  have b1 := Int.emod_nonneg r0 (show r1 ≠ 0 by omega)
  have b2 := Int.emod_lt_of_pos r0 (show 0 < r1 by omega)
  have b3 := Int.ediv_nonneg h0 (show 0 ≤ r1 by omega)
  have b4 := Int.ediv_le_self r1 h0
  have b5 := Int.mul_nonneg b3 (show 0 ≤ r1 by omega)
  omega

end Go.Proofs.Ytdhljlhecoclfaa.Fld
