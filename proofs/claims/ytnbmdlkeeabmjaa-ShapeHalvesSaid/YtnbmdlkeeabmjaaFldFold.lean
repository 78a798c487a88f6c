/- The walk of Fold. -/
import Derived.Test.YtnbmdlkeeabmjaaRows
import Derived.Test.YtnbmdlkeeabmjaaFldMath
import Derived.WalkKit
import Derived.Lib.Hide
namespace Go.Proofs.Ytnbmdlkeeabmjaa.Fld
open Go.RowKit

theorem fold_any (x : Int) (w : World) (h0 : 0 ≤ x) (h1 : x ≤ 18446744073709551615) :
    Calls Try.prog 31 #[.int .u64 x] w fun e w' => e = .returned (.int .u64 (fold x)) ∧ w = w' := by
  go_enter Try.func31, Try.ntmps31
  go_wp2
  · go_ret
    exact ⟨ret_int (fold_hi x h0 h1 (by assumption)), rfl⟩
  · go_ret
    exact ⟨ret_int (fold_lo x h0 h1 (by assumption)), rfl⟩

end Go.Proofs.Ytnbmdlkeeabmjaa.Fld
