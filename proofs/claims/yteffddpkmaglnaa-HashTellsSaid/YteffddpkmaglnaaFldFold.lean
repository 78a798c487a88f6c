/- The walk of Fold. -/
import Derived.Test.YteffddpkmaglnaaRows
import Derived.Test.YteffddpkmaglnaaFldMath
import Derived.WalkKit
import Derived.Lib.Hide
namespace Go.Proofs.Yteffddpkmaglnaa.Fld
open Go.RowKit

theorem fold_any (x : Int) (w : World) (h0 : 0 ≤ x) (h1 : x ≤ 18446744073709551615) :
    Calls Try.prog 16 #[.int .u64 x] w fun e w' => e = .returned (.int .u64 (fold x)) ∧ w = w' := by
  go_enter Try.func16, Try.ntmps16
  go_wp2
  · go_ret
    exact ⟨ret_int (fold_hi x h0 h1 (by assumption)), rfl⟩
  · go_ret
    exact ⟨ret_int (fold_lo x h0 h1 (by assumption)), rfl⟩

end Go.Proofs.Yteffddpkmaglnaa.Fld
