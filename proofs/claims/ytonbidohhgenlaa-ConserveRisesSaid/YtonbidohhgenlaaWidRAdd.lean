/- A walk of the document's own answers of layer 2: RAdd. Parted by wip/gen/split.py. -/
import Derived.Test.YtonbidohhgenlaaWidBase
import Derived.Test.YtonbidohhgenlaaWidDig
import Derived.Test.YtonbidohhgenlaaWidEq
import Derived.Test.YtonbidohhgenlaaWidROfInt
import Derived.Test.YtonbidohhgenlaaWidRPlus
import Derived.Test.YtonbidohhgenlaaWidRInt
import Derived.WalkSmall
namespace Go.Proofs.Ytonbidohhgenlaa.Wid
open Go.RowKit
set_option linter.unusedVariables false
theorem radd_any (a b : Int) (w : World) (a0 : -9223372036854775808 ≤ a) (a1 : a ≤ 9223372036854775807) (b0 : -9223372036854775808 ≤ b) (b1 : b ≤ 9223372036854775807) :
    Calls Try.prog 29 #[.int .i64 a, .int .i64 b] w fun e w' => e = .returned (.tuple #[.int .i64 (f64 (a + b)), .bool (fit64 (a + b))]) ∧ Below w.heap.size w w' := by
  go_enter Try.func29, Try.ntmps29
  go_wp2_with (first
    | (go_at_call 45; (with_reducible refine (rofint_any _ _ (by omega) (by omega)).mono ?_); rintro e w' ⟨rfl, hb⟩)
    | (go_at_call 44; (with_reducible refine (rplus_any a b _ _ _ _ _ _ _ _ _ _ _ _ _ _ _ _ _ _ _ _ _ rfl rfl).mono ?_); rintro e w' ⟨rfl, hb⟩)
    | (go_at_call 43; (with_reducible refine (rint_any (a + b) _ _ _ _ _ _ _ _ _ _ _ rfl (by omega) (by omega)).mono ?_); rintro e w' ⟨rfl, hb⟩))
  go_ret2
  refine ⟨rfl, ?_⟩
  repeat' (first | (with_reducible exact Below.refl _ _) | (with_reducible refine below_call ?_ (by with_reducible assumption) (Nat.le_refl _)) | (with_reducible refine below_alloc ?_ _) | (with_reducible refine Below.drew ?_) | (with_reducible refine below_drewN ?_ _) | (with_reducible refine Below.setCell ?_ ?_ _) | go_size)
end Go.Proofs.Ytonbidohhgenlaa.Wid
