/- A walk of the document's own answers of layer 2: ROfInt. Parted by wip/gen/split.py. -/
import Derived.Test.YtonbidohhgenlaaWidBase
import Derived.Test.YtonbidohhgenlaaWidDig
import Derived.Test.YtonbidohhgenlaaWidEq
import Derived.WalkSmall
namespace Go.Proofs.Ytonbidohhgenlaa.Wid
open Go.RowKit
set_option linter.unusedVariables false
set_option maxRecDepth 100000 in
theorem rofint_any (n : Int) (w : World) (n0 : -9223372036854775808 ≤ n) (n1 : n ≤ 9223372036854775807) :
    Calls Try.prog 45 #[.int .i64 n] w fun e w' => e = .returned (.agg #[.int .i64 (dg n 0), .int .i64 (dg n 1), .int .i64 (dg n 2), .int .i64 (dg n 3), .int .i64 (dg n 4), .int .i64 (dg n 5), .int .i64 (dg n 6), .int .i64 (dg n 7), .int .i64 (dg n 8), .int .i64 (dg n 9)]) ∧ Below w.heap.size w w' := by
  by_cases h : n < 0
  · go_enter Try.func45, Try.ntmps45
    go_wp2
    go_rounds 11
    go_returns; exact ⟨ret10 (ofint_dl_neg n n0 n1 (by omega)), by go_grown⟩
  · go_enter Try.func45, Try.ntmps45
    go_wp2
    go_rounds 11
    go_returns; exact ⟨ret10 (ofint_dl_pos n n0 n1 (by omega)), by go_grown⟩
end Go.Proofs.Ytonbidohhgenlaa.Wid
