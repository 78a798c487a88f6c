/- Walks of layer 2, one function each: Of. -/
import Derived.Test.YtonbidohhgenlaaWidBase
import Derived.Handy
import Derived.Deep.QuietTactic
import Derived.BigQuiet
import Derived.Deep.RegionHeld3
import Derived.Shelf.Spec.BitsCarry
namespace Go.Proofs.Ytonbidohhgenlaa.Wid
open Go.RowKit
set_option linter.unusedVariables false

theorem of_any (n : Int) (w : World) (h0 : -9223372036854775808 ≤ n) (h1 : n ≤ 9223372036854775807) :
    Calls Try.prog 38 #[.int .i64 n] w fun e w' => e = .returned (.agg #[.int .i64 (fh n), .int .u64 (fl n)]) ∧ Below w.heap.size w w' := by
  have H := Lib.hid (of_vals n h0 h1)
  go_enter Try.func38, Try.ntmps38
  go_wp2
  go_returns
  exact ⟨ret_agg H.out.1 H.out.2, by go_grown⟩
end Go.Proofs.Ytonbidohhgenlaa.Wid
