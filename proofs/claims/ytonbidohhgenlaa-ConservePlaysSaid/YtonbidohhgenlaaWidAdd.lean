/- Walks of layer 2, one function each: Add. -/
import Derived.Test.YtonbidohhgenlaaWidBase
import Derived.Handy
import Derived.Deep.QuietTactic
import Derived.BigQuiet
import Derived.Deep.RegionHeld3
import Derived.Shelf.Spec.BitsCarry
namespace Go.Proofs.Ytonbidohhgenlaa.Wid
open Go.RowKit
set_option linter.unusedVariables false

theorem run_add64 (x y c : Int) (w : World) (x0 : 0 ≤ x) (y0 : 0 ≤ y) (c0 : 0 ≤ c) (c1 : c ≤ 1) :
    (callFunc 50 #[.int .u64 x, .int .u64 y, .int .u64 c]).run Try.prog w =
      .ok (.value (.tuple #[.int .u64 ((x + y + c) % 18446744073709551616), .int .u64 ((x + y + c) / 18446744073709551616)])) w := by
  rw [run_callFunc_extern Try.func50 (by kernel_rfl) (by kernel_rfl) (by kernel_rfl) (e := add64Entry) (by kernel_rfl), Go.run_add64 x y c x0 y0 c0 c1]
  rfl
theorem run_add64_0 (x y : Int) (w : World) (x0 : 0 ≤ x) (y0 : 0 ≤ y) :
    (callFunc 50 #[.int .u64 x, .int .u64 y, .int .u64 0]).run Try.prog w =
      .ok (.value (.tuple #[.int .u64 ((x + y) % 18446744073709551616), .int .u64 ((x + y) / 18446744073709551616)])) w := by
  rw [run_add64 x y 0 w x0 y0 (by omega) (by omega), Int.add_zero]
theorem add_any (p q r s : Int) (w : World) (p0 : -9223372036854775808 ≤ p) (p1 : p ≤ 9223372036854775807) (q0 : 0 ≤ q) (q1 : q ≤ 18446744073709551615)
    (r0 : -9223372036854775808 ≤ r) (r1 : r ≤ 9223372036854775807) (s0 : 0 ≤ s) (s1 : s ≤ 18446744073709551615) :
    Calls Try.prog 37 #[.agg #[.int .i64 p, .int .u64 q], .agg #[.int .i64 r, .int .u64 s]] w fun e w' => e = .returned (.tuple #[.agg #[.int .i64 (fh (vl p q + vl r s)), .int .u64 (fl (vl p q + vl r s))], .bool (fit (vl p q + vl r s))]) ∧ Below w.heap.size w w' := by
  have k0 : 0 ≤ (q + s) / 18446744073709551616 := by omega
  have k1 : (q + s) / 18446744073709551616 ≤ 1 := by omega
  go_enter Try.func37, Try.ntmps37
  go_wp2_with (first | simp only [run_add64_0 q s _ q0 s0] | simp only [run_add64 _ _ _ _ (u64_bd p).1 (u64_bd r).1 k0 k1])
  · have h := add_far p q r s p0 p1 q0 q1 r0 r1 s0 s1 (by assumption)
    go_returns
    exact ⟨ret_wide h.1 h.2.1 h.2.2, by go_grown⟩
  · have h := add_near p q r s p0 p1 q0 q1 r0 r1 s0 s1 (by assumption)
    go_returns
    exact ⟨ret_wide h.1 h.2.1 h.2.2, by go_grown⟩
end Go.Proofs.Ytonbidohhgenlaa.Wid
