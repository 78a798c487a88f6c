/- Walks of layer 2, one function each: Sub. -/
import Derived.Test.YtbjbkjdpkplfmaaWidBase
import Derived.Handy
import Derived.Deep.QuietTactic
import Derived.BigQuiet
import Derived.Deep.RegionHeld3
import Derived.Shelf.Spec.BitsCarry
namespace Go.Proofs.Ytbjbkjdpkplfmaa.Wid
open Go.RowKit
set_option linter.unusedVariables false

theorem run_sub64 (x y c : Int) (w : World) (x0 : 0 ≤ x) (x1 : x ≤ 18446744073709551615) (y0 : 0 ≤ y) (y1 : y ≤ 18446744073709551615) (c0 : 0 ≤ c) (c1 : c ≤ 1) :
    (callFunc 42 #[.int .u64 x, .int .u64 y, .int .u64 c]).run Try.prog w =
      .ok (.value (.tuple #[.int .u64 ((x - y - c) % 18446744073709551616), .int .u64 (-((x - y - c) / 18446744073709551616))])) w := by
  obtain ⟨X, rfl⟩ := Int.eq_ofNat_of_zero_le x0
  obtain ⟨Y, rfl⟩ := Int.eq_ofNat_of_zero_le y0
  obtain ⟨C, rfl⟩ := Int.eq_ofNat_of_zero_le c0
  rw [run_callFunc_extern Try.func42 (by kernel_rfl) (by kernel_rfl) (by kernel_rfl) (e := Go.Proofs.sub64Entry) (by kernel_rfl), Go.Proofs.run_sub64 X Y C (by omega)]
  simp only [Result.andThen]
  have e1 : (((X + 18446744073709551616 - Y - C) % 18446744073709551616 : Nat) : Int) = ((X : Int) - Y - C) % 18446744073709551616 := by omega
  have e2 : ((if X < Y + C then 1 else 0 : Nat) : Int) = -(((X : Int) - Y - C) / 18446744073709551616) := by split <;> omega
  rw [e1, e2]
theorem run_sub64_0 (x y : Int) (w : World) (x0 : 0 ≤ x) (x1 : x ≤ 18446744073709551615) (y0 : 0 ≤ y) (y1 : y ≤ 18446744073709551615) :
    (callFunc 42 #[.int .u64 x, .int .u64 y, .int .u64 0]).run Try.prog w =
      .ok (.value (.tuple #[.int .u64 ((x - y) % 18446744073709551616), .int .u64 (-((x - y) / 18446744073709551616))])) w := by
  rw [run_sub64 x y 0 w x0 x1 y0 y1 (by omega) (by omega), Int.sub_zero]

theorem sub_any (p q r s : Int) (w : World) (p0 : -9223372036854775808 ≤ p) (p1 : p ≤ 9223372036854775807) (q0 : 0 ≤ q) (q1 : q ≤ 18446744073709551615)
    (r0 : -9223372036854775808 ≤ r) (r1 : r ≤ 9223372036854775807) (s0 : 0 ≤ s) (s1 : s ≤ 18446744073709551615) :
    Calls Try.prog 36 #[.agg #[.int .i64 p, .int .u64 q], .agg #[.int .i64 r, .int .u64 s]] w fun e w' => e = .returned (.tuple #[.agg #[.int .i64 (fh (vl p q - vl r s)), .int .u64 (fl (vl p q - vl r s))], .bool (fit (vl p q - vl r s))]) ∧ Below w.heap.size w w' := by
  have k0 : 0 ≤ -((q - s) / 18446744073709551616) := by omega
  have k1 : -((q - s) / 18446744073709551616) ≤ 1 := by omega
  go_enter Try.func36, Try.ntmps36
  go_wp2_with (first | simp only [run_sub64_0 q s _ q0 q1 s0 s1] | simp only [run_sub64 _ _ _ _ (u64_bd p).1 (u64_bd p).2 (u64_bd r).1 (u64_bd r).2 k0 k1])
  · have h := sub_far p q r s p0 p1 q0 q1 r0 r1 s0 s1 (by assumption)
    go_returns
    exact ⟨ret_wide h.1 h.2.1 h.2.2, by go_grown⟩
  · have h := sub_near p q r s p0 p1 q0 q1 r0 r1 s0 s1 (by assumption)
    go_returns
    exact ⟨ret_wide h.1 h.2.1 h.2.2, by go_grown⟩
end Go.Proofs.Ytbjbkjdpkplfmaa.Wid
