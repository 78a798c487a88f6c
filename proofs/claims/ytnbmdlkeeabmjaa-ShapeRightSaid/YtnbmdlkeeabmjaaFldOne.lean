/- The walks of Add, Sub, Mul. -/
import Derived.Test.YtnbmdlkeeabmjaaRows
import Derived.Test.YtnbmdlkeeabmjaaFldFold
import Derived.WalkKit
import Derived.Lib.Hide
namespace Go.Proofs.Ytnbmdlkeeabmjaa.Fld
open Go.RowKit

theorem add_any (a b : Int) (w : World) (h0 : 0 ≤ a) (h1 : a ≤ 18446744073709551615) (g0 : 0 ≤ b) (g1 : b ≤ 18446744073709551615) :
    Calls Try.prog 37 #[.int .u64 a, .int .u64 b] w fun e w' => e = .returned (.int .u64 (add a b)) ∧ w = w' := by
  have fa := fold_bd a
  have fb := fold_bd b
  go_enter Try.func37, Try.ntmps37
  go_wp2_with (go_at_call 31; refine (fold_any _ _ (by omega) (by omega)).mono ?_; rintro e w' ⟨rfl, rfl⟩)
  go_ret
  exact ⟨ret_int (add_fold a b), rfl⟩

theorem mul64_any (a b : Int) (w : World) (h0 : 0 ≤ a) (h1 : a ≤ 18446744073709551615) (g0 : 0 ≤ b) (g1 : b ≤ 18446744073709551615) :
    Calls Try.prog 44 #[.int .u64 a, .int .u64 b] w fun e w' => e = .returned (.tuple #[.int .u64 (a * b / 18446744073709551616), .int .u64 (a * b % 18446744073709551616)]) ∧ w = w' := by
  go_enter Try.func44, Try.ntmps44
  go_wp2
  go_ret2
  exact ⟨ret_two (mul64_hi a b h0 h1 g0 g1) (mul64_lo a b), rfl⟩

theorem mul_any (a b : Int) (w : World) (h0 : 0 ≤ a) (h1 : a ≤ 18446744073709551615) (g0 : 0 ≤ b) (g1 : b ≤ 18446744073709551615) :
    Calls Try.prog 38 #[.int .u64 a, .int .u64 b] w fun e w' => e = .returned (.int .u64 (mul a b)) ∧ w = w' := by
  have fa := fold_bd a
  have fb := fold_bd b
  have e := mul_fold a b
  have e2 := mul_bits (fold a) (fold b) fa.1 fa.2 fb.1 fb.2
  have H : Hid (fold (IntKind.u64.wrap (bits .or .u64 (IntKind.u64.wrap (fold a * fold b / 18446744073709551616 * 8)) (fold a * fold b % 18446744073709551616 / 2305843009213693952) + bits .and .u64 (fold a * fold b % 18446744073709551616) 2305843009213693951)) = mul a b) := Lib.hid (e2.trans e)
  have fd := mul_bits_bd (fold a) (fold b) fa.1 fa.2 fb.1 fb.2
  clear e e2
  go_enter Try.func38, Try.ntmps38
  go_wp2_with (first
    | (go_at_call 31; (first | refine (fold_any _ _ (by omega) (by omega)).mono ?_ | refine (fold_any _ _ (u64_bd _).1 (u64_bd _).2).mono ?_); rintro e w' ⟨rfl, rfl⟩)
    | (go_at_call 44; refine (mul64_any _ _ _ (by omega) (by omega) (by omega) (by omega)).mono ?_; rintro e w' ⟨rfl, rfl⟩))
  go_ret
  exact ⟨ret_int H.out, rfl⟩
end Go.Proofs.Ytnbmdlkeeabmjaa.Fld
