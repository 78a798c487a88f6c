/- The walks of the document's own answers for layer 1. -/
import Derived.Test.YtnbmdlkeeabmjaaFldPow
namespace Go.Proofs.Ytnbmdlkeeabmjaa.Fld
open Go.RowKit

theorem radd_any (a b : Int) (w : World) (h0 : 0 ≤ a) (h1 : a ≤ 18446744073709551615) (g0 : 0 ≤ b) (g1 : b ≤ 18446744073709551615) :
    Calls Try.prog 41 #[.int .u64 a, .int .u64 b] w fun e w' => e = .returned (.int .u64 (add a b)) ∧ w = w' := by
  go_enter Try.func41, Try.ntmps41
  go_wp2
  go_ret
  exact ⟨ret_int (by unfold add; omega), rfl⟩

theorem rmul_any (a b : Int) (w : World) (h0 : 0 ≤ a) (h1 : a ≤ 18446744073709551615) (g0 : 0 ≤ b) (g1 : b ≤ 18446744073709551615) :
    Calls Try.prog 42 #[.int .u64 a, .int .u64 b] w fun e w' => e = .returned (.int .u64 (mul a b)) ∧ w = w' := by
  have fa := mod_bd a
  have fb := mod_bd b
  go_enter Try.func42, Try.ntmps42
  go_wp2
  go_loop [5, 6, 7] (fun x y o => ∃ xx yy oo : Int, 0 ≤ xx ∧ xx ≤ 2305843009213693950 ∧ 0 ≤ yy ∧ yy ≤ 2305843009213693950 ∧ 0 ≤ oo ∧ oo ≤ 2305843009213693950 ∧ x = .int .u64 xx ∧ y = .int .u64 yy ∧ o = .int .u64 oo ∧ mr oo xx yy = mul a b) (fun _ y _ => (intOf y).toNat)
  case atStart => exact ⟨_, _, _, fa.1, fa.2, fb.1, fb.2, by omega, by omega, rfl, rfl, rfl, mr_start a b⟩
  case round =>
    obtain ⟨x, y, o, x0, x1, y0, y1, o0, o1, rfl, rfl, rfl, hp⟩ := hrel
    have H := Lib.hid hp
    clear hp
    by_cases hz : 0 < y
    · have m1 := mod_bd (o + x)
      have m2 := mod_bd (x + x)
      by_cases ho : y % 2 = 1
      · have hd : ((y % 2 : Int) == 1) = true := by simpa using ho
        have HO := Lib.hid ho
        clear ho
        go_wp2
        go_round
        case rel => exact ⟨_, _, _, m2.1, m2.2, by omega, by omega, m1.1, m1.2, rfl, rfl, rfl, by rw [mr_odd o x y HO.out]; exact H.out⟩
        case measure => simp [intOf]; omega
      · have hd : ((y % 2 : Int) == 1) = false := by simpa using ho
        have HO : Hid (y % 2 = 0) := Lib.hid (by omega)
        clear ho
        go_wp2
        go_round
        case rel => exact ⟨_, _, _, m2.1, m2.2, by omega, by omega, o0, o1, rfl, rfl, rfl, by rw [mr_even o x y HO.out]; exact H.out⟩
        case measure => simp [intOf]; omega
    · obtain rfl : y = 0 := by omega
      go_wp2
      go_ret
      exact ⟨ret_int (by have h := H.out; rw [mr_zero, fold_of o o0 o1] at h; exact h), rfl⟩
end Go.Proofs.Ytnbmdlkeeabmjaa.Fld
