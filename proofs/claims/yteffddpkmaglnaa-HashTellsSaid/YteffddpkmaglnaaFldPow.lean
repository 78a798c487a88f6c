/- The walk of Pow and Inv. -/
import Derived.Test.YteffddpkmaglnaaFldOne
import Derived.WalkMore
import Derived.Deep.LoopGhost
namespace Go.Proofs.Yteffddpkmaglnaa.Fld
open Go.RowKit

theorem pow_any (a n : Int) (w : World) (h0 : 0 ≤ a) (h1 : a ≤ 18446744073709551615) (g0 : 0 ≤ n) (g1 : n ≤ 18446744073709551615) :
    Calls Try.prog 29 #[.int .u64 a, .int .u64 n] w fun e w' => e = .returned (.int .u64 (pow a n)) ∧ w = w' := by
  have fa := fold_bd a
  go_enter Try.func29, Try.ntmps29
  go_wp2
  go_step3
  go_wp2_with (go_at_call 16; refine (fold_any _ _ (by omega) (by omega)).mono ?_; rintro e w' ⟨rfl, rfl⟩)
  go_step3
  go_wp2
  go_loop [1, 5, 6] (fun m u s => ∃ mm uu ss : Int, 0 ≤ mm ∧ mm ≤ 18446744073709551615 ∧ 0 ≤ uu ∧ uu ≤ 2305843009213693950 ∧ 0 ≤ ss ∧ ss ≤ 2305843009213693950 ∧ m = .int .u64 mm ∧ u = .int .u64 uu ∧ s = .int .u64 ss ∧ pw uu ss mm = pow a n) (fun m _ _ => (intOf m).toNat)
  case atStart => exact ⟨n, 1, fold a, g0, g1, by omega, by omega, fa.1, fa.2, rfl, rfl, rfl, pw_start a n⟩
  case round =>
    obtain ⟨m, u, s, m0, m1, u0, u1, s0, s1, rfl, rfl, rfl, hp⟩ := hrel
    have H := Lib.hid hp
    clear hp
    by_cases hz : m = 0
    · subst hz
      go_wp2
      go_ret
      exact ⟨ret_int (by have h := H.out; rw [pw_zero, fold_of u u0 u1] at h; exact h), rfl⟩
    · have hz2 : ((m : Int) == 0) = false := by simpa using hz
      have hp' : 1 ≤ m := by omega
      clear hz
      have hmu := mul_bd u s
      have hms := mul_bd s s
      by_cases ho : m % 2 = 1
      · have hb : bits .and .u64 m 1 = 1 := by rw [and1 m m0 m1]; exact ho
        have HO := Lib.hid ho
        clear ho
        go_wp2_with (go_at_call 19; refine (mul_any _ _ _ (by omega) (by omega) (by omega) (by omega)).mono ?_; rintro e w' ⟨rfl, rfl⟩)
        go_round
        case rel => exact ⟨m / 2, mul u s, mul s s, by omega, by omega, hmu.1, hmu.2, hms.1, hms.2, rfl, rfl, rfl, by rw [pw_odd u s m m0 HO.out]; exact H.out⟩
        case measure => simp [intOf]; omega
      · have hb : bits .and .u64 m 1 = 0 := by rw [and1 m m0 m1]; omega
        have HO : Hid (m % 2 = 0) := Lib.hid (by omega)
        clear ho
        go_wp2_with (go_at_call 19; refine (mul_any _ _ _ (by omega) (by omega) (by omega) (by omega)).mono ?_; rintro e w' ⟨rfl, rfl⟩)
        go_round
        case rel => exact ⟨m / 2, u, mul s s, by omega, by omega, u0, u1, hms.1, hms.2, rfl, rfl, rfl, by rw [pw_even u s m m0 HO.out]; exact H.out⟩
        case measure => simp [intOf]; omega

theorem inv_any (a : Int) (w : World) (h0 : 0 ≤ a) (h1 : a ≤ 18446744073709551615) :
    Calls Try.prog 24 #[.int .u64 a] w fun e w' => e = .returned (.int .u64 (inv a)) ∧ w = w' := by
  go_enter Try.func24, Try.ntmps24
  go_wp2_with (go_at_call 29; refine (pow_any _ _ _ (by omega) (by omega) (by omega) (by omega)).mono ?_; rintro e w' ⟨rfl, rfl⟩)
  go_ret
  exact ⟨rfl, rfl⟩
end Go.Proofs.Yteffddpkmaglnaa.Fld
