/- The walk of the document's own answer for Inv: Euclid's steps. -/
import Derived.Test.YteffddpkmaglnaaFldRef
import Derived.Test.YteffddpkmaglnaaFldMore
namespace Go.Proofs.Yteffddpkmaglnaa.Fld
open Go.RowKit

theorem quo_bd (r0 r1 : Int) (h0 : 0 ≤ r0) (h1 : 1 ≤ r1) : 0 ≤ r0 / r1 ∧ r0 / r1 ≤ r0 ∧ 0 ≤ r0 / r1 * r1 ∧ r0 / r1 * r1 ≤ r0 ∧ 0 ≤ r0 - r0 / r1 * r1 ∧ r0 - r0 / r1 * r1 ≤ r1 - 1 := by
  have e := Int.ediv_mul_add_emod r0 r1
  have b1 := Int.emod_nonneg r0 (show r1 ≠ 0 by omega)
  have b2 := Int.emod_lt_of_pos r0 (show 0 < r1 by omega)
  have b3 := Int.ediv_nonneg h0 (show 0 ≤ r1 by omega)
  have b4 := Int.ediv_le_self r1 h0
  have b5 := Int.mul_nonneg b3 (show 0 ≤ r1 by omega)
  omega

theorem rinv_any (a : Int) (w : World) (h0 : 0 ≤ a) (h1 : a ≤ 18446744073709551615) :
    Calls Try.prog 27 #[.int .u64 a] w fun e w' => e = .returned (.int .u64 (inv a)) ∧ w = w' := by
  have fa := mod_bd a
  go_enter Try.func27, Try.ntmps27
  go_wp2
  go_loop [3, 4, 5, 6] (fun r0 r1 s0 s1 => ∃ a0 a1 t0 t1 : Int, 1 ≤ a0 ∧ a0 ≤ 2305843009213693951 ∧ 0 ≤ a1 ∧ a1 ≤ 2305843009213693950 ∧ 0 ≤ t0 ∧ t0 ≤ 2305843009213693950 ∧ 0 ≤ t1 ∧ t1 ≤ 2305843009213693950 ∧ r0 = .int .u64 a0 ∧ r1 = .int .u64 a1 ∧ s0 = .int .u64 t0 ∧ s1 = .int .u64 t1 ∧ Both a a0 a1 ∧ Is a a0 t0 ∧ Is a a1 t1) (fun _ r1 _ _ => (intOf r1).toNat)
  case atStart => exact ⟨_, _, _, _, by omega, by omega, fa.1, fa.2, by omega, by omega, by omega, by omega, rfl, rfl, rfl, rfl, both_start a, is_start0 a, is_start1 a⟩
  case round =>
    obtain ⟨r0, r1, s0, s1, r00, r01, r10, r11, s00, s01, s10, s11, rfl, rfl, rfl, rfl, hb, hi0, hi1⟩ := hrel
    have HB := Lib.hid hb
    have HI0 := Lib.hid hi0
    have HI1 := Lib.hid hi1
    clear hb hi0 hi1
    by_cases hz : 1 ≤ r1
    · have q := quo_bd r0 r1 (by omega) hz
      obtain ⟨q0, q1, q2, q3, q4, q5⟩ := q
      have hz' : 0 < r1 := by omega
      have m1 := mul_bd (r0 / r1) s1
      have m2 := sub_bd s0 (mul (r0 / r1) s1)
      go_wp2_with (first
        | (go_at_call 22; refine (rmul_any _ _ _ (by omega) (by omega) (by omega) (by omega)).mono ?_; rintro e w' ⟨rfl, rfl⟩)
        | (go_at_call 26; refine (rsub_any _ _ _ (by omega) (by omega) (by omega) (by omega)).mono ?_; rintro e w' ⟨rfl, rfl⟩))
      go_round
      case rel => exact ⟨_, _, _, _, by omega, by omega, q4, by omega, by omega, by omega, m2.1, m2.2, rfl, rfl, rfl, rfl, both_step a r0 r1 HB.out, HI1.out, is_step a r0 r1 s0 s1 _ HI0.out HI1.out⟩
      case measure => simp [intOf]; omega
    · obtain rfl : r1 = 0 := by omega
      by_cases hq : a % 2305843009213693951 = 0
      · have hq2 : ((a % 2305843009213693951 : Int) == 0) = true := by simpa using hq
        have HQ : Hid (fold a = 0) := Lib.hid hq
        clear hq
        go_wp2
        go_ret
        exact ⟨ret_int (inv_zero a HQ.out).symm, rfl⟩
      · have hq2 : ((a % 2305843009213693951 : Int) == 0) = false := by simpa using hq
        have HQ : Hid (fold a ≠ 0) := Lib.hid hq
        clear hq
        go_wp2
        go_ret
        exact ⟨ret_int (euclid_end a r0 s0 (by omega) HB.out HI0.out HQ.out s00 s01), rfl⟩
end Go.Proofs.Yteffddpkmaglnaa.Fld
