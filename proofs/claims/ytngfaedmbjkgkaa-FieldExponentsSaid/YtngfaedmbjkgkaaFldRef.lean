/- The walks of the document's own answers for layer 1. -/
import Derived.Test.YtngfaedmbjkgkaaFldPow
namespace Go.Proofs.Ytngfaedmbjkgkaa.Fld
open Go.RowKit

theorem rfold_any (x : Int) (w : World) (h0 : 0 ≤ x) (h1 : x ≤ 18446744073709551615) :
    Calls Try.prog 12 #[.int .u64 x] w fun e w' => e = .returned (.int .u64 (fold x)) ∧ w = w' := by
  go_enter Try.func12, Try.ntmps12
  go_wp2
  go_ret
  exact ⟨rfl, rfl⟩

theorem radd_any (a b : Int) (w : World) (h0 : 0 ≤ a) (h1 : a ≤ 18446744073709551615) (g0 : 0 ≤ b) (g1 : b ≤ 18446744073709551615) :
    Calls Try.prog 14 #[.int .u64 a, .int .u64 b] w fun e w' => e = .returned (.int .u64 (add a b)) ∧ w = w' := by
  go_enter Try.func14, Try.ntmps14
  go_wp2
  go_ret
  exact ⟨ret_int (by unfold add; omega), rfl⟩

theorem rsub_any (a b : Int) (w : World) (h0 : 0 ≤ a) (h1 : a ≤ 18446744073709551615) (g0 : 0 ≤ b) (g1 : b ≤ 18446744073709551615) :
    Calls Try.prog 16 #[.int .u64 a, .int .u64 b] w fun e w' => e = .returned (.int .u64 (sub a b)) ∧ w = w' := by
  by_cases hc : b % 2305843009213693951 ≤ a % 2305843009213693951
  · go_enter Try.func16, Try.ntmps16
    go_wp2
    go_ret
    exact ⟨ret_int (by unfold sub; omega), rfl⟩
  · go_enter Try.func16, Try.ntmps16
    go_wp2
    go_ret
    exact ⟨ret_int (by unfold sub; omega), rfl⟩

theorem rmul_any (a b : Int) (w : World) (h0 : 0 ≤ a) (h1 : a ≤ 18446744073709551615) (g0 : 0 ≤ b) (g1 : b ≤ 18446744073709551615) :
    Calls Try.prog 18 #[.int .u64 a, .int .u64 b] w fun e w' => e = .returned (.int .u64 (mul a b)) ∧ w = w' := by
  have fa := mod_bd a
  have fb := mod_bd b
  go_enter Try.func18, Try.ntmps18
  go_wp2
  go_loop [5, 6, 7] (fun x y o => ∃ xx yy oo : Int, 0 ≤ xx ∧ xx ≤ 2305843009213693950 ∧ 0 ≤ yy ∧ yy ≤ 2305843009213693950 ∧ 0 ≤ oo ∧ oo ≤ 2305843009213693950 ∧ x = .int .u64 xx ∧ y = .int .u64 yy ∧ o = .int .u64 oo ∧ mr oo xx yy = mul a b) (fun _ y _ => (intOf y).toNat)
  case atStart => exact ⟨_, _, _, fa.1, fa.2, fb.1, fb.2, by omega, by omega, rfl, rfl, rfl, mr_start a b⟩
  case round =>
    obtain ⟨x, y, o, x0, x1, y0, y1, o0, o1, rfl, rfl, rfl, hp⟩ := hrel
    have H := Lib.hid hp
    clear hp
    by_cases hz : 0 < y
    · have m1 := mod_bd (o + x)
      have m2 := mod_bd (x + x)
      by_cases ho : y % 2 = 1
      · have hd : ((y % 2 : Int) == 1) = true := by simpa using ho
        have HO := Lib.hid ho
        clear ho
        go_wp2
        go_round
        case rel => exact ⟨_, _, _, m2.1, m2.2, by omega, by omega, m1.1, m1.2, rfl, rfl, rfl, by rw [mr_odd o x y HO.out]; exact H.out⟩
        case measure => simp [intOf]; omega
      · have hd : ((y % 2 : Int) == 1) = false := by simpa using ho
        have HO : Hid (y % 2 = 0) := Lib.hid (by omega)
        clear ho
        go_wp2
        go_round
        case rel => exact ⟨_, _, _, m2.1, m2.2, by omega, by omega, o0, o1, rfl, rfl, rfl, by rw [mr_even o x y HO.out]; exact H.out⟩
        case measure => simp [intOf]; omega
    · obtain rfl : y = 0 := by omega
      go_wp2
      go_ret
      exact ⟨ret_int (by have h := H.out; rw [mr_zero, fold_of o o0 o1] at h; exact h), rfl⟩

theorem rpow_any (a n : Int) (w : World) (h0 : 0 ≤ a) (h1 : a ≤ 18446744073709551615) (g0 : 0 ≤ n) (g1 : n ≤ 18446744073709551615) :
    Calls Try.prog 20 #[.int .u64 a, .int .u64 n] w fun e w' => e = .returned (.int .u64 (pow a n)) ∧ w = w' := by
  go_enter Try.func20, Try.ntmps20
  go_wp2
  go_loop [5, 6] (fun o i => ∃ (k : Nat) (oo : Int), k ≤ 64 ∧ 0 ≤ oo ∧ oo ≤ 2305843009213693950 ∧ o = .int .u64 oo ∧ i = .int .i64 ((k : Int) - 1) ∧ oo = pow a (n / 2 ^ k)) (fun _ i => (intOf i + 1).toNat)
  case atStart => exact ⟨64, 1, by omega, by omega, by omega, rfl, rfl, by rw [show n / 2 ^ 64 = 0 from by omega, pow_nought]⟩
  case round =>
    obtain ⟨k, o, hk, o0, o1, rfl, rfl, hp⟩ := hrel
    have H := Lib.hid hp
    clear hp
    by_cases hz : 0 < k
    · obtain ⟨j, rfl⟩ : ∃ j, k = j + 1 := ⟨k - 1, by omega⟩
      rw [show (((j + 1 : Nat) : Int) - 1) = (j : Int) from by omega]
      have m1 := mul_bd o o
      have m2 := mul_bd (mul o o) a
      have hj : (j : Int) ≤ 63 := by omega
      have pb := part_bd n j g0 g1
      have E := H.out
      rw [half] at E
      have HE := Lib.hid E
      clear E H
      by_cases ho : n / 2 ^ j % 2 = 1
      · have hb : bits .and .u64 (n / 2 ^ j) 1 = 1 := by rw [and1 _ pb.1 pb.2]; exact ho
        have HO := Lib.hid ho
        clear ho
        go_wp2_with (go_at_call 18; refine (rmul_any _ _ _ (by omega) (by omega) (by omega) (by omega)).mono ?_; rintro e w' ⟨rfl, rfl⟩)
        go_round
        case rel => exact ⟨j, _, by omega, m2.1, m2.2, rfl, rfl, by rw [HE.out]; exact pow_odd a _ pb.1 HO.out⟩
        case measure => simp [intOf] <;> omega
      · have hb : bits .and .u64 (n / 2 ^ j) 1 = 0 := by rw [and1 _ pb.1 pb.2]; omega
        have HO : Hid (n / 2 ^ j % 2 = 0) := Lib.hid (by omega)
        clear ho
        go_wp2_with (go_at_call 18; refine (rmul_any _ _ _ (by omega) (by omega) (by omega) (by omega)).mono ?_; rintro e w' ⟨rfl, rfl⟩)
        go_round
        case rel => exact ⟨j, _, by omega, m1.1, m1.2, rfl, rfl, by rw [HE.out]; exact pow_even a _ pb.1 HO.out⟩
        case measure => simp [intOf] <;> omega
    · obtain rfl : k = 0 := by omega
      go_wp2
      go_ret
      exact ⟨ret_int (by rw [H.out]; simp), rfl⟩
end Go.Proofs.Ytngfaedmbjkgkaa.Fld
