/- The walks of the document's own answers for layer 3. -/
import Derived.Test.YtnbmdlkeeabmjaaSedBits
import Derived.Test.YtnbmdlkeeabmjaaGrow
import Derived.Test.YtnbmdlkeeabmjaaLaw
import Derived.Test.YtnbmdlkeeabmjaaFldFold
namespace Go.Proofs.Ytnbmdlkeeabmjaa.Sed
open Go.RowKit Lw Fld

theorem rtimes_any (a b : Int) (w : World) (h0 : 0 ≤ a) (h1 : a ≤ 18446744073709551615) (g0 : 0 ≤ b) (g1 : b ≤ 18446744073709551615) :
    Calls Try.prog 40 #[.int .u64 a, .int .u64 b] w fun e w' => e = .returned (.int .u64 (IntKind.u64.wrap (a * b))) ∧ w = w' := by
  go_enter Try.func40, Try.ntmps40
  go_wp2
  go_loop [0, 1, 5] (fun x y o => ∃ xx yy oo : Int, 0 ≤ xx ∧ xx ≤ 18446744073709551615 ∧ 0 ≤ yy ∧ yy ≤ 18446744073709551615 ∧ 0 ≤ oo ∧ oo ≤ 18446744073709551615 ∧ x = .int .u64 xx ∧ y = .int .u64 yy ∧ o = .int .u64 oo ∧ bv (oo + xx * yy) = bv (a * b)) (fun _ y _ => (intOf y).toNat)
  case atStart => exact ⟨_, _, _, h0, h1, g0, g1, by omega, by omega, rfl, rfl, rfl, by rw [Int.zero_add]⟩
  case round =>
    obtain ⟨x, y, o, x0, x1, y0, y1, o0, o1, rfl, rfl, rfl, hp⟩ := hrel
    have H := Lib.hid hp
    clear hp
    by_cases hz : 0 < y
    · have m1 := u64_bd (o + x)
      have m2 := u64_bd (x + x)
      by_cases ho : y % 2 = 1
      · have hd : ((y % 2 : Int) == 1) = true := by simpa using ho
        have HO := Lib.hid ho
        clear ho
        go_wp2
        go_round
        case rel => exact ⟨_, _, _, m2.1, m2.2, by omega, by omega, m1.1, m1.2, rfl, rfl, rfl, times_odd o x y _ HO.out H.out⟩
        case measure => simp [intOf]; omega
      · have hd : ((y % 2 : Int) == 1) = false := by simpa using ho
        have HO : Hid (y % 2 = 0) := Lib.hid (by omega)
        clear ho
        go_wp2
        go_round
        case rel => exact ⟨_, _, _, m2.1, m2.2, by omega, by omega, o0, o1, rfl, rfl, rfl, times_even o x y _ HO.out H.out⟩
        case measure => simp [intOf]; omega
    · obtain rfl : y = 0 := by omega
      go_wp2
      go_ret
      exact ⟨ret_int (times_end o x _ o0 o1 H.out), rfl⟩

theorem rshaken_any (z : BitVec 64) (k : Nat) (w : World) (hk : k ≤ 63) :
    Calls Try.prog 45 #[.int .u64 (val z), .int .i64 (k : Int)] w fun e w' => e = .returned (.int .u64 (val (sh k z))) ∧ w = w' := by
  go_enter Try.func45, Try.ntmps45
  go_wp2
  go_loop [5, 6] (fun o i => ∃ j : Nat, j ≤ 64 ∧ o = .int .u64 (lw (sh k z) j) ∧ i = .int .i64 (j : Int)) (fun _ i => (64 - intOf i).toNat)
  case atStart => exact ⟨0, by omega, by rw [lw_zero], rfl⟩
  case round =>
    obtain ⟨j, hj, rfl, rfl⟩ := hrel
    by_cases hz : j < 64
    · have e1 := and_bt z j
      have e3 := or_lw (sh k z) j hz
      by_cases ht : j + k < 64
      · have e2 := and_bt z (j + k)
        have e4 := xor_bt z z j (j + k)
        rw [sh_bt] at e4
        go_wp2
        exact ⟨⟨j + 1, by omega, rfl, rfl⟩, by simp only [intOf]; omega⟩
      · have e2 := sh_top k z j (by omega)
        rw [e2] at e1
        go_wp2
        exact ⟨⟨j + 1, by omega, rfl, rfl⟩, by simp only [intOf]; omega⟩
    · obtain rfl : j = 64 := by omega
      go_wp2
      go_ret
      exact ⟨ret_int (lw_all _), rfl⟩

theorem rmix_any (x : Int) (w : World) (h0 : 0 ≤ x) (h1 : x ≤ 18446744073709551615) :
    Calls Try.prog 39 #[.int .u64 x] w fun e w' => e = .returned (.int .u64 (mix x)) ∧ w = w' := by
  obtain ⟨b, rfl⟩ := val_of x h0 h1
  have q1 := rtimes_any (val (sh 30 b)) 13787848793156543929 w (val_bd _).1 (val_bd _).2 (by omega) (by omega)
  rw [mulI (sh 30 b) c1 13787848793156543929 rfl] at q1
  have q2 := rtimes_any (val (sh 27 (sh 30 b * c1))) 10723151780598845931 w (val_bd _).1 (val_bd _).2 (by omega) (by omega)
  rw [mulI (sh 27 (sh 30 b * c1)) c2 10723151780598845931 rfl] at q2
  have s1 := rshaken_any b 30 w (by omega)
  rw [show ((30 : Nat) : Int) = 30 from rfl] at s1
  have s2 := rshaken_any (sh 30 b * c1) 27 w (by omega)
  rw [show ((27 : Nat) : Int) = 27 from rfl] at s2
  have s3 := rshaken_any (sh 27 (sh 30 b * c1) * c2) 31 w (by omega)
  rw [show ((31 : Nat) : Int) = 31 from rfl] at s3
  go_enter Try.func39, Try.ntmps39
  go_wp2_with (first
    | (go_at_call 45; ((with_reducible refine s1.mono ?_)); rintro e w' ⟨rfl, rfl⟩)
    | (go_at_call 40; ((with_reducible refine q1.mono ?_)); rintro e w' ⟨rfl, rfl⟩)
    | (go_at_call 45; ((with_reducible refine s2.mono ?_)); rintro e w' ⟨rfl, rfl⟩)
    | (go_at_call 40; ((with_reducible refine q2.mono ?_)); rintro e w' ⟨rfl, rfl⟩)
    | (go_at_call 45; ((with_reducible refine s3.mono ?_)); rintro e w' ⟨rfl, rfl⟩))
  go_ret
  exact ⟨ret_int (by unfold mix mixB; rw [bv_val]), rfl⟩
theorem rdraw_any (s i : Int) (w : World) :
    Calls Try.prog 34 #[.int .u64 s, .int .u64 i] w fun e w' => e = .returned (.int .u64 (draw s i)) ∧ w = w' := by
  go_enter Try.func34, Try.ntmps34
  go_wp2_with (first
    | (go_at_call 40; ((with_reducible refine (rtimes_any _ _ _ (u64_bd _).1 (u64_bd _).2 (by omega) (by omega)).mono ?_)); rintro e w' ⟨rfl, rfl⟩)
    | (go_at_call 39; ((with_reducible refine (rmix_any _ _ (u64_bd _).1 (u64_bd _).2).mono ?_)); rintro e w' ⟨rfl, rfl⟩))
  go_ret
  exact ⟨rfl, rfl⟩
theorem rpair_any (s l r : Int) (w : World) (l0 : -9223372036854775808 ≤ l) (l1 : l ≤ 9223372036854775807) (r0 : -9223372036854775808 ≤ r) (r1 : r ≤ 9223372036854775807) :
    Calls Try.prog 28 #[.int .u64 s, .int .i64 l, .int .i64 r] w fun e w' => e = .returned (.tuple #[.int .u64 (pairA s l r), .int .u64 (pairB s l r)]) ∧ w = w' := by
  by_cases hk : 0 ≤ l ∧ l ≤ 59 ∧ 0 ≤ r ∧ r ≤ 7
  · obtain ⟨a0, a1, a2, a3⟩ := hk
    have ee : 16 * l + 2 * r = 2 * (8 * l + r) := by omega
    go_enter Try.func28, Try.ntmps28
    go_wp2_with (go_at_call 34; ((with_reducible refine (rdraw_any _ _ _).mono ?_)); rintro e w' ⟨rfl, rfl⟩)
    go_ret2
    refine ⟨ret_two ?_ ?_, rfl⟩
    · exact pairA_eq s l r ⟨a0, a1, a2, a3⟩
    · rw [Int.tmod_eq_emod_of_nonneg (draw_bd _ _).1]
      exact pairB_eq s l r ⟨a0, a1, a2, a3⟩
  · have e1 : pairA s l r = 0 := if_neg hk
    have e2 : pairB s l r = 0 := if_neg hk
    go_enter Try.func28, Try.ntmps28
    go_wp2
    all_goals go_ret2
    all_goals exact ⟨ret_two (by first | rfl | exact e1.symm) (by first | rfl | exact e2.symm), rfl⟩
end Go.Proofs.Ytnbmdlkeeabmjaa.Sed
