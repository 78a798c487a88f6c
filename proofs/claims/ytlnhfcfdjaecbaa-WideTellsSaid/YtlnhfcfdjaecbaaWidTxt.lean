/- Walks of layer 2: the text of a number (halves, tenths, the reversed text). -/
import Derived.Test.YtlnhfcfdjaecbaaWidTwo
import Derived.WalkSmall
import Derived.Lib.BitFns
import Derived.Lib.Strings
import Derived.Lib.Slices
import Derived.Lib.Small
namespace Go.Proofs.Ytlnhfcfdjaecbaa.Wid
open Go.RowKit
set_option linter.unusedVariables false

theorem ret_two2 {a b c d : Int} (h : a = b) (g : c = d) : Ending.returned (.tuple #[.int .u64 a, .int .u64 c]) = .returned (.tuple #[.int .u64 b, .int .u64 d]) := by rw [h, g]
set_option maxHeartbeats 4000000 in
set_option maxRecDepth 100000 in
theorem len8_any (x : Int) (w : World) (h0 : 0 ≤ x) (h1 : x ≤ 255) :
    Calls Try.prog 41 #[.int .u64 x] w fun e w' => e = .returned (.int .i64 (Lib.bitLen x.toNat)) ∧ w = w' := by
  go_enter Try.func41, Try.ntmps41
  go_wp2
  go_ret
  refine ⟨congrArg Ending.returned (congrArg (Value.int IntKind.i64) ?_), rfl⟩
  rw [Lib.len8_of x h0 (by omega)]
  have := Lib.bitLen_le8' x h0 (by omega)
  unfold wrap64; omega
theorem ret_three {a b c d e f : Int} (h : a = b) (g : c = d) (k : e = f) : Ending.returned (.tuple #[.int .u64 a, .int .u64 c, .int .u8 e]) = .returned (.tuple #[.int .u64 b, .int .u64 d, .int .u8 f]) := by rw [h, g, k]
theorem lz10 (w : World) : Calls Try.prog 40 #[.int .u64 10] w fun e w' => e = .returned (.int .i64 60) ∧ w = w' := by
  have h : Lib.bitLen 10 = 4 := by decide
  go_enter Try.func40, Try.ntmps40
  go_wp2_with (go_at_call 41; refine (len8_any _ _ (by omega) (by omega)).mono ?_; rintro e w' ⟨rfl, rfl⟩)
  go_ret
  exact ⟨rfl, rfl⟩
theorem div_0 (l : Int) (w : World) (l0 : 0 ≤ l) (l1 : l ≤ 18446744073709551615) :
    Calls Try.prog 39 #[.int .u64 0, .int .u64 l, .int .u64 10] w fun e w' => e = .returned (.tuple #[.int .u64 (l / 10), .int .u64 (l % 10)]) ∧ ∃ n, w' = w.drewN n := by
  go_enter Try.func39, Try.ntmps39
  go_wp2
  go_quiet (fail)
  go_wp2
  go_ret2
  exact ⟨rfl, _, rfl⟩
theorem h_or (h l : Int) (h0 : 1 ≤ h) (h1 : h ≤ 9) (l0 : 0 ≤ l) (l1 : l ≤ 18446744073709551615) : bits .or .u64 (h * 1152921504606846976) (l / 16) = h * 1152921504606846976 + l / 16 := by
  rw [u64_or _ _ (by omega) (by omega) (by omega) (by omega)]
  have := nat_join 60 (h * 1152921504606846976).toNat (l / 16).toNat (by simp; omega) (by simp; omega)
  rw [this]; omega
theorem l_and (l : Int) (l0 : 0 ≤ l) (l1 : l ≤ 15) : bits .and .u64 (l * 1152921504606846976) 4294967295 = 0 := by
  rw [Fld.and32 _ (by omega) (by omega)]; omega
theorem div_q (h l U V L : Int) (h0 : 1 ≤ h) (h1 : h ≤ 9) (l0 : 0 ≤ l) (l1 : l ≤ 18446744073709551615) (hU : U = h * 1152921504606846976 + l / 16) (hV : V = (U % 2684354560) * 4294967296 + L / 4294967296) (hL : L = (l % 16) * 1152921504606846976) :
    U / 2684354560 * 4294967296 + V / 2684354560 = (h * 18446744073709551616 + l) / 10 := by
  omega
theorem div_r (h l U V L : Int) (h0 : 1 ≤ h) (h1 : h ≤ 9) (l0 : 0 ≤ l) (l1 : l ≤ 18446744073709551615) (hU : U = h * 1152921504606846976 + l / 16) (hV : V = (U % 2684354560) * 4294967296 + L / 4294967296) (hL : L = (l % 16) * 1152921504606846976) :
    IntKind.u64.wrap (IntKind.u64.wrap (IntKind.u64.wrap (V * 4294967296)) - IntKind.u64.wrap (V / 2684354560 * 11529215046068469760)) / 1152921504606846976 = (h * 18446744073709551616 + l) % 10 := by
  simp only [IntKind.wrap_u64]
  omega
set_option maxRecDepth 100000 in
set_option maxHeartbeats 2000000 in
theorem div_h (h l : Int) (w : World) (h0 : 1 ≤ h) (h1 : h ≤ 9) (l0 : 0 ≤ l) (l1 : l ≤ 18446744073709551615) :
    Calls Try.prog 39 #[.int .u64 h, .int .u64 l, .int .u64 10] w fun e w' => e = .returned (.tuple #[.int .u64 ((h * 18446744073709551616 + l) / 10), .int .u64 ((h * 18446744073709551616 + l) % 10)]) ∧ w = w' := by
  have g0 : ((h : Int) == 0) = false := by simp; omega
  have a1 : bits .and .u64 11529215046068469760 4294967295 = 0 := by decide
  obtain ⟨U, hU⟩ : ∃ U : Int, U = h * 1152921504606846976 + l / 16 := ⟨_, rfl⟩
  have e2 : bits .or .u64 (h * 1152921504606846976) (l / 16) = U := by rw [hU]; exact h_or h l h0 h1 l0 l1
  have u0 : 0 ≤ U := by omega
  have u1 : U < 11529215046068469760 := by omega
  obtain ⟨L, hL⟩ : ∃ L : Int, L = (l % 16) * 1152921504606846976 := ⟨_, rfl⟩
  have e3 : IntKind.u64.wrap (l * 1152921504606846976) = L := by rw [IntKind.wrap_u64, hL]; omega
  have l2 : 0 ≤ L := by omega
  have l3 : L ≤ 17293822569102704640 := by omega
  have e4 : bits .and .u64 L 4294967295 = 0 := by rw [hL]; exact l_and _ (by omega) (by omega)
  obtain ⟨V, hV⟩ : ∃ V : Int, V = (U % 2684354560) * 4294967296 + L / 4294967296 := ⟨_, rfl⟩
  have e5 : IntKind.u64.wrap (IntKind.u64.wrap (IntKind.u64.wrap (U * 4294967296) + L / 4294967296) - IntKind.u64.wrap (U / 2684354560 * 11529215046068469760)) = V := by
    simp only [IntKind.wrap_u64]; omega
  have v0 : 0 ≤ V := by omega
  have v1 : V < 11529215046068469760 := by omega
  have HU := Lib.hid hU
  have HL := Lib.hid hL
  have HV := Lib.hid hV
  clear hV
  clear hU hL
  go_enter Try.func39, Try.ntmps39
  go_wp2_with (go_at_call 40; refine (lz10 _).mono ?_; rintro e w' ⟨rfl, rfl⟩)
  refine wp_loop_rounds 1 ?_
  rw [rounds_succ]; go_wp2
  refine wp_loop_rounds 1 ?_
  rw [rounds_succ]; go_wp2
  go_ret2
  exact ⟨ret_two2 (div_q h l U V L h0 h1 l0 l1 HU.out HV.out HL.out) (div_r h l U V L h0 h1 l0 l1 HU.out HV.out HL.out), rfl⟩
theorem tenth_any (h l : Int) (w : World) (h0 : 0 ≤ h) (h1 : h ≤ 18446744073709551615) (l0 : 0 ≤ l) (l1 : l ≤ 18446744073709551615) :
    Calls Try.prog 37 #[.int .u64 h, .int .u64 l] w fun e w' => e = .returned (.tuple #[.int .u64 ((h * 18446744073709551616 + l) / 10 / 18446744073709551616), .int .u64 ((h * 18446744073709551616 + l) / 10 % 18446744073709551616), .int .u8 ((h * 18446744073709551616 + l) % 10)]) ∧ Below w.heap.size w w' := by
  by_cases hr : h % 10 = 0
  · have H := Lib.hid hr
    go_enter Try.func37, Try.ntmps37
    go_wp2_with fail
    refine (div_0 _ _ (by omega) (by omega)).mono ?_; rintro e w' ⟨rfl, n, rfl⟩
    go_wp2_with fail
    refine (div_0 _ _ (by omega) (by omega)).mono ?_; rintro e w' ⟨rfl, n2, rfl⟩
    go_wp2_with fail
    go_ret3
    have := H.out
    exact ⟨ret_three (by omega) (by omega) (by omega), below_drewN (Below.refl _ _) _⟩
  · go_enter Try.func37, Try.ntmps37
    go_wp2_with fail
    refine (div_0 _ _ (by omega) (by omega)).mono ?_; rintro e w' ⟨rfl, n, rfl⟩
    go_wp2_with fail
    refine (div_h _ _ _ (by omega) (by omega) (by omega) (by omega)).mono ?_; rintro e w' ⟨rfl, rfl⟩
    go_wp2_with fail
    go_ret3
    exact ⟨ret_three (by omega) (by omega) (by omega), below_drewN (Below.refl _ _) _⟩
theorem size_pos (p q : Int) (w : World) (p0 : 0 ≤ p) (p1 : p ≤ 9223372036854775807) (q0 : 0 ≤ q) (q1 : q ≤ 18446744073709551615) :
    Calls Try.prog 36 #[.agg #[.int .i64 p, .int .u64 q]] w fun e w' => e = .returned (.tuple #[.int .u64 (vl p q / 18446744073709551616), .int .u64 (vl p q % 18446744073709551616)]) ∧ Below w.heap.size w w' := by
  have H : Hid (p = vl p q / 18446744073709551616 ∧ q = vl p q % 18446744073709551616) := by unfold vl; constructor <;> omega
  go_enter Try.func36, Try.ntmps36
  go_wp2
  go_quiet (fail)
  go_wp2
  go_ret2
  refine ⟨ret_two2 H.out.1 H.out.2, ?_⟩
  exact below_drewN (below_alloc (Below.refl _ _) _) _
theorem size_neg (p q : Int) (w : World) (p0 : -9223372036854775808 ≤ p) (p1 : p < 0) (q0 : 0 ≤ q) (q1 : q ≤ 18446744073709551615) :
    Calls Try.prog 36 #[.agg #[.int .i64 p, .int .u64 q]] w fun e w' => e = .returned (.tuple #[.int .u64 (-vl p q / 18446744073709551616), .int .u64 (-vl p q % 18446744073709551616)]) ∧ Below w.heap.size w w' := by
  have k0 : 0 ≤ -(-q / 18446744073709551616) := by omega
  have k1 : -(-q / 18446744073709551616) ≤ 1 := by omega
  go_enter Try.func36, Try.ntmps36
  go_wp2_with (first | simp only [run_sub64_0 0 q _ (by omega) (by omega) q0 q1] | simp only [run_sub64 0 (IntKind.u64.wrap p) _ _ (by omega) (by omega) (u64_bd p).1 (u64_bd p).2 k0 k1])
  go_ret2
  refine ⟨ret_two2 ?_ ?_, below_alloc (Below.refl _ _) _⟩
  · rw [IntKind.wrap_u64]; unfold vl; omega
  · unfold vl; omega
end Go.Proofs.Ytlnhfcfdjaecbaa.Wid
