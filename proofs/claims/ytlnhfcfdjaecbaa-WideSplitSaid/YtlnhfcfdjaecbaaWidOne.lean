/- Walks of layer 2, the small ones. -/
import Derived.Test.YtlnhfcfdjaecbaaWidMath
import Derived.Handy
import Derived.Deep.QuietTactic
import Derived.BigQuiet
import Derived.Deep.RegionHeld3
import Derived.Shelf.Spec.BitsCarry
namespace Go.Proofs.Ytlnhfcfdjaecbaa.Wid
open Go.RowKit
set_option linter.unusedVariables false

theorem of_vals (n : Int) (h0 : -9223372036854775808 ≤ n) (h1 : n ≤ 9223372036854775807) : n / 9223372036854775808 = fh n ∧ IntKind.u64.wrap n = fl n := by
  rw [(fit_yes (z := n) (by omega) (by omega)).2.1, (fit_yes (z := n) (by omega) (by omega)).2.2, IntKind.wrap_u64]; omega
theorem of_any (n : Int) (w : World) (h0 : -9223372036854775808 ≤ n) (h1 : n ≤ 9223372036854775807) :
    Calls Try.prog 32 #[.int .i64 n] w fun e w' => e = .returned (.agg #[.int .i64 (fh n), .int .u64 (fl n)]) ∧ Below w.heap.size w w' := by
  have H := Lib.hid (of_vals n h0 h1)
  go_enter Try.func32, Try.ntmps32
  go_wp2
  go_returns
  exact ⟨ret_agg H.out.1 H.out.2, by go_grown⟩

theorem run_add64 (x y c : Int) (w : World) (x0 : 0 ≤ x) (y0 : 0 ≤ y) (c0 : 0 ≤ c) (c1 : c ≤ 1) :
    (callFunc 33 #[.int .u64 x, .int .u64 y, .int .u64 c]).run Try.prog w =
      .ok (.value (.tuple #[.int .u64 ((x + y + c) % 18446744073709551616), .int .u64 ((x + y + c) / 18446744073709551616)])) w := by
  rw [run_callFunc_extern Try.func33 (by kernel_rfl) (by kernel_rfl) (by kernel_rfl) (e := add64Entry) (by kernel_rfl), Go.run_add64 x y c x0 y0 c0 c1]
  rfl
theorem run_add64_0 (x y : Int) (w : World) (x0 : 0 ≤ x) (y0 : 0 ≤ y) :
    (callFunc 33 #[.int .u64 x, .int .u64 y, .int .u64 0]).run Try.prog w =
      .ok (.value (.tuple #[.int .u64 ((x + y) % 18446744073709551616), .int .u64 ((x + y) / 18446744073709551616)])) w := by
  rw [run_add64 x y 0 w x0 y0 (by omega) (by omega), Int.add_zero]
theorem run_sub64 (x y c : Int) (w : World) (x0 : 0 ≤ x) (x1 : x ≤ 18446744073709551615) (y0 : 0 ≤ y) (y1 : y ≤ 18446744073709551615) (c0 : 0 ≤ c) (c1 : c ≤ 1) :
    (callFunc 34 #[.int .u64 x, .int .u64 y, .int .u64 c]).run Try.prog w =
      .ok (.value (.tuple #[.int .u64 ((x - y - c) % 18446744073709551616), .int .u64 (-((x - y - c) / 18446744073709551616))])) w := by
  obtain ⟨X, rfl⟩ := Int.eq_ofNat_of_zero_le x0
  obtain ⟨Y, rfl⟩ := Int.eq_ofNat_of_zero_le y0
  obtain ⟨C, rfl⟩ := Int.eq_ofNat_of_zero_le c0
  rw [run_callFunc_extern Try.func34 (by kernel_rfl) (by kernel_rfl) (by kernel_rfl) (e := Go.Proofs.sub64Entry) (by kernel_rfl), Go.Proofs.run_sub64 X Y C (by omega)]
  simp only [Result.andThen]
  have e1 : (((X + 18446744073709551616 - Y - C) % 18446744073709551616 : Nat) : Int) = ((X : Int) - Y - C) % 18446744073709551616 := by omega
  have e2 : ((if X < Y + C then 1 else 0 : Nat) : Int) = -(((X : Int) - Y - C) / 18446744073709551616) := by split <;> omega
  rw [e1, e2]
theorem run_sub64_0 (x y : Int) (w : World) (x0 : 0 ≤ x) (x1 : x ≤ 18446744073709551615) (y0 : 0 ≤ y) (y1 : y ≤ 18446744073709551615) :
    (callFunc 34 #[.int .u64 x, .int .u64 y, .int .u64 0]).run Try.prog w =
      .ok (.value (.tuple #[.int .u64 ((x - y) % 18446744073709551616), .int .u64 (-((x - y) / 18446744073709551616))])) w := by
  rw [run_sub64 x y 0 w x0 x1 y0 y1 (by omega) (by omega), Int.sub_zero]

theorem less_any (p q r s : Int) (w : World) (p0 : -9223372036854775808 ≤ p) (p1 : p ≤ 9223372036854775807) (q0 : 0 ≤ q) (q1 : q ≤ 18446744073709551615)
    (r0 : -9223372036854775808 ≤ r) (r1 : r ≤ 9223372036854775807) (s0 : 0 ≤ s) (s1 : s ≤ 18446744073709551615) :
    Calls Try.prog 26 #[.agg #[.int .i64 p, .int .u64 q], .agg #[.int .i64 r, .int .u64 s]] w fun e w' => e = .returned (.bool (decide (vl p q < vl r s))) ∧ Below w.heap.size w w' := by
  by_cases h : p = r
  · have hb : (p != r) = false := by simpa using h
    have e : (decide (vl p q < vl r s)) = decide (q < s) := by unfold vl; simp; omega
    have H := Lib.hid e
    clear h e
    go_enter Try.func26, Try.ntmps26
    go_wp2
    go_ret
    exact ⟨ret_bool H.out.symm, by go_grown⟩
  · have hb : (p != r) = true := by simpa using h
    have e : (decide (vl p q < vl r s)) = decide (p < r) := by unfold vl; simp; omega
    have H := Lib.hid e
    clear h e
    go_enter Try.func26, Try.ntmps26
    go_wp2
    go_ret
    exact ⟨ret_bool H.out.symm, by go_grown⟩

theorem u64_bd (x : Int) : 0 ≤ IntKind.u64.wrap x ∧ IntKind.u64.wrap x ≤ 18446744073709551615 := by rw [IntKind.wrap_u64]; omega
theorem hi_bd (x : Int) : -9223372036854775808 ≤ wrap64 x ∧ wrap64 x ≤ 9223372036854775807 ∧ (wrap64 x - x) % 18446744073709551616 = 0 := by unfold wrap64; omega
theorem add_far (p q r s : Int) (p0 : -9223372036854775808 ≤ p) (p1 : p ≤ 9223372036854775807) (q0 : 0 ≤ q) (q1 : q ≤ 18446744073709551615)
    (r0 : -9223372036854775808 ≤ r) (r1 : r ≤ 9223372036854775807) (s0 : 0 ≤ s) (s1 : s ≤ 18446744073709551615)
    (h : bits .and .i64 (bits .xor .i64 p (wrap64 ((IntKind.u64.wrap p + IntKind.u64.wrap r + (q + s) / 18446744073709551616) % 18446744073709551616))) (bits .xor .i64 r (wrap64 ((IntKind.u64.wrap p + IntKind.u64.wrap r + (q + s) / 18446744073709551616) % 18446744073709551616))) < 0) :
    0 = fh (vl p q + vl r s) ∧ 0 = fl (vl p q + vl r s) ∧ false = fit (vl p q + vl r s) := by
  have hh := hi_bd ((IntKind.u64.wrap p + IntKind.u64.wrap r + (q + s) / 18446744073709551616) % 18446744073709551616)
  rw [sgn _ _ _ _ p0 p1 hh.1 hh.2.1 r0 r1 hh.1 hh.2.1] at h
  generalize wrap64 ((IntKind.u64.wrap p + IntKind.u64.wrap r + (q + s) / 18446744073709551616) % 18446744073709551616) = H at *
  rw [IntKind.wrap_u64, IntKind.wrap_u64] at hh
  have := fit_no (z := vl p q + vl r s) (by unfold vl; omega)
  exact ⟨this.2.1.symm, this.2.2.symm, this.1.symm⟩
theorem add_near (p q r s : Int) (p0 : -9223372036854775808 ≤ p) (p1 : p ≤ 9223372036854775807) (q0 : 0 ≤ q) (q1 : q ≤ 18446744073709551615)
    (r0 : -9223372036854775808 ≤ r) (r1 : r ≤ 9223372036854775807) (s0 : 0 ≤ s) (s1 : s ≤ 18446744073709551615)
    (h : 0 ≤ bits .and .i64 (bits .xor .i64 p (wrap64 ((IntKind.u64.wrap p + IntKind.u64.wrap r + (q + s) / 18446744073709551616) % 18446744073709551616))) (bits .xor .i64 r (wrap64 ((IntKind.u64.wrap p + IntKind.u64.wrap r + (q + s) / 18446744073709551616) % 18446744073709551616)))) :
    wrap64 ((IntKind.u64.wrap p + IntKind.u64.wrap r + (q + s) / 18446744073709551616) % 18446744073709551616) = fh (vl p q + vl r s) ∧ (q + s) % 18446744073709551616 = fl (vl p q + vl r s) ∧ true = fit (vl p q + vl r s) := by
  have hh := hi_bd ((IntKind.u64.wrap p + IntKind.u64.wrap r + (q + s) / 18446744073709551616) % 18446744073709551616)
  have hx := sgn p _ r _ p0 p1 hh.1 hh.2.1 r0 r1 hh.1 hh.2.1
  generalize wrap64 ((IntKind.u64.wrap p + IntKind.u64.wrap r + (q + s) / 18446744073709551616) % 18446744073709551616) = H at *
  rw [IntKind.wrap_u64, IntKind.wrap_u64] at hh
  generalize bits .and .i64 (bits .xor .i64 p H) (bits .xor .i64 r H) = X at *
  have := fit_yes (z := vl p q + vl r s) (by unfold vl; omega) (by unfold vl; omega)
  rw [this.1, this.2.1, this.2.2]; unfold vl
  exact ⟨by omega, by omega, rfl⟩
theorem add_any (p q r s : Int) (w : World) (p0 : -9223372036854775808 ≤ p) (p1 : p ≤ 9223372036854775807) (q0 : 0 ≤ q) (q1 : q ≤ 18446744073709551615)
    (r0 : -9223372036854775808 ≤ r) (r1 : r ≤ 9223372036854775807) (s0 : 0 ≤ s) (s1 : s ≤ 18446744073709551615) :
    Calls Try.prog 12 #[.agg #[.int .i64 p, .int .u64 q], .agg #[.int .i64 r, .int .u64 s]] w fun e w' => e = .returned (.tuple #[.agg #[.int .i64 (fh (vl p q + vl r s)), .int .u64 (fl (vl p q + vl r s))], .bool (fit (vl p q + vl r s))]) ∧ Below w.heap.size w w' := by
  have k0 : 0 ≤ (q + s) / 18446744073709551616 := by omega
  have k1 : (q + s) / 18446744073709551616 ≤ 1 := by omega
  go_enter Try.func12, Try.ntmps12
  go_wp2_with (first | simp only [run_add64_0 q s _ q0 s0] | simp only [run_add64 _ _ _ _ (u64_bd p).1 (u64_bd r).1 k0 k1])
  · have h := add_far p q r s p0 p1 q0 q1 r0 r1 s0 s1 (by assumption)
    go_returns
    exact ⟨ret_wide h.1 h.2.1 h.2.2, by go_grown⟩
  · have h := add_near p q r s p0 p1 q0 q1 r0 r1 s0 s1 (by assumption)
    go_returns
    exact ⟨ret_wide h.1 h.2.1 h.2.2, by go_grown⟩

theorem sub_far (p q r s : Int) (p0 : -9223372036854775808 ≤ p) (p1 : p ≤ 9223372036854775807) (q0 : 0 ≤ q) (q1 : q ≤ 18446744073709551615)
    (r0 : -9223372036854775808 ≤ r) (r1 : r ≤ 9223372036854775807) (s0 : 0 ≤ s) (s1 : s ≤ 18446744073709551615)
    (h : bits .and .i64 (bits .xor .i64 p r) (bits .xor .i64 p (wrap64 ((IntKind.u64.wrap p - IntKind.u64.wrap r + (q - s) / 18446744073709551616) % 18446744073709551616))) < 0) :
    0 = fh (vl p q - vl r s) ∧ 0 = fl (vl p q - vl r s) ∧ false = fit (vl p q - vl r s) := by
  have hh := hi_bd ((IntKind.u64.wrap p - IntKind.u64.wrap r + (q - s) / 18446744073709551616) % 18446744073709551616)
  rw [sgn _ _ _ _ p0 p1 r0 r1 p0 p1 hh.1 hh.2.1] at h
  generalize wrap64 ((IntKind.u64.wrap p - IntKind.u64.wrap r + (q - s) / 18446744073709551616) % 18446744073709551616) = H at *
  rw [IntKind.wrap_u64, IntKind.wrap_u64] at hh
  have := fit_no (z := vl p q - vl r s) (by unfold vl; omega)
  exact ⟨this.2.1.symm, this.2.2.symm, this.1.symm⟩
theorem sub_near (p q r s : Int) (p0 : -9223372036854775808 ≤ p) (p1 : p ≤ 9223372036854775807) (q0 : 0 ≤ q) (q1 : q ≤ 18446744073709551615)
    (r0 : -9223372036854775808 ≤ r) (r1 : r ≤ 9223372036854775807) (s0 : 0 ≤ s) (s1 : s ≤ 18446744073709551615)
    (h : 0 ≤ bits .and .i64 (bits .xor .i64 p r) (bits .xor .i64 p (wrap64 ((IntKind.u64.wrap p - IntKind.u64.wrap r + (q - s) / 18446744073709551616) % 18446744073709551616)))) :
    wrap64 ((IntKind.u64.wrap p - IntKind.u64.wrap r + (q - s) / 18446744073709551616) % 18446744073709551616) = fh (vl p q - vl r s) ∧ (q - s) % 18446744073709551616 = fl (vl p q - vl r s) ∧ true = fit (vl p q - vl r s) := by
  have hh := hi_bd ((IntKind.u64.wrap p - IntKind.u64.wrap r + (q - s) / 18446744073709551616) % 18446744073709551616)
  have hx := sgn p r p _ p0 p1 r0 r1 p0 p1 hh.1 hh.2.1
  generalize wrap64 ((IntKind.u64.wrap p - IntKind.u64.wrap r + (q - s) / 18446744073709551616) % 18446744073709551616) = H at *
  rw [IntKind.wrap_u64, IntKind.wrap_u64] at hh
  generalize bits .and .i64 (bits .xor .i64 p r) (bits .xor .i64 p H) = X at *
  have := fit_yes (z := vl p q - vl r s) (by unfold vl; omega) (by unfold vl; omega)
  rw [this.1, this.2.1, this.2.2]; unfold vl
  exact ⟨by omega, by omega, rfl⟩
theorem sub_any (p q r s : Int) (w : World) (p0 : -9223372036854775808 ≤ p) (p1 : p ≤ 9223372036854775807) (q0 : 0 ≤ q) (q1 : q ≤ 18446744073709551615)
    (r0 : -9223372036854775808 ≤ r) (r1 : r ≤ 9223372036854775807) (s0 : 0 ≤ s) (s1 : s ≤ 18446744073709551615) :
    Calls Try.prog 13 #[.agg #[.int .i64 p, .int .u64 q], .agg #[.int .i64 r, .int .u64 s]] w fun e w' => e = .returned (.tuple #[.agg #[.int .i64 (fh (vl p q - vl r s)), .int .u64 (fl (vl p q - vl r s))], .bool (fit (vl p q - vl r s))]) ∧ Below w.heap.size w w' := by
  have k0 : 0 ≤ -((q - s) / 18446744073709551616) := by omega
  have k1 : -((q - s) / 18446744073709551616) ≤ 1 := by omega
  go_enter Try.func13, Try.ntmps13
  go_wp2_with (first | simp only [run_sub64_0 q s _ q0 q1 s0 s1] | simp only [run_sub64 _ _ _ _ (u64_bd p).1 (u64_bd p).2 (u64_bd r).1 (u64_bd r).2 k0 k1])
  · have h := sub_far p q r s p0 p1 q0 q1 r0 r1 s0 s1 (by assumption)
    go_returns
    exact ⟨ret_wide h.1 h.2.1 h.2.2, by go_grown⟩
  · have h := sub_near p q r s p0 p1 q0 q1 r0 r1 s0 s1 (by assumption)
    go_returns
    exact ⟨ret_wide h.1 h.2.1 h.2.2, by go_grown⟩

end Go.Proofs.Ytlnhfcfdjaecbaa.Wid
