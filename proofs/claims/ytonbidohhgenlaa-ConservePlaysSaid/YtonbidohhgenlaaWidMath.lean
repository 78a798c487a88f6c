/- Numbers of 128 bits: values, digits of sixteen bits, signs. -/
import Derived.Test.YtonbidohhgenlaaRows
import Derived.WalkKit
import Derived.Lib.Hide
namespace Go.Proofs.Ytonbidohhgenlaa.Wid
open Go.RowKit

theorem ret_int {k : IntKind} {a b : Int} (h : a = b) : Ending.returned (.int k a) = .returned (.int k b) := by rw [h]
theorem ret_two {k l : IntKind} {a b c d : Int} (h : a = b) (g : c = d) : Ending.returned (.tuple #[.int k a, .int l c]) = .returned (.tuple #[.int k b, .int l d]) := by rw [h, g]
theorem ret_bool {a b : Bool} (h : a = b) : Ending.returned (.bool a) = .returned (.bool b) := by rw [h]
theorem ret_agg {a b c d : Int} (h : a = b) (g : c = d) : Ending.returned (.agg #[.int .i64 a, .int .u64 c]) = .returned (.agg #[.int .i64 b, .int .u64 d]) := by rw [h, g]
theorem ret_wide {a b c d : Int} {p q : Bool} (h : a = b) (g : c = d) (k : p = q) : Ending.returned (.tuple #[.agg #[.int .i64 a, .int .u64 c], .bool p]) = .returned (.tuple #[.agg #[.int .i64 b, .int .u64 d], .bool q]) := by rw [h, g, k]
theorem ret_int_bool {a b : Int} {p q : Bool} (h : a = b) (k : p = q) : Ending.returned (.tuple #[.int .i64 a, .bool p]) = .returned (.tuple #[.int .i64 b, .bool q]) := by rw [h, k]

/-! ### values -/
/-- The number that a pair is. -/
def vl (p q : Int) : Int := p * 18446744073709551616 + q
def fit (z : Int) : Bool := decide (-170141183460469231731687303715884105728 ≤ z ∧ z < 170141183460469231731687303715884105728)
def fh (z : Int) : Int := if fit z = true then z / 18446744073709551616 else 0
def fl (z : Int) : Int := if fit z = true then z % 18446744073709551616 else 0
def fit64 (z : Int) : Bool := decide (-9223372036854775808 ≤ z ∧ z < 9223372036854775808)
def f64 (z : Int) : Int := if fit64 z = true then z else 0

theorem fit_yes {z : Int} (h0 : -170141183460469231731687303715884105728 ≤ z) (h1 : z < 170141183460469231731687303715884105728) : fit z = true ∧ fh z = z / 18446744073709551616 ∧ fl z = z % 18446744073709551616 := by
  have h : fit z = true := by unfold fit; simp; omega
  exact ⟨h, by unfold fh; rw [if_pos h], by unfold fl; rw [if_pos h]⟩
theorem fit_no {z : Int} (h : ¬ (-170141183460469231731687303715884105728 ≤ z ∧ z < 170141183460469231731687303715884105728)) : fit z = false ∧ fh z = 0 ∧ fl z = 0 := by
  have h : fit z = false := by unfold fit; simp; omega
  exact ⟨h, by unfold fh; rw [if_neg (by simp [h])], by unfold fl; rw [if_neg (by simp [h])]⟩
theorem fit64_yes {z : Int} (h0 : -9223372036854775808 ≤ z) (h1 : z < 9223372036854775808) : fit64 z = true ∧ f64 z = z := by
  have h : fit64 z = true := by unfold fit64; simp; omega
  exact ⟨h, by unfold f64; rw [if_pos h]⟩
theorem fit64_no {z : Int} (h : ¬ (-9223372036854775808 ≤ z ∧ z < 9223372036854775808)) : fit64 z = false ∧ f64 z = 0 := by
  have h : fit64 z = false := by unfold fit64; simp; omega
  exact ⟨h, by unfold f64; rw [if_neg (by simp [h])]⟩
theorem fh_bd (z : Int) : -9223372036854775808 ≤ fh z ∧ fh z ≤ 9223372036854775807 := by
  by_cases h : -170141183460469231731687303715884105728 ≤ z ∧ z < 170141183460469231731687303715884105728
  · rw [(fit_yes h.1 h.2).2.1]; omega
  · rw [(fit_no h).2.1]; omega
theorem fl_bd (z : Int) : 0 ≤ fl z ∧ fl z ≤ 18446744073709551615 := by
  by_cases h : -170141183460469231731687303715884105728 ≤ z ∧ z < 170141183460469231731687303715884105728
  · rw [(fit_yes h.1 h.2).2.2]; omega
  · rw [(fit_no h).2.2]; omega
theorem f64_bd (z : Int) : -9223372036854775808 ≤ f64 z ∧ f64 z ≤ 9223372036854775807 := by
  by_cases h : -9223372036854775808 ≤ z ∧ z < 9223372036854775808
  · rw [(fit64_yes h.1 h.2).2]; omega
  · rw [(fit64_no h).2]; omega
/-- The pair of what fits is that number. -/
theorem vl_fit (z : Int) (h0 : -170141183460469231731687303715884105728 ≤ z) (h1 : z < 170141183460469231731687303715884105728) : vl (fh z) (fl z) = z := by
  rw [(fit_yes h0 h1).2.1, (fit_yes h0 h1).2.2]; unfold vl; omega
theorem fh_vl (p q : Int) (h0 : -9223372036854775808 ≤ p) (h1 : p ≤ 9223372036854775807) (g0 : 0 ≤ q) (g1 : q ≤ 18446744073709551615) : fh (vl p q) = p ∧ fl (vl p q) = q ∧ fit (vl p q) = true := by
  have := fit_yes (z := vl p q) (by unfold vl; omega) (by unfold vl; omega)
  refine ⟨?_, ?_, this.1⟩
  · rw [this.2.1]; unfold vl; omega
  · rw [this.2.2]; unfold vl; omega
theorem vl_bd (p q : Int) (h0 : -9223372036854775808 ≤ p) (h1 : p ≤ 9223372036854775807) (g0 : 0 ≤ q) (g1 : q ≤ 18446744073709551615) : -170141183460469231731687303715884105728 ≤ vl p q ∧ vl p q < 170141183460469231731687303715884105728 := by
  unfold vl; omega
theorem vl_inj {p q r s : Int} (g0 : 0 ≤ q) (g1 : q ≤ 18446744073709551615) (k0 : 0 ≤ s) (k1 : s ≤ 18446744073709551615) (h : vl p q = vl r s) : p = r ∧ q = s := by
  unfold vl at h; omega

/-! ### signs of bits -/
theorem wrap_bv (x : BitVec 64) : IntKind.i64.wrap (x.toNat : Int) = x.toInt := by
  have h := x.isLt
  rw [IntKind.wrap_i64, BitVec.toInt_eq_toNat_cond]
  split <;> omega
theorem bv_neg (x : BitVec 64) : (x.toInt < 0) ↔ x.msb = true := by
  rw [BitVec.msb_eq_toInt]; simp
theorem bv_of (a : Int) (h0 : -9223372036854775808 ≤ a) (h1 : a ≤ 9223372036854775807) : (BitVec.ofInt 64 a).toInt = a := by
  rw [BitVec.toInt_ofInt]; simp [Int.bmod]; omega
theorem xor_i64 (a b : Int) : bits .xor .i64 a b = (BitVec.ofInt 64 a ^^^ BitVec.ofInt 64 b).toInt := wrap_bv _
theorem and_i64 (a b : Int) : bits .and .i64 a b = (BitVec.ofInt 64 a &&& BitVec.ofInt 64 b).toInt := wrap_bv _
theorem bv_bd (x : BitVec 64) : -9223372036854775808 ≤ x.toInt ∧ x.toInt ≤ 9223372036854775807 := by
  have := BitVec.toInt_lt (x := x); have := BitVec.le_toInt x; omega
theorem sgn (a b c d : Int) (a0 : -9223372036854775808 ≤ a) (a1 : a ≤ 9223372036854775807) (b0 : -9223372036854775808 ≤ b) (b1 : b ≤ 9223372036854775807)
    (c0 : -9223372036854775808 ≤ c) (c1 : c ≤ 9223372036854775807) (d0 : -9223372036854775808 ≤ d) (d1 : d ≤ 9223372036854775807) :
    (bits .and .i64 (bits .xor .i64 a b) (bits .xor .i64 c d) < 0) ↔ ((a < 0 ∧ 0 ≤ b ∨ 0 ≤ a ∧ b < 0) ∧ (c < 0 ∧ 0 ≤ d ∨ 0 ≤ c ∧ d < 0)) := by
  rw [and_i64, bv_neg, BitVec.msb_and, Bool.and_eq_true, xor_i64, xor_i64, ← bv_neg, ← bv_neg, bv_of _ (bv_bd _).1 (bv_bd _).2, bv_of _ (bv_bd _).1 (bv_bd _).2, bv_neg, bv_neg, BitVec.msb_xor, BitVec.msb_xor]
  have ea := bv_neg (BitVec.ofInt 64 a)
  have eb := bv_neg (BitVec.ofInt 64 b)
  have ec := bv_neg (BitVec.ofInt 64 c)
  have ed := bv_neg (BitVec.ofInt 64 d)
  rw [bv_of a a0 a1] at ea
  rw [bv_of b b0 b1] at eb
  rw [bv_of c c0 c1] at ec
  rw [bv_of d d0 d1] at ed
  generalize (BitVec.ofInt 64 a).msb = x at *
  generalize (BitVec.ofInt 64 b).msb = y at *
  generalize (BitVec.ofInt 64 c).msb = z at *
  generalize (BitVec.ofInt 64 d).msb = u at *
  cases x <;> cases y <;> cases z <;> cases u <;> simp at * <;> omega

/-! ### digits of sixteen bits -/
def dg (x : Int) (i : Nat) : Int := x / (65536 ^ i) % 65536
def cr (x y : Int) (i : Nat) : Int := (x % (65536 ^ i) + y % (65536 ^ i)) / (65536 ^ i)
theorem b_pos (i : Nat) : (0 : Int) < 65536 ^ i := Int.pow_pos (by decide)
theorem dg_bd (x : Int) (i : Nat) : 0 ≤ dg x i ∧ dg x i ≤ 65535 := by unfold dg; omega
theorem cr_0 (x y : Int) : cr x y 0 = 0 := by unfold cr; omega
theorem cr_bd (x y : Int) (i : Nat) : 0 ≤ cr x y i ∧ cr x y i ≤ 1 := by
  have h := b_pos i
  have h1 := Int.emod_nonneg x (Int.ne_of_gt h)
  have h2 := Int.emod_nonneg y (Int.ne_of_gt h)
  have h3 := Int.emod_lt_of_pos x h
  have h4 := Int.emod_lt_of_pos y h
  unfold cr
  refine ⟨Int.ediv_nonneg (by omega) (by omega), ?_⟩
  have : (x % 65536 ^ i + y % 65536 ^ i) / 65536 ^ i < 2 := Int.ediv_lt_of_lt_mul h (by omega)
  omega
theorem cr_split (x y : Int) (i : Nat) : (x + y) / 65536 ^ i = x / 65536 ^ i + y / 65536 ^ i + cr x y i := by
  have h := b_pos i
  have e : x + y = (x % 65536 ^ i + y % 65536 ^ i) + 65536 ^ i * (x / 65536 ^ i + y / 65536 ^ i) := by
    have h1 := Int.emod_add_mul_ediv x (65536 ^ i)
    have h2 := Int.emod_add_mul_ediv y (65536 ^ i)
    rw [Int.mul_add]; omega
  unfold cr
  rw [e, Int.add_mul_ediv_left _ _ (Int.ne_of_gt h)]
  omega
theorem plus_dg (x y : Int) (i : Nat) : (dg x i + dg y i + cr x y i) % 65536 = dg (x + y) i := by
  unfold dg; rw [cr_split]; omega
theorem mod_succ (x : Int) (i : Nat) : x % 65536 ^ (i + 1) = 65536 ^ i * dg x i + x % 65536 ^ i := by
  have h := b_pos i
  have e : (65536 : Int) ^ (i + 1) = 65536 ^ i * 65536 := Int.pow_succ _ _
  unfold dg
  have h1 := Int.emod_add_mul_ediv x (65536 ^ i)
  have h2 := Int.emod_add_mul_ediv (x / 65536 ^ i) 65536
  have h3 := Int.emod_nonneg x (Int.ne_of_gt h)
  have h4 := Int.emod_lt_of_pos x h
  have h5 := Int.emod_nonneg (x / 65536 ^ i) (b := 65536) (by decide)
  have h6 := Int.emod_lt_of_pos (x / 65536 ^ i) (b := 65536) (by decide)
  generalize (65536 : Int) ^ i = B at *
  generalize x / B = q at *
  generalize x % B = r at *
  rw [e]
  have hx : x = (B * (q % 65536) + r) + B * 65536 * (q / 65536) := by
    have : B * 65536 * (q / 65536) = B * (65536 * (q / 65536)) := Int.mul_assoc _ _ _
    rw [this, ← h1]
    have : B * q = B * (q % 65536) + B * (65536 * (q / 65536)) := by rw [← Int.mul_add]; rw [h2]
    omega
  rw [hx, Int.add_mul_emod_self_left]
  have hlt : B * (q % 65536) ≤ B * 65535 := Int.mul_le_mul_of_nonneg_left (by omega) (by omega)
  have hge : 0 ≤ B * (q % 65536) := Int.mul_nonneg (by omega) h5
  exact Int.emod_eq_of_lt (by omega) (by omega)
theorem plus_cr (x y : Int) (i : Nat) : (dg x i + dg y i + cr x y i) / 65536 = cr x y (i + 1) := by
  have h := b_pos i
  have e : (65536 : Int) ^ (i + 1) = 65536 ^ i * 65536 := Int.pow_succ _ _
  unfold cr
  rw [mod_succ, mod_succ, e]
  generalize hB : (65536 : Int) ^ i = B at *
  have e2 : B * dg x i + x % B + (B * dg y i + y % B) = (x % B + y % B) + B * (dg x i + dg y i) := by rw [Int.mul_add]; omega
  rw [e2, ← Int.ediv_ediv_of_nonneg (Int.le_of_lt h), Int.add_mul_ediv_left _ _ (Int.ne_of_gt h)]
  congr 1; omega
end Go.Proofs.Ytonbidohhgenlaa.Wid
