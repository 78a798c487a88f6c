/- The plain arithmetic of layer 1 (numbers modulo 2^61 - 1). No dump is imported. -/
import Derived.WalkKit
import Derived.Laws.BitsAllLaws
namespace Go.Proofs.Ytdhljlhecoclfaa.Fld
open Go Go.RowKit

def fold (x : Int) : Int := x % 2305843009213693951
def add (a b : Int) : Int := (a + b) % 2305843009213693951
def sub (a b : Int) : Int := (a - b) % 2305843009213693951
def mul (a b : Int) : Int := (a * b) % 2305843009213693951
def pow (a n : Int) : Int := (a ^ n.toNat) % 2305843009213693951
def inv (a : Int) : Int := pow a 2305843009213693949
theorem fold_bd (x : Int) : 0 ≤ fold x ∧ fold x ≤ 2305843009213693950 := by unfold fold; omega
theorem add_bd (x y : Int) : 0 ≤ add x y ∧ add x y ≤ 2305843009213693950 := by unfold add; omega
theorem sub_bd (x y : Int) : 0 ≤ sub x y ∧ sub x y ≤ 2305843009213693950 := by unfold sub; omega
theorem mod_bd (z : Int) : 0 ≤ z % 2305843009213693951 ∧ z % 2305843009213693951 ≤ 2305843009213693950 := by omega
theorem mul_bd (x y : Int) : 0 ≤ mul x y ∧ mul x y ≤ 2305843009213693950 := mod_bd _
theorem pow_bd (x y : Int) : 0 ≤ pow x y ∧ pow x y ≤ 2305843009213693950 := mod_bd _
theorem inv_bd (x : Int) : 0 ≤ inv x ∧ inv x ≤ 2305843009213693950 := mod_bd _

theorem ret_int {k : IntKind} {a b : Int} (h : a = b) : Ending.returned (.int k a) = .returned (.int k b) := by rw [h]
theorem ret_two {k l : IntKind} {a b c d : Int} (h : a = b) (g : c = d) : Ending.returned (.tuple #[.int k a, .int l c]) = .returned (.tuple #[.int k b, .int l d]) := by rw [h, g]
theorem ret_bool {a b : Bool} (h : a = b) : Ending.returned (.bool a) = .returned (.bool b) := by rw [h]

theorem and61 (x : Int) (h0 : 0 ≤ x) (h1 : x ≤ 18446744073709551615) : bits .and .u64 x 2305843009213693951 = x % 2305843009213693952 := by
  rw [u64_and x 2305843009213693951 h0 (by omega) (by omega) (by omega)]
  have h := Nat.and_two_pow_sub_one_eq_mod x.toNat 61
  have e : ((2305843009213693951 : Int).toNat) = 2 ^ 61 - 1 := by decide
  rw [e, h]
  have e2 : (2 : Nat) ^ 61 = 2305843009213693952 := by decide
  rw [e2]; omega
theorem and32 (x : Int) (h0 : 0 ≤ x) (h1 : x ≤ 18446744073709551615) : bits .and .u64 x 4294967295 = x % 4294967296 := by
  rw [u64_and x 4294967295 h0 (by omega) (by omega) (by omega)]
  have h := Nat.and_two_pow_sub_one_eq_mod x.toNat 32
  have e : ((4294967295 : Int).toNat) = 2 ^ 32 - 1 := by decide
  rw [e, h]
  have e2 : (2 : Nat) ^ 32 = 4294967296 := by decide
  rw [e2]; omega
theorem and1 (x : Int) (h0 : 0 ≤ x) (h1 : x ≤ 18446744073709551615) : bits .and .u64 x 1 = x % 2 := by
  rw [u64_and x 1 h0 (by omega) (by omega) (by omega)]
  have h := Nat.and_two_pow_sub_one_eq_mod x.toNat 1
  have e : ((1 : Int).toNat) = 2 ^ 1 - 1 := by decide
  rw [e, h]
  have e2 : (2 : Nat) ^ 1 = 2 := by decide
  rw [e2]; omega
/-- The two halves of 'hi<<3 | lo>>61' do not meet. -/
theorem or3 (x y : Int) (h0 : 0 ≤ x) (h1 : x ≤ 2305843009213693951) (g0 : 0 ≤ y) (g1 : y ≤ 7) : bits .or .u64 (x * 8) y = x * 8 + y := by
  rw [u64_or (x * 8) y (by omega) (by omega) (by omega) (by omega)]
  have h := nat_join 3 (x * 8).toNat y.toNat (by simp; omega) (by simp; omega)
  rw [h]; omega

/-- 2^61 counts as 1. -/
theorem fold_parts (x : Int) : fold x = (x / 2305843009213693952 + x % 2305843009213693952) % 2305843009213693951 := by
  unfold fold
  have e : x = (x / 2305843009213693952 + x % 2305843009213693952) + 2305843009213693951 * (x / 2305843009213693952) := by omega
  generalize hs : x / 2305843009213693952 + x % 2305843009213693952 = s at e ⊢
  rw [e, Int.add_mul_emod_self_left]
theorem fold_sum (x : Int) (h0 : 0 ≤ x) (h1 : x ≤ 18446744073709551615) : IntKind.u64.wrap (x / 2305843009213693952 + bits .and .u64 x 2305843009213693951) = x / 2305843009213693952 + x % 2305843009213693952 ∧
    0 ≤ x / 2305843009213693952 + x % 2305843009213693952 ∧ x / 2305843009213693952 + x % 2305843009213693952 ≤ 2305843009213693958 := by
  rw [and61 x h0 h1]
  have hb : x / 2305843009213693952 ≤ 7 := by omega
  have hr : x % 2305843009213693952 ≤ 2305843009213693951 := by omega
  exact ⟨IntWalk.u64_in _ (by omega), by omega, by omega⟩
theorem fold_hi (x : Int) (h0 : 0 ≤ x) (h1 : x ≤ 18446744073709551615) (h : 2305843009213693951 ≤ IntKind.u64.wrap (x / 2305843009213693952 + bits .and .u64 x 2305843009213693951)) :
    IntKind.u64.wrap (IntKind.u64.wrap (x / 2305843009213693952 + bits .and .u64 x 2305843009213693951) - 2305843009213693951) = fold x := by
  obtain ⟨e, b0, b1⟩ := fold_sum x h0 h1
  rw [e] at h ⊢
  rw [fold_parts]
  generalize x / 2305843009213693952 + x % 2305843009213693952 = s at *
  rw [IntWalk.u64_in _ (by omega)]
  omega
theorem fold_lo (x : Int) (h0 : 0 ≤ x) (h1 : x ≤ 18446744073709551615) (h : IntKind.u64.wrap (x / 2305843009213693952 + bits .and .u64 x 2305843009213693951) < 2305843009213693951) :
    IntKind.u64.wrap (x / 2305843009213693952 + bits .and .u64 x 2305843009213693951) = fold x := by
  obtain ⟨e, b0, b1⟩ := fold_sum x h0 h1
  rw [e] at h ⊢
  rw [fold_parts]
  generalize x / 2305843009213693952 + x % 2305843009213693952 = s at *
  omega
theorem fold_fold (x : Int) : fold (fold x) = fold x := by unfold fold; omega
theorem fold_of (x : Int) (h0 : 0 ≤ x) (h1 : x ≤ 2305843009213693950) : fold x = x := by unfold fold; omega
theorem add_fold (a b : Int) : fold (fold a + fold b) = add a b := by unfold fold add; omega
theorem sub_fold (a b : Int) : fold (2305843009213693951 + fold a - fold b) = sub a b := by unfold fold sub; omega
theorem mul_fold (a b : Int) : mul (fold a) (fold b) = mul a b := by unfold fold mul; rw [← Int.mul_emod]

/-! ### The product of 128 bits -/
theorem prod_bd (x y : Int) (h0 : 0 ≤ x) (h1 : x ≤ 4294967295) (g0 : 0 ≤ y) (g1 : y ≤ 4294967295) : 0 ≤ x * y ∧ x * y ≤ 18446744065119617025 := by
  refine ⟨Int.mul_nonneg h0 g0, ?_⟩
  have := Int.mul_le_mul h1 g1 g0 (by omega : (0 : Int) ≤ 4294967295)
  omega
theorem prod_parts (a b : Int) : a * b = (a / 4294967296 * (b / 4294967296)) * 18446744073709551616 + (a / 4294967296 * (b % 4294967296) + a % 4294967296 * (b / 4294967296)) * 4294967296 + a % 4294967296 * (b % 4294967296) := by
  have ea : a = a / 4294967296 * 4294967296 + a % 4294967296 := by omega
  have eb : b = b / 4294967296 * 4294967296 + b % 4294967296 := by omega
  generalize a / 4294967296 = A at *
  generalize a % 4294967296 = u at *
  generalize b / 4294967296 = B at *
  generalize b % 4294967296 = v at *
  subst ea eb
  simp only [Int.add_mul, Int.mul_add]
  have e1 : A * 4294967296 * (B * 4294967296) = A * B * 18446744073709551616 := by
    rw [Int.mul_assoc, Int.mul_left_comm 4294967296 B, ← Int.mul_assoc]; rfl
  have e2 : A * 4294967296 * v = A * v * 4294967296 := by rw [Int.mul_assoc, Int.mul_comm 4294967296 v, Int.mul_assoc]
  have e3 : u * (B * 4294967296) = u * B * 4294967296 := by rw [Int.mul_assoc]
  omega
theorem mul64_hi (a b : Int) (h0 : 0 ≤ a) (h1 : a ≤ 18446744073709551615) (g0 : 0 ≤ b) (g1 : b ≤ 18446744073709551615) :
    IntKind.u64.wrap (IntKind.u64.wrap (IntKind.u64.wrap (a / 4294967296 * (b / 4294967296)) + IntKind.u64.wrap (IntKind.u64.wrap (a / 4294967296 * bits .and .u64 b 4294967295) + IntKind.u64.wrap (bits .and .u64 a 4294967295 * bits .and .u64 b 4294967295) / 4294967296) / 4294967296)
      + IntKind.u64.wrap (bits .and .u64 (IntKind.u64.wrap (IntKind.u64.wrap (a / 4294967296 * bits .and .u64 b 4294967295) + IntKind.u64.wrap (bits .and .u64 a 4294967295 * bits .and .u64 b 4294967295) / 4294967296)) 4294967295 + IntKind.u64.wrap (bits .and .u64 a 4294967295 * (b / 4294967296))) / 4294967296)
    = a * b / 18446744073709551616 := by
  rw [and32 a h0 h1, and32 b g0 g1, prod_parts a b]
  have A0 : 0 ≤ a / 4294967296 ∧ a / 4294967296 ≤ 4294967295 := by omega
  have B0 : 0 ≤ b / 4294967296 ∧ b / 4294967296 ≤ 4294967295 := by omega
  have u0 : 0 ≤ a % 4294967296 ∧ a % 4294967296 ≤ 4294967295 := by omega
  have v0 : 0 ≤ b % 4294967296 ∧ b % 4294967296 ≤ 4294967295 := by omega
  have p11 := prod_bd _ _ A0.1 A0.2 B0.1 B0.2
  have p10 := prod_bd _ _ A0.1 A0.2 v0.1 v0.2
  have p01 := prod_bd _ _ u0.1 u0.2 B0.1 B0.2
  have p00 := prod_bd _ _ u0.1 u0.2 v0.1 v0.2
  generalize a / 4294967296 * (b / 4294967296) = x11 at *
  generalize a / 4294967296 * (b % 4294967296) = x10 at *
  generalize a % 4294967296 * (b / 4294967296) = x01 at *
  generalize a % 4294967296 * (b % 4294967296) = x00 at *
  rw [IntWalk.u64_in x00 (by omega), IntWalk.u64_in x10 (by omega), IntWalk.u64_in x01 (by omega), IntWalk.u64_in x11 (by omega)]
  rw [IntWalk.u64_in (x10 + x00 / 4294967296) (by omega)]
  rw [and32 (x10 + x00 / 4294967296) (by omega) (by omega)]
  rw [IntWalk.u64_in ((x10 + x00 / 4294967296) % 4294967296 + x01) (by omega)]
  rw [IntWalk.u64_in (x11 + (x10 + x00 / 4294967296) / 4294967296) (by omega)]
  rw [IntWalk.u64_in _ (by omega)]
  omega
theorem mul64_lo (a b : Int) : IntKind.u64.wrap (a * b) = a * b % 18446744073709551616 := by rw [IntKind.wrap_u64]

/-- What Mul makes of the 128 bits. -/
theorem mul_bits (a b : Int) (h0 : 0 ≤ a) (h1 : a ≤ 2305843009213693950) (g0 : 0 ≤ b) (g1 : b ≤ 2305843009213693950) :
    fold (IntKind.u64.wrap (bits .or .u64 (IntKind.u64.wrap (a * b / 18446744073709551616 * 8)) (a * b % 18446744073709551616 / 2305843009213693952) + bits .and .u64 (a * b % 18446744073709551616) 2305843009213693951)) = mul a b := by
  have t0 : 0 ≤ a * b := Int.mul_nonneg h0 g0
  have t1 : a * b ≤ 2305843009213693950 * 2305843009213693950 := Int.mul_le_mul h1 g1 g0 (by omega)
  unfold mul
  generalize a * b = t at *
  have q0 : 0 ≤ t / 18446744073709551616 ∧ t / 18446744073709551616 ≤ 288230376151711743 := by omega
  rw [IntWalk.u64_in (t / 18446744073709551616 * 8) (by omega), or3 _ _ (by omega) (by omega) (by omega) (by omega), and61 _ (by omega) (by omega)]
  have e1 : t / 18446744073709551616 * 8 + t % 18446744073709551616 / 2305843009213693952 = t / 2305843009213693952 := by omega
  have e2 : t % 18446744073709551616 % 2305843009213693952 = t % 2305843009213693952 := by omega
  rw [e1, e2, IntWalk.u64_in _ (by omega)]
  show _ = fold t
  rw [fold_parts t]; unfold fold; rfl
theorem mul_bits_bd (a b : Int) (h0 : 0 ≤ a) (h1 : a ≤ 2305843009213693950) (g0 : 0 ≤ b) (g1 : b ≤ 2305843009213693950) :
    0 ≤ a * b / 18446744073709551616 ∧ a * b / 18446744073709551616 ≤ 18446744073709551615 ∧ 0 ≤ a * b % 18446744073709551616 ∧ a * b % 18446744073709551616 ≤ 18446744073709551615 := by
  have t0 : 0 ≤ a * b := Int.mul_nonneg h0 g0
  have t1 : a * b ≤ 2305843009213693950 * 2305843009213693950 := Int.mul_le_mul h1 g1 g0 (by omega)
  generalize a * b = t at *
  omega
theorem u64_bd (x : Int) : 0 ≤ IntKind.u64.wrap x ∧ IntKind.u64.wrap x ≤ 18446744073709551615 := by rw [IntKind.wrap_u64]; omega

/-! ### Powers -/
theorem pow_mod (x : Int) (k : Nat) : (x % 2305843009213693951) ^ k % 2305843009213693951 = x ^ k % 2305843009213693951 := by
  induction k with
  | zero => simp
  | succ k ih => rw [Int.pow_succ, Int.pow_succ, Int.mul_emod, ih, ← Int.mul_emod, Int.mul_emod, Int.emod_emod_of_dvd _ (Int.dvd_refl _), ← Int.mul_emod]
/-- What a loop over powers keeps: u times s to the power of m. -/
def pw (u s m : Int) : Int := (u * s ^ m.toNat) % 2305843009213693951
theorem pw_zero (u s : Int) : pw u s 0 = fold u := by unfold pw fold; simp
theorem pow_two (s : Int) (k : Nat) : (s * s) ^ k = s ^ (2 * k) := by rw [Int.pow_mul]; congr 1; rw [Int.pow_succ, Int.pow_succ]; simp
theorem pw_even (u s m : Int) (h : 0 ≤ m) (hm : m % 2 = 0) : pw u (mul s s) (m / 2) = pw u s m := by
  unfold pw mul
  rw [Int.mul_emod, pow_mod, ← Int.mul_emod, pow_two]
  rw [show 2 * (m / 2).toNat = m.toNat from by omega]
theorem pw_odd (u s m : Int) (h : 0 ≤ m) (hm : m % 2 = 1) : pw (mul u s) (mul s s) (m / 2) = pw u s m := by
  unfold pw mul
  rw [Int.mul_emod, pow_mod, Int.emod_emod_of_dvd _ (Int.dvd_refl _), ← Int.mul_emod, pow_two, Int.mul_assoc]
  rw [show s * s ^ (2 * (m / 2).toNat) = s ^ (2 * (m / 2).toNat + 1) from by rw [Int.pow_succ, Int.mul_comm]]
  rw [show 2 * (m / 2).toNat + 1 = m.toNat from by omega]
theorem pw_start (a n : Int) : pw 1 (fold a) n = pow a n := by unfold pw pow fold; rw [Int.one_mul, pow_mod]

/-! ### The document's own answers: products by doubling -/
def mr (o x y : Int) : Int := (o + x * y) % 2305843009213693951
theorem mr_zero (o x : Int) : mr o x 0 = fold o := by unfold mr fold; simp
theorem mr_start (a b : Int) : mr 0 (a % 2305843009213693951) (b % 2305843009213693951) = mul a b := by unfold mr mul; rw [Int.zero_add, ← Int.mul_emod]
theorem mr_dbl (o x y : Int) : (o + (x + x) % 2305843009213693951 * y) % 2305843009213693951 = (o + x * (2 * y)) % 2305843009213693951 := by
  rw [Int.add_emod, Int.mul_emod, Int.emod_emod_of_dvd _ (Int.dvd_refl _), ← Int.mul_emod, ← Int.add_emod]
  congr 2
  rw [Int.add_mul, Int.mul_left_comm]; omega
theorem mr_even (o x y : Int) (h : y % 2 = 0) : mr o ((x + x) % 2305843009213693951) (y / 2) = mr o x y := by
  unfold mr; rw [mr_dbl, show 2 * (y / 2) = y from by omega]
theorem mr_odd (o x y : Int) (h : y % 2 = 1) : mr ((o + x) % 2305843009213693951) ((x + x) % 2305843009213693951) (y / 2) = mr o x y := by
  unfold mr; rw [mr_dbl, Int.emod_add_emod, Int.add_assoc]
  have e : x + x * (2 * (y / 2)) = x * y := by
    have e2 : y = 2 * (y / 2) + 1 := by omega
    have e3 : x * y = x * (2 * (y / 2) + 1) := by rw [← e2]
    rw [e3, Int.mul_add, Int.mul_one, Int.add_comm]
  rw [e]

/-! ### Powers, from the highest bit down -/
theorem mod_mul (x a : Int) : x % 2305843009213693951 * a % 2305843009213693951 = x * a % 2305843009213693951 := by rw [Int.mul_emod, Int.emod_emod_of_dvd _ (Int.dvd_refl _), ← Int.mul_emod]
theorem mul_mod (x a : Int) : a * (x % 2305843009213693951) % 2305843009213693951 = a * x % 2305843009213693951 := by rw [Int.mul_comm, mod_mul, Int.mul_comm]
theorem pow_nought (a : Int) : pow a 0 = 1 := by unfold pow; simp
theorem pow_even (a n : Int) (h0 : 0 ≤ n) (h : n % 2 = 0) : mul (pow a (n / 2)) (pow a (n / 2)) = pow a n := by
  unfold mul pow
  rw [← Int.mul_emod, ← Int.pow_add, show (n / 2).toNat + (n / 2).toNat = n.toNat from by omega]
theorem pow_odd (a n : Int) (h0 : 0 ≤ n) (h : n % 2 = 1) : mul (mul (pow a (n / 2)) (pow a (n / 2))) a = pow a n := by
  unfold mul pow
  rw [← Int.mul_emod, ← Int.pow_add, mod_mul, ← Int.pow_succ, show Nat.succ ((n / 2).toNat + (n / 2).toNat) = n.toNat from by omega]

theorem half (n : Int) (j : Nat) : n / 2 ^ (j + 1) = n / 2 ^ j / 2 := by
  rw [Int.pow_succ, Int.ediv_ediv_of_nonneg (by have := Int.pow_pos (n := (2 : Int)) (m := j) (by omega); omega)]
theorem part_bd (n : Int) (j : Nat) (g0 : 0 ≤ n) (g1 : n ≤ 18446744073709551615) : 0 ≤ n / 2 ^ j ∧ n / 2 ^ j ≤ 18446744073709551615 := by
  have hp := Int.pow_pos (n := (2 : Int)) (m := j) (by omega)
  exact ⟨Int.ediv_nonneg g0 (by omega), Int.le_trans (Int.ediv_le_self _ g0) g1⟩

end Go.Proofs.Ytdhljlhecoclfaa.Fld
