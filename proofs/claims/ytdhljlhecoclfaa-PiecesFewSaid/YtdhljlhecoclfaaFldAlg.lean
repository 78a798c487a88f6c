/- Sums and products modulo P may be put together in any order; what was done is undone. -/
import Derived.Test.YtdhljlhecoclfaaFldMore
namespace Go.Proofs.Ytdhljlhecoclfaa.Fld
open Go.RowKit

/-! ### What follows: the ring -/
theorem beq_of {x y : Int} (h : x = y) : (x == y) = true := by simpa using h
theorem mul_add (a b c : Int) : mul a (add b c) = add (mul a b) (mul a c) := by
  unfold mul add; rw [mul_mod, Int.mul_add, Int.add_emod]
theorem add_assoc (a b c : Int) : add a (add b c) = add (add a b) c := by unfold add; omega
theorem mul_assoc (a b c : Int) : mul a (mul b c) = mul (mul a b) c := by
  unfold mul; rw [mul_mod, mod_mul, Int.mul_assoc]
theorem add_comm (a b : Int) : add a b = add b a := by unfold add; rw [Int.add_comm]
theorem mul_comm (a b : Int) : mul a b = mul b a := by unfold mul; rw [Int.mul_comm]
theorem mul_one (a : Int) : mul a 1 = fold a := by unfold mul fold; rw [Int.mul_one]
/-! ### What was done is undone -/
theorem sub_zero (a b : Int) (h : fold b = 0) : sub a b = fold a := by unfold sub fold at *; omega
theorem mul_zero (a b : Int) (h : fold b = 0) : mul a b = 0 := by
  unfold fold at h; unfold mul; rw [Int.mul_emod, h, Int.mul_zero]; rfl
theorem add_back (a b : Int) : sub (add a b) b = fold a := by unfold sub add fold; omega
theorem sub_back (a b : Int) : add (sub a b) b = fold a := by unfold sub add fold; omega
theorem mul_back (a b : Int) (h : fold b ≠ 0) : mul (mul a b) (inv b) = fold a := by rw [← mul_assoc, inv_is b h, mul_one]
theorem fold_inv (b : Int) (h : fold b ≠ 0) : fold (inv b) ≠ 0 := by
  intro e
  have h1 := inv_is b h
  rw [mul_zero b _ e] at h1
  exact absurd h1 (by decide)
theorem inv_inv (b : Int) (h : fold b ≠ 0) : inv (inv b) = fold b := by
  have f := fold_bd b
  refine (inv_only (inv b) (fold b) (fold_inv b h) ?_ f.1 f.2).symm
  have e := inv_is b h
  unfold mul fold at *
  rw [mod_mul]; exact e
/-! ### It hangs on what is left alone -/
theorem add_left (a b : Int) : add a b = add (fold a) (fold b) := by unfold add fold; omega
theorem sub_left (a b : Int) : sub a b = sub (fold a) (fold b) := by unfold sub fold; omega
theorem pow_left (a n : Int) : pow a n = pow (fold a) n := by unfold pow fold; rw [pow_mod]
theorem inv_left (a : Int) : inv a = inv (fold a) := pow_left a _
/-! ### Exponents -/
theorem pow_add (a m n : Int) (hm : 0 ≤ m) (hn : 0 ≤ n) : pow a (m + n) = mul (pow a m) (pow a n) := by
  unfold pow mul
  rw [Int.toNat_add hm hn, Int.pow_add, Int.mul_emod]
theorem pow_mul (a m n : Int) (hm : 0 ≤ m) (hn : 0 ≤ n) : pow a (m * n) = pow (pow a m) n := by
  unfold pow
  rw [pow_mod, Int.toNat_mul hm hn, Int.pow_mul]
theorem pow_one (a : Int) : pow a 1 = fold a := by
  unfold pow fold
  rw [show (1 : Int).toNat = 0 + 1 from rfl, Int.pow_succ, Int.pow_zero, Int.one_mul]
end Go.Proofs.Ytdhljlhecoclfaa.Fld
