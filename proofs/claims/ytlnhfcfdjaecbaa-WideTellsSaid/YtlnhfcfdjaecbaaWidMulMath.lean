/- A product by digits of sixteen bits, plain arithmetic. Printed by wip/gen/wid3.py. -/
import Derived.Test.YtlnhfcfdjaecbaaWidMath
namespace Go.Proofs.Ytlnhfcfdjaecbaa.Wid
open Go.RowKit
def pp (x y : Int) (i : Nat) : Int := x % 65536 ^ i * y
def cy (x y : Int) (i k : Nat) : Int := (pp x y i % 65536 ^ (i + k) + 65536 ^ i * (dg x i * (y % 65536 ^ k))) / 65536 ^ (i + k)
theorem pp_0 (x y : Int) : pp x y 0 = 0 := by unfold pp; simp [Int.emod_one]
theorem dg_zero (j : Nat) : dg 0 j = 0 := by unfold dg; simp
theorem pp_succ (x y : Int) (i : Nat) : pp x y (i + 1) = pp x y i + 65536 ^ i * (dg x i * y) := by
  unfold pp; rw [mod_succ]; grind
theorem b_add (i k : Nat) : (65536 : Int) ^ (i + k) = 65536 ^ i * 65536 ^ k := Int.pow_add _ _ _
theorem cy_0 (x y : Int) (i : Nat) : cy x y i 0 = 0 := by
  have h := b_pos i
  unfold cy
  rw [Nat.add_zero, Int.pow_zero, Int.emod_one, Int.mul_zero, Int.mul_zero, Int.add_zero]
  exact Int.ediv_eq_zero_of_lt (Int.emod_nonneg _ (Int.ne_of_gt h)) (Int.emod_lt_of_pos _ h)
theorem mul_bd (x y : Int) (i k : Nat) : 0 ≤ dg x i * dg y k ∧ dg x i * dg y k ≤ 4294836225 := by
  have h1 := dg_bd x i
  have h2 := dg_bd y k
  refine ⟨Int.mul_nonneg h1.1 h2.1, ?_⟩
  have := Int.mul_le_mul h1.2 h2.2 h2.1 (by omega : (0 : Int) ≤ 65535)
  omega
theorem cy_bd (x y : Int) (i k : Nat) : 0 ≤ cy x y i k ∧ cy x y i k ≤ 65535 := by
  have hi := b_pos i
  have hk := b_pos k
  have h := b_pos (i + k)
  have h1 := Int.emod_nonneg (pp x y i) (Int.ne_of_gt h)
  have h2 := Int.emod_lt_of_pos (pp x y i) h
  have h3 := Int.emod_nonneg y (Int.ne_of_gt hk)
  have h4 := Int.emod_lt_of_pos y hk
  have hd := dg_bd x i
  have h5 : 0 ≤ dg x i * (y % 65536 ^ k) := Int.mul_nonneg hd.1 h3
  have h6 : dg x i * (y % 65536 ^ k) ≤ 65535 * 65536 ^ k := Int.mul_le_mul hd.2 (Int.le_of_lt h4) h3 (by omega)
  have h7 : 0 ≤ 65536 ^ i * (dg x i * (y % 65536 ^ k)) := Int.mul_nonneg (Int.le_of_lt hi) h5
  have h8 : 65536 ^ i * (dg x i * (y % 65536 ^ k)) ≤ 65536 ^ i * (65535 * 65536 ^ k) := Int.mul_le_mul_of_nonneg_left h6 (Int.le_of_lt hi)
  have e : (65536 : Int) ^ i * (65535 * 65536 ^ k) = 65535 * 65536 ^ (i + k) := by rw [b_add]; grind
  unfold cy
  refine ⟨Int.ediv_nonneg (by omega) (Int.le_of_lt h), ?_⟩
  have : (pp x y i % 65536 ^ (i + k) + 65536 ^ i * (dg x i * (y % 65536 ^ k))) / 65536 ^ (i + k) < 65536 := Int.ediv_lt_of_lt_mul h (by omega)
  omega
theorem step_div (x y : Int) (i k : Nat) : (dg (pp x y i) (i + k) + dg x i * dg y k + cy x y i k) / 65536 = cy x y i (k + 1) := by
  have h := b_pos (i + k)
  have e : pp x y i % 65536 ^ (i + (k + 1)) + 65536 ^ i * (dg x i * (y % 65536 ^ (k + 1))) = (pp x y i % 65536 ^ (i + k) + 65536 ^ i * (dg x i * (y % 65536 ^ k))) + 65536 ^ (i + k) * (dg (pp x y i) (i + k) + dg x i * dg y k) := by
    rw [show i + (k + 1) = (i + k) + 1 from rfl, mod_succ (pp x y i) (i + k), mod_succ y k, b_add]; grind
  unfold cy
  rw [e, show i + (k + 1) = (i + k) + 1 from rfl, Int.pow_succ, ← Int.ediv_ediv_of_nonneg (Int.le_of_lt h), Int.add_mul_ediv_left _ _ (Int.ne_of_gt h)]
  congr 1; omega
theorem step_mod (x y : Int) (i k : Nat) : (dg (pp x y i) (i + k) + dg x i * dg y k + cy x y i k) % 65536 = dg (pp x y (i + 1)) (i + k) := by
  have h := b_pos (i + k)
  have e : pp x y (i + 1) = (pp x y i % 65536 ^ (i + k) + 65536 ^ i * (dg x i * (y % 65536 ^ k))) + 65536 ^ (i + k) * (pp x y i / 65536 ^ (i + k) + dg x i * (y / 65536 ^ k)) := by
    have h1 := Int.emod_add_mul_ediv (pp x y i) (65536 ^ (i + k))
    have h2 := Int.emod_add_mul_ediv y (65536 ^ k)
    rw [pp_succ]
    generalize pp x y i % 65536 ^ (i + k) = r at *
    generalize pp x y i / 65536 ^ (i + k) = q at *
    generalize y % 65536 ^ k = s at *
    generalize y / 65536 ^ k = t at *
    rw [← h1, ← h2, b_add]; grind
  have e2 : dg (pp x y (i + 1)) (i + k) = (pp x y i / 65536 ^ (i + k) + dg x i * (y / 65536 ^ k) + cy x y i k) % 65536 := by
    show pp x y (i + 1) / 65536 ^ (i + k) % 65536 = _
    rw [e, Int.add_mul_ediv_left _ _ (Int.ne_of_gt h)]
    congr 1; unfold cy; omega
  rw [e2]
  show (pp x y i / 65536 ^ (i + k) % 65536 + dg x i * (y / 65536 ^ k % 65536) + cy x y i k) % 65536 = _
  generalize pp x y i / 65536 ^ (i + k) = q
  generalize y / 65536 ^ k = t
  generalize dg x i = d
  have h3 : d * (t % 65536) % 65536 = d * t % 65536 := by rw [Int.mul_emod, Int.emod_emod_of_dvd _ (Int.dvd_refl _), ← Int.mul_emod]
  generalize d * (t % 65536) = u at *
  generalize d * t = v at *
  omega
theorem last_dg (x y : Int) (j : Nat) : dg (pp x y (j + 1)) j = dg (x * y) j := by
  have h := b_pos j
  have e : x * y = pp x y (j + 1) + 65536 ^ j * (65536 * (x / 65536 ^ (j + 1) * y)) := by
    have h1 := Int.emod_add_mul_ediv x (65536 ^ (j + 1))
    unfold pp
    generalize x % 65536 ^ (j + 1) = r at *
    generalize x / 65536 ^ (j + 1) = q at *
    rw [← h1, Int.pow_succ]; grind
  unfold dg
  rw [e, Int.add_mul_ediv_left _ _ (Int.ne_of_gt h)]
  omega
end Go.Proofs.Ytlnhfcfdjaecbaa.Wid
