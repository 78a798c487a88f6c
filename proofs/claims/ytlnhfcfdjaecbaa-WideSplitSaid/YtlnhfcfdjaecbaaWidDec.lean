/- The decimal digits of a number, the lowest first, as bytes. -/
import Derived.Test.YtlnhfcfdjaecbaaWidMath
namespace Go.Proofs.Ytlnhfcfdjaecbaa.Wid
open Go.RowKit
def ds (m : Nat) : List UInt8 := if h : m = 0 then [] else UInt8.ofNat (48 + m % 10) :: ds (m / 10)
termination_by m
decreasing_by omega
theorem ds_zero : ds 0 = [] := by rw [ds]; simp
theorem ds_step (m : Nat) (h : m ≠ 0) : ds m = UInt8.ofNat (48 + m % 10) :: ds (m / 10) := by
  rw [ds]; simp [h]
/-- The text of a number. -/
def tx (z : Int) : List UInt8 := (if z < 0 then [45] else []) ++ (if z = 0 then [48] else (ds z.natAbs).reverse)
theorem ds_len (k : Nat) : ∀ m : Nat, m < 10 ^ k → (ds m).length ≤ k := by
  induction k with
  | zero => intro m h; have : m = 0 := by simpa using h
            subst this; rw [ds_zero]; simp
  | succ k ih =>
    intro m h
    by_cases h0 : m = 0
    · subst h0; rw [ds_zero]; simp
    · rw [ds_step m h0]
      have := ih (m / 10) (by rw [Nat.pow_succ] at h; omega)
      simp; omega
theorem ds_len128 (m : Nat) (h : m < 340282366920938463463374607431768211456) : (ds m).length ≤ 39 := ds_len 39 m (by
  have : (10 : Nat) ^ 39 = 1000000000000000000000000000000000000000 := by decide
  omega)
theorem ds_ne (m : Nat) (h : m ≠ 0) : ds m ≠ [] := by rw [ds_step m h]; simp
end Go.Proofs.Ytlnhfcfdjaecbaa.Wid
