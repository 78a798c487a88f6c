/- The walks of the document's own answers for layer 4, and what the laws of layer 4 say of plain numbers. Printed by wip/gen/hsh.py. -/
import Derived.Test.YtdhljlhecoclfaaHshOne
import Derived.Test.YtdhljlhecoclfaaFldRefInv
namespace Go.Proofs.Ytdhljlhecoclfaa.Hsh
open Go.RowKit Fld Lw
set_option linter.unusedVariables false
/-! ### What is said of numbers -/
theorem zero_of (a t : Int) (ht : fold t ≠ 0) (h : mul a t = 0) : fold a = 0 := by
  have e := mul_back a t ht
  rw [h] at e
  rw [← e, mul_comm, mul_zero _ 0 rfl]
theorem apart_iff (x y : Int) : sub x y = 0 ↔ fold x = fold y := by unfold sub fold; omega
theorem fold_sub (x y : Int) : fold (sub x y) = sub x y := fold_of _ (sub_bd x y).1 (sub_bd x y).2
theorem slope (x u y v : Int) (h : sub x y ≠ 0) : mul (thrA x u y v) (sub x y) = sub u v := by
  unfold thrA
  rw [← mul_assoc, mul_comm (inv (sub x y)), inv_is _ (by rw [fold_sub]; exact h), mul_one, fold_sub]
theorem slope_iff (A x u y v : Int) : mul A (sub x y) = sub u v ↔ (A * x - A * y - (u - v)) % 2305843009213693951 = 0 := by
  unfold mul sub
  rw [mul_mod, Int.mul_sub]
  omega
theorem lin_eq (a b x : Int) : lin a b x = (a * x + b) % 2305843009213693951 := by unfold lin add mul; omega
theorem thrA_bd (x u y v : Int) : 0 ≤ thrA x u y v ∧ thrA x u y v ≤ 2305843009213693950 := mul_bd _ _
theorem thrB_bd (x u y v : Int) : 0 ≤ thrB x u y v ∧ thrB x u y v ≤ 2305843009213693950 := sub_bd _ _
theorem thrB_eq (x u y v : Int) (h : sub x y ≠ 0) : thrB x u y v = sub v (mul (thrA x u y v) y) := by
  have s := (slope_iff _ x u y v).1 (slope x u y v h)
  unfold thrB sub
  rw [lin_eq]
  unfold mul
  omega
theorem meets1 (x u y v : Int) (h : sub x y ≠ 0) : lin (thrA x u y v) (thrB x u y v) x = fold u := by
  rw [lin_eq]
  unfold thrB sub fold
  rw [lin_eq]
  omega
theorem meets2 (x u y v : Int) (h : sub x y ≠ 0) : lin (thrA x u y v) (thrB x u y v) y = fold v := by
  have s := (slope_iff _ x u y v).1 (slope x u y v h)
  rw [lin_eq]
  unfold thrB sub fold
  rw [lin_eq]
  omega
theorem only (x u y v c d : Int) (h : sub x y ≠ 0) : (lin c d x = fold u ∧ lin c d y = fold v) ↔ (fold c = thrA x u y v ∧ fold d = thrB x u y v) := by
  have s := (slope_iff _ x u y v).1 (slope x u y v h)
  have hb := thrA_bd x u y v
  constructor
  · rintro ⟨h1, h2⟩
    have e : (c * x - c * y - (u - v)) % 2305843009213693951 = 0 := by
      rw [lin_eq] at h1 h2
      unfold fold at h1 h2
      omega
    have z : fold (c - thrA x u y v) = 0 := by
      refine zero_of _ (sub x y) (by rw [fold_sub]; exact h) ?_
      unfold mul sub
      rw [mul_mod, Int.mul_sub, Int.sub_mul, Int.sub_mul]
      omega
    have hc : fold c = thrA x u y v := by unfold fold at z ⊢; omega
    have ex : c * x % 2305843009213693951 = thrA x u y v * x % 2305843009213693951 := by
      rw [← hc]
      unfold fold
      rw [mod_mul]
    refine ⟨hc, ?_⟩
    rw [lin_eq] at h1
    unfold thrB sub
    rw [lin_eq]
    unfold fold at h1 ⊢
    omega
  · rintro ⟨hc, hd⟩
    have ex : c * x % 2305843009213693951 = thrA x u y v * x % 2305843009213693951 := by
      rw [← hc]
      unfold fold
      rw [mod_mul]
    have ey : c * y % 2305843009213693951 = thrA x u y v * y % 2305843009213693951 := by
      rw [← hc]
      unfold fold
      rw [mod_mul]
    have m1 := meets1 x u y v h
    have m2 := meets2 x u y v h
    rw [← hd, lin_eq] at m1 m2
    rw [lin_eq, lin_eq]
    unfold fold at m1 m2 ⊢
    omega
theorem flat (a b x y : Int) (h : fold a = 0) : lin a b x = fold b ∧ lin a b y = fold b := by
  unfold lin
  rw [mul_comm a x, mul_comm a y, mul_zero x a h, mul_zero y a h]
  unfold add fold
  omega
theorem steep (a b x y : Int) (h : fold a ≠ 0) : lin a b x = lin a b y ↔ fold x = fold y := by
  constructor
  · intro e
    rw [← apart_iff, ← fold_sub]
    refine zero_of _ a h ?_
    rw [lin_eq, lin_eq] at e
    unfold mul sub
    rw [mod_mul, Int.sub_mul, Int.mul_comm x, Int.mul_comm y]
    omega
  · intro e
    unfold lin
    rw [← mul_fold a x, ← mul_fold a y, e]
theorem steps1 (a b x : Int) : lin a b (add x 1) = add (lin a b x) a := by
  rw [lin_eq, lin_eq]
  unfold add
  have e : a * ((x + 1) % 2305843009213693951) % 2305843009213693951 = (a * x + a) % 2305843009213693951 := by rw [mul_mod, Int.mul_add, Int.mul_one]
  omega
theorem steps2 (a b : Int) : lin a b 0 = fold b := by rw [lin_eq, Int.mul_zero, Int.zero_add]; rfl
theorem steps3 (a b x : Int) : sub (lin a b x) b = mul a x := by rw [lin_eq]; unfold sub mul; omega
theorem buck_in (a b x n : Int) (h : 1 ≤ n) : 0 ≤ buck a b x n ∧ buck a b x n < n := by
  unfold buck
  rw [if_neg (by omega)]
  exact ⟨Int.emod_nonneg _ (by omega), Int.emod_lt_of_pos _ (by omega)⟩
end Go.Proofs.Ytdhljlhecoclfaa.Hsh
