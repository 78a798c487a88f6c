/- Plain lemmas for WideSplit: parts of a list, a list turned round, products of sums. Printed by wip/gen/wid10.py. -/
import Derived.Test.YtlnhfcfdjaecbaaWidCut
namespace Go.Proofs.Ytlnhfcfdjaecbaa.Wid
open Go.RowKit Lw
set_option linter.unusedVariables false
theorem and16i (n : Int) : bits .and .i64 n 65535 = n % 65536 := by
  rw [and_i64]
  have h2 : (BitVec.ofInt 64 n &&& BitVec.ofInt 64 65535).toNat = n.toNat % 65536 ∨ True := Or.inr trivial
  have e : (BitVec.ofInt 64 n &&& BitVec.ofInt 64 65535).toNat = (n % 18446744073709551616).toNat % 65536 := by
    rw [BitVec.toNat_and, BitVec.toNat_ofInt, BitVec.toNat_ofInt]
    have h := Nat.and_two_pow_sub_one_eq_mod (n % 18446744073709551616).toNat 16
    have e65 : ((65535 : Int) % ((2 ^ 64 : Nat) : Int)).toNat = 2 ^ 16 - 1 := by decide
    rw [e65, show ((2 ^ 64 : Nat) : Int) = 18446744073709551616 from by decide, h]
  rw [BitVec.toInt_eq_toNat_cond, e]
  split <;> omega
theorem sum_rev (l : List Int) : l.reverse.sum = l.sum := by
  induction l with
  | nil => rfl
  | cons a l ih => rw [List.reverse_cons, sum_snoc, ih, List.sum_cons]; omega
theorem sum_two (l m : List Int) : (l ++ m).sum = l.sum + m.sum := by
  induction l with
  | nil => simp
  | cons a l ih => rw [List.cons_append, List.sum_cons, List.sum_cons, ih]; omega
theorem sum_cut (l : List Int) (k : Nat) : (l.take k).sum + (l.drop k).sum = l.sum := by
  rw [← sum_two, List.take_append_drop]
theorem in64_drop {zs : List Int} (h : In64 zs) (m : Nat) : In64 (zs.drop m) := fun v hv => h v (List.mem_of_mem_drop hv)
theorem in64_rev {zs : List Int} (h : In64 zs) : In64 zs.reverse := fun v hv => h v (by simpa using hv)
theorem add_add' (a : Addr) (i j : Nat) : (a.add i).add j = a.add (i + j) := by
  unfold Addr.add
  by_cases hi : i = 0 <;> by_cases hj : j = 0 <;> simp [hi, hj, Nat.add_assoc]
theorem RdI.take {w : World} {A : Option Addr} {zs : List Int} (h : RdI w A zs) (k : Nat) : RdI w A (zs.take k) := by
  intro j v hv
  rw [List.getElem?_take] at hv
  split at hv
  · exact h j v hv
  · cases hv
theorem RdI.drop {w : World} {A : Option Addr} {zs : List Int} (h : RdI w A zs) (k cap : Nat) (hc : zs.length ≤ cap) (hk : k ≤ zs.length) : RdI w (if cap = k then A else A.map (·.add k)) (zs.drop k) := by
  intro j v hv
  rw [List.getElem?_drop] at hv
  obtain ⟨ad, rfl, hcell⟩ := h (k + j) v hv
  have hlt : k + j < zs.length := by
    rcases Nat.lt_or_ge (k + j) zs.length with h1 | h1
    · exact h1
    · rw [List.getElem?_eq_none h1] at hv; cases hv
  rw [if_neg (by omega)]
  exact ⟨ad.add k, rfl, by rw [add_add']; exact hcell⟩
theorem three (P Q : Int) (h1 : fit64 P = true) (h2 : fit64 Q = true) : f64 P + f64 Q = P + Q := by
  unfold f64; rw [if_pos h1, if_pos h2]
theorem prod_i32 (a b : Int) (a0 : -2147483648 ≤ a) (a1 : a ≤ 2147483647) (b0 : -2147483648 ≤ b) (b1 : b ≤ 2147483647) : -4611686018427387904 ≤ a * b ∧ a * b ≤ 4611686018427387904 := by
  have h1 : a.natAbs * b.natAbs ≤ 2147483648 * 2147483648 := Nat.mul_le_mul (by omega) (by omega)
  have h2 := Int.natAbs_mul a b
  omega
theorem prod_small (a b c : Int) (a0 : -2147483648 ≤ a) (a1 : a ≤ 2147483647) (b0 : -2147483648 ≤ b) (b1 : b ≤ 2147483647) (c0 : -2147483648 ≤ c) (c1 : c ≤ 2147483647) :
    vl (fh (a * b)) (fl (a * b)) + vl (fh (a * c)) (fl (a * c)) = a * (b + c) ∧ fit (a * (b + c)) = true := by
  have h1 := prod_i32 a b a0 a1 b0 b1
  have h2 := prod_i32 a c a0 a1 c0 c1
  have e : a * (b + c) = a * b + a * c := Int.mul_add a b c
  rw [vl_fit _ (by omega) (by omega), vl_fit _ (by omega) (by omega), e]
  exact ⟨rfl, (fit_yes (by omega) (by omega)).1⟩
end Go.Proofs.Ytlnhfcfdjaecbaa.Wid
