/- Signed numbers of sixty-four bits, masked. No stage's own. -/
import Derived.Test.YtdhljlhecoclfaaRows
import Derived.WalkKit
namespace Go.Proofs.Ytdhljlhecoclfaa.Lw
open Go Go.RowKit
theorem wrap_bv (x : BitVec 64) : IntKind.i64.wrap (x.toNat : Int) = x.toInt := by
  have h := x.isLt
  rw [IntKind.wrap_i64, BitVec.toInt_eq_toNat_cond]
  split <;> omega
theorem bv_of (a : Int) (h0 : -9223372036854775808 ≤ a) (h1 : a ≤ 9223372036854775807) : (BitVec.ofInt 64 a).toInt = a := by
  rw [BitVec.toInt_ofInt]; simp [Int.bmod]; omega
theorem and_i64 (a b : Int) : bits .and .i64 a b = (BitVec.ofInt 64 a &&& BitVec.ofInt 64 b).toInt := wrap_bv _
theorem and16i (n : Int) : bits .and .i64 n 65535 = n % 65536 := by
  rw [and_i64]
  have h2 : (BitVec.ofInt 64 n &&& BitVec.ofInt 64 65535).toNat = n.toNat % 65536 ∨ True := Or.inr trivial
  have e : (BitVec.ofInt 64 n &&& BitVec.ofInt 64 65535).toNat = (n % 18446744073709551616).toNat % 65536 := by
    rw [BitVec.toNat_and, BitVec.toNat_ofInt, BitVec.toNat_ofInt]
    have h := Nat.and_two_pow_sub_one_eq_mod (n % 18446744073709551616).toNat 16
    have e65 : ((65535 : Int) % ((2 ^ 64 : Nat) : Int)).toNat = 2 ^ 16 - 1 := by decide
    rw [e65, show ((2 ^ 64 : Nat) : Int) = 18446744073709551616 from by decide, h]
  rw [BitVec.toInt_eq_toNat_cond, e]
  split <;> omega
end Go.Proofs.Ytdhljlhecoclfaa.Lw
