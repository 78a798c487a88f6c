/- Bit by bit: what the document's own answers of layer 3 do, told of numbers of sixty-four bits. No dump is imported. -/
import Derived.Test.YtdhljlhecoclfaaSedMath
import Derived.Test.YtdhljlhecoclfaaFldMath
namespace Go.Proofs.Ytdhljlhecoclfaa.Sed
open Go Go.RowKit Fld

theorem bv_wrap (x : Int) : bv (IntKind.u64.wrap x) = bv x := by rw [wrap_bv, bv_val]
theorem wrap_bd (x : Int) : 0 ≤ IntKind.u64.wrap x ∧ IntKind.u64.wrap x ≤ 18446744073709551615 := u64_bd x

/-! ### Products by doubling -/
theorem times_odd (o x y T : Int) (hy : y % 2 = 1) (h : bv (o + x * y) = bv T) : bv (IntKind.u64.wrap (o + x) + IntKind.u64.wrap (x + x) * (y / 2)) = bv T := by
  rw [bv_add, bv_wrap, bv_mul, bv_wrap, ← bv_mul, ← bv_add, ← h]
  congr 1
  have e : y = 2 * (y / 2) + 1 := by omega
  generalize y / 2 = q at e ⊢
  subst e
  rw [Int.mul_add, Int.add_mul, Int.mul_left_comm]
  omega
theorem times_even (o x y T : Int) (hy : y % 2 = 0) (h : bv (o + x * y) = bv T) : bv (o + IntKind.u64.wrap (x + x) * (y / 2)) = bv T := by
  rw [bv_add, bv_mul, bv_wrap, ← bv_mul, ← bv_add, ← h]
  congr 1
  have e : y = 2 * (y / 2) := by omega
  generalize y / 2 = q at e ⊢
  subst e
  rw [Int.add_mul, Int.mul_left_comm]
  omega
theorem times_end (o x T : Int) (h0 : 0 ≤ o) (h1 : o ≤ 18446744073709551615) (h : bv (o + x * 0) = bv T) : o = IntKind.u64.wrap T := by
  rw [Int.mul_zero, Int.add_zero] at h
  rw [wrap_bv, ← h, val_bv o h0 h1]

/-! ### Bits -/
def bt (b : BitVec 64) (i : Nat) : Int := if b.getLsbD i then 1 else 0
def lw (b : BitVec 64) (i : Nat) : Int := val b % 2 ^ i
def hg (b : BitVec 64) (i : Nat) : Int := val b / 2 ^ i * 2 ^ i
theorem bt_cases (b : BitVec 64) (i : Nat) : bt b i = 0 ∨ bt b i = 1 := by unfold bt; split <;> simp
theorem bt_val (b : BitVec 64) (i : Nat) : val b / 2 ^ i % 2 = bt b i := by
  unfold val bt
  rw [show b.getLsbD i = b.toNat.testBit i from rfl, Nat.testBit_eq_decide_div_mod_eq]
  have e : (b.toNat : Int) / 2 ^ i % 2 = ((b.toNat / 2 ^ i % 2 : Nat) : Int) := by simp
  rw [e]
  have : b.toNat / 2 ^ i % 2 < 2 := Nat.mod_lt _ (by omega)
  by_cases h : b.toNat / 2 ^ i % 2 = 1
  · simp [h]
  · simp [h]; omega
theorem div_bd (b : BitVec 64) (i : Nat) : 0 ≤ val b / 2 ^ i ∧ val b / 2 ^ i ≤ 18446744073709551615 := by
  rw [val_shr]
  exact val_bd _
theorem and_bt (b : BitVec 64) (i : Nat) : bits .and .u64 (val b / 2 ^ i) 1 = bt b i := by
  rw [and1 _ (div_bd b i).1 (div_bd b i).2, bt_val]
theorem bt_shr (b : BitVec 64) (i k : Nat) : bt (b >>> k) i = bt b (i + k) := by
  unfold bt
  rw [BitVec.getLsbD_ushiftRight, Nat.add_comm]
theorem xor_bt (a b : BitVec 64) (i j : Nat) : bits .xor .u64 (bt a i) (bt b j) = bt (a >>> i ^^^ b >>> j) 0 := by
  have e : bt (a >>> i ^^^ b >>> j) 0 = if a.getLsbD i ^^ b.getLsbD j then 1 else 0 := by
    unfold bt
    rw [BitVec.getLsbD_xor, BitVec.getLsbD_ushiftRight, BitVec.getLsbD_ushiftRight, Nat.add_zero, Nat.add_zero]
  rw [e]
  unfold bt
  cases a.getLsbD i <;> cases b.getLsbD j <;> decide
theorem sh_bt (k : Nat) (b : BitVec 64) (i : Nat) : bt (b >>> i ^^^ b >>> (i + k)) 0 = bt (sh k b) i := by
  unfold bt sh
  rw [BitVec.getLsbD_xor, BitVec.getLsbD_xor, BitVec.getLsbD_ushiftRight, BitVec.getLsbD_ushiftRight, BitVec.getLsbD_ushiftRight, Nat.add_zero, Nat.add_zero, Nat.add_comm i k]
theorem sh_top (k : Nat) (b : BitVec 64) (i : Nat) (h : 64 ≤ i + k) : bt b i = bt (sh k b) i := by
  unfold bt sh
  rw [BitVec.getLsbD_xor, BitVec.getLsbD_ushiftRight, BitVec.getLsbD_of_ge b (k + i) (by omega), Bool.xor_false]
theorem unsh_bt (k : Nat) (b : BitVec 64) (i : Nat) : bt (sh k b >>> i ^^^ b >>> (i + k)) 0 = bt b i := by
  unfold bt sh
  rw [BitVec.getLsbD_xor, BitVec.getLsbD_ushiftRight, BitVec.getLsbD_ushiftRight, BitVec.getLsbD_xor, BitVec.getLsbD_ushiftRight, Nat.add_zero, Nat.add_zero, Nat.add_comm i k, Bool.xor_assoc, Bool.xor_self, Bool.xor_false]

theorem pow_le (i : Nat) (h : i < 64) : (0 : Int) < 2 ^ i ∧ (2 : Int) ^ i ≤ 9223372036854775808 := by
  have h1 : (2 : Nat) ^ i ≤ 2 ^ 63 := Nat.pow_le_pow_right (by omega) (by omega)
  have h0 : (0 : Nat) < 2 ^ i := Nat.pow_pos (by omega)
  have e : ((2 : Int) ^ i) = ((2 ^ i : Nat) : Int) := by simp
  rw [e]
  have e2 : (2 : Nat) ^ 63 = 9223372036854775808 := by decide
  omega
theorem bt_pow (b : BitVec 64) (i : Nat) (h : i < 64) : IntKind.u64.wrap (bt b i * 2 ^ i) = bt b i * 2 ^ i := by
  have := pow_le i h
  apply IntWalk.u64_in
  rcases bt_cases b i with e | e <;> rw [e] <;> omega
theorem lw_bd (b : BitVec 64) (i : Nat) : 0 ≤ lw b i ∧ lw b i ≤ 18446744073709551615 := by
  have hb := val_bd b
  unfold lw
  have h0 : (0 : Int) < 2 ^ i := Int.pow_pos (by omega)
  have h1 := Int.emod_nonneg (val b) (by omega : (2 : Int) ^ i ≠ 0)
  have h2 : val b % 2 ^ i ≤ val b := by
    have := Int.mul_ediv_add_emod (val b) (2 ^ i)
    have h3 : 0 ≤ val b / 2 ^ i := Int.ediv_nonneg hb.1 (by omega)
    have h4 : 0 ≤ 2 ^ i * (val b / 2 ^ i) := Int.mul_nonneg (by omega) h3
    omega
  omega
theorem lw_zero (b : BitVec 64) : lw b 0 = 0 := by unfold lw; simp
theorem lw_all (b : BitVec 64) : lw b 64 = val b := by
  have hb := val_bd b
  unfold lw
  rw [show (2 : Int) ^ 64 = 18446744073709551616 from by decide]
  omega
theorem lw_succ (b : BitVec 64) (i : Nat) : lw b (i + 1) = lw b i + bt b i * 2 ^ i := by
  rw [← bt_val]
  unfold lw val
  have e := Nat.mod_pow_succ (b := 2) (k := i) (x := b.toNat)
  have e2 : ((b.toNat : Int) % 2 ^ (i + 1)) = ((b.toNat % 2 ^ (i + 1) : Nat) : Int) := by simp
  rw [e2, e]
  simp only [Int.natCast_add, Int.natCast_mul, Int.natCast_emod, Int.natCast_ediv, Int.natCast_pow]
  rw [Int.mul_comm]
  rfl
theorem or_lw (b : BitVec 64) (i : Nat) (h : i < 64) : bits .or .u64 (lw b i) (IntKind.u64.wrap (bt b i * 2 ^ i)) = lw b (i + 1) := by
  rw [bt_pow b i h, lw_succ]
  have hl := lw_bd b i
  have hp := pow_le i h
  rcases bt_cases b i with e | e
  · rw [e, Int.zero_mul, u64_or _ 0 hl.1 (by omega) (by omega) (by omega)]
    simp
    omega
  · rw [e, Int.one_mul, u64_or _ _ hl.1 (by omega) (by omega) (by omega), Nat.or_comm]
    have ep : ((2 : Int) ^ i).toNat = 2 ^ i := by
      have : ((2 : Int) ^ i) = ((2 ^ i : Nat) : Int) := by simp
      rw [this]; rfl
    rw [nat_join i, ep]
    · have : ((2 ^ i : Nat) : Int) = 2 ^ i := by simp
      omega
    · rw [ep]; simp
    · have : lw b i < 2 ^ i := by
        unfold lw
        exact Int.emod_lt_of_pos _ hp.1
      have e3 : ((2 : Int) ^ i) = ((2 ^ i : Nat) : Int) := by simp
      omega
theorem hg_zero (b : BitVec 64) : hg b 0 = val b := by unfold hg; simp
theorem hg_all (b : BitVec 64) : hg b 64 = 0 := by
  have hb := val_bd b
  unfold hg
  rw [show (2 : Int) ^ 64 = 18446744073709551616 from by decide]
  omega
theorem hg_lw (b : BitVec 64) (i : Nat) : hg b i + lw b i = val b := by
  unfold hg lw
  have := Int.mul_ediv_add_emod (val b) (2 ^ i)
  rw [Int.mul_comm] at this
  omega
theorem hg_succ (b : BitVec 64) (i : Nat) : hg b i = hg b (i + 1) + bt b i * 2 ^ i := by
  have h1 := hg_lw b i
  have h2 := hg_lw b (i + 1)
  have h3 := lw_succ b i
  omega
theorem hg_bd (b : BitVec 64) (i : Nat) : 0 ≤ hg b i ∧ hg b i ≤ 18446744073709551615 := by
  have h1 := hg_lw b i
  have h2 := lw_bd b i
  have h3 := val_bd b
  have h0 : (0 : Int) < 2 ^ i := Int.pow_pos (by omega)
  have h4 : 0 ≤ hg b i := by
    unfold hg
    exact Int.mul_nonneg (Int.ediv_nonneg h3.1 (by omega)) (by omega)
  omega
theorem hg_div (b : BitVec 64) (i m : Nat) (h : i ≤ m) : hg b i / 2 ^ m = val b / 2 ^ m := by
  have h0 : (0 : Int) < 2 ^ i := Int.pow_pos (by omega)
  unfold hg
  obtain ⟨j, rfl⟩ := Nat.exists_eq_add_of_le h
  rw [Int.pow_add, ← Int.ediv_ediv_of_nonneg (by omega), ← Int.ediv_ediv_of_nonneg (by omega), Int.mul_ediv_cancel _ (by omega)]
theorem and_hg (b : BitVec 64) (i m : Nat) (h : i ≤ m) : bits .and .u64 (hg b i / 2 ^ m) 1 = bt b m := by
  rw [hg_div b i m h, and_bt]
theorem or_hg (b : BitVec 64) (i : Nat) (h : i < 64) : bits .or .u64 (hg b (i + 1)) (IntKind.u64.wrap (bt b i * 2 ^ i)) = hg b i := by
  rw [bt_pow b i h, hg_succ b i]
  have hl := hg_bd b (i + 1)
  have hp := pow_le i h
  rcases bt_cases b i with e | e
  · rw [e, Int.zero_mul, u64_or _ 0 hl.1 (by omega) (by omega) (by omega)]
    simp
    omega
  · rw [e, Int.one_mul, u64_or _ _ hl.1 (by omega) (by omega) (by omega)]
    have ep : ((2 : Int) ^ i).toNat = 2 ^ i := by
      have : ((2 : Int) ^ i) = ((2 ^ i : Nat) : Int) := by simp
      rw [this]; rfl
    have eh : (hg b (i + 1)).toNat = b.toNat / 2 ^ (i + 1) * 2 ^ (i + 1) := by
      have : hg b (i + 1) = ((b.toNat / 2 ^ (i + 1) * 2 ^ (i + 1) : Nat) : Int) := by unfold hg val; simp
      rw [this]; rfl
    rw [nat_join (i + 1), ep]
    · have : ((2 ^ i : Nat) : Int) = 2 ^ i := by simp
      omega
    · rw [eh]; simp
    · rw [ep]; exact Nat.pow_lt_pow_right (by omega) (by omega)

/-! ### Division by an odd number -/
theorem bt_bv (x i : Nat) (h : i < 64) : bt (bv (x : Int)) i = ((x / 2 ^ i % 2 : Nat) : Int) := by
  unfold bt bv
  rw [BitVec.ofInt_natCast, BitVec.getLsbD_ofNat, Nat.testBit_eq_decide_div_mod_eq]
  have : x / 2 ^ i % 2 < 2 := Nat.mod_lt _ (by omega)
  by_cases h1 : x / 2 ^ i % 2 = 1
  · simp [h, h1]
  · have h2 : x / 2 ^ i % 2 = 0 := by omega
    simp [h2]
theorem hg_bit (D : BitVec 64) (i : Nat) (h : i < 64) (c : Nat) (hc : c % 2 = 1) : bt (bv (hg D i * (c : Int))) i = bt D i := by
  have e : hg D i * (c : Int) = ((D.toNat / 2 ^ i * 2 ^ i * c : Nat) : Int) := by unfold hg val; simp
  rw [e, bt_bv _ i h, Nat.mul_assoc, Nat.mul_left_comm, Nat.mul_div_cancel_left _ (Nat.pow_pos (by omega)), Nat.mul_mod, hc, Nat.mul_one, Nat.mod_mod, ← bt_val]
  unfold val
  simp
theorem and_rest (D : BitVec 64) (i : Nat) (h : i < 64) (c : Nat) (hc : c % 2 = 1) : bits .and .u64 (IntKind.u64.wrap (hg D i * (c : Int)) / 2 ^ i) 1 = bt D i := by
  rw [wrap_bv, and_bt, hg_bit D i h c hc]
theorem rest_one (D : BitVec 64) (i : Nat) (c : Int) (h : bt D i = 1) : IntKind.u64.wrap (IntKind.u64.wrap (hg D i * c) - IntKind.u64.wrap (c * 2 ^ i)) = IntKind.u64.wrap (hg D (i + 1) * c) := by
  have e : hg D (i + 1) * c = hg D i * c - c * 2 ^ i := by
    have := hg_succ D i
    rw [h, Int.one_mul] at this
    rw [this, Int.add_mul, Int.mul_comm c]
    omega
  rw [e]
  generalize hg D i * c = A
  generalize c * 2 ^ i = B
  simp only [IntKind.wrap_u64]
  omega
theorem rest_zero (D : BitVec 64) (i : Nat) (h : bt D i = 0) : hg D i = hg D (i + 1) := by
  have := hg_succ D i
  rw [h, Int.zero_mul] at this
  omega
theorem low_zero (D : BitVec 64) (i : Nat) (h : bt D i = 0) : lw D i = lw D (i + 1) := by
  have := lw_succ D i
  rw [h, Int.zero_mul] at this
  omega
theorem low_one (D : BitVec 64) (i : Nat) (hi : i < 64) (h : bt D i = 1) : bits .or .u64 (lw D i) (IntKind.u64.wrap (2 ^ i)) = lw D (i + 1) := by
  have e := or_lw D i hi
  rw [h, Int.one_mul] at e
  exact e
theorem rest_start (z : BitVec 64) (c d : BitVec 64) (h : d * c = 1#64) : IntKind.u64.wrap (hg (z * d) 0 * val c) = val z := by
  rw [hg_zero, wrap_mul, BitVec.mul_assoc, h, BitVec.mul_one]
end Go.Proofs.Ytdhljlhecoclfaa.Sed
