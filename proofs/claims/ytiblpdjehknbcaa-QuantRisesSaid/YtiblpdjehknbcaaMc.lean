/- Texts that the statements of this seat lean on, put together: SedBits, SedOne, SedRef, HshOne, HshRef, GrdRef, GrdDef, GrdNew, GrdCode, GrdJoin, GrdDoc, GrdPair, Rows2, ShpDef. -/
import Derived.Test.YtiblpdjehknbcaaMa
import Derived.Test.YtiblpdjehknbcaaMb
import Derived.Deep.RegionHeld3
import Derived.WalkSpells
import Derived.Test.YtiblpdjehknbcaaRows
import Derived.Deep.LoopGhost
import Derived.Deep.QuietTactic
import Derived.BigQuiet
import Derived.Laws.Cover3
import Derived.WalkMore
import Derived.Laws.OwnMore
import Derived.Deep.DeepCutAuto
/- Bit by bit: what the document's own answers of layer 3 do, told of numbers of sixty-four bits. No dump is imported. -/
namespace Go.Proofs.Ytiblpdjehknbcaa.Sed
open Go Go.RowKit Fld

theorem bv_wrap (x : Int) : bv (IntKind.u64.wrap x) = bv x := by rw [wrap_bv, bv_val]
theorem wrap_bd (x : Int) : 0 ≤ IntKind.u64.wrap x ∧ IntKind.u64.wrap x ≤ 18446744073709551615 := u64_bd x

/-! ### Products by doubling -/
theorem times_odd (o x y T : Int) (hy : y % 2 = 1) (h : bv (o + x * y) = bv T) : bv (IntKind.u64.wrap (o + x) + IntKind.u64.wrap (x + x) * (y / 2)) = bv T := by
  rw [bv_add, bv_wrap, bv_mul, bv_wrap, ← bv_mul, ← bv_add, ← h]
  congr 1
  have e : y = 2 * (y / 2) + 1 := by omega
  generalize y / 2 = q at e ⊢
  subst e
  rw [Int.mul_add, Int.add_mul, Int.mul_left_comm]
  omega
theorem times_even (o x y T : Int) (hy : y % 2 = 0) (h : bv (o + x * y) = bv T) : bv (o + IntKind.u64.wrap (x + x) * (y / 2)) = bv T := by
  rw [bv_add, bv_mul, bv_wrap, ← bv_mul, ← bv_add, ← h]
  congr 1
  have e : y = 2 * (y / 2) := by omega
  generalize y / 2 = q at e ⊢
  subst e
  rw [Int.add_mul, Int.mul_left_comm]
  omega
theorem times_end (o x T : Int) (h0 : 0 ≤ o) (h1 : o ≤ 18446744073709551615) (h : bv (o + x * 0) = bv T) : o = IntKind.u64.wrap T := by
  rw [Int.mul_zero, Int.add_zero] at h
  rw [wrap_bv, ← h, val_bv o h0 h1]

/-! ### Bits -/
def bt (b : BitVec 64) (i : Nat) : Int := if b.getLsbD i then 1 else 0
def lw (b : BitVec 64) (i : Nat) : Int := val b % 2 ^ i
def hg (b : BitVec 64) (i : Nat) : Int := val b / 2 ^ i * 2 ^ i
theorem bt_cases (b : BitVec 64) (i : Nat) : bt b i = 0 ∨ bt b i = 1 := by unfold bt; split <;> simp
theorem bt_val (b : BitVec 64) (i : Nat) : val b / 2 ^ i % 2 = bt b i := by
  unfold val bt
  rw [show b.getLsbD i = b.toNat.testBit i from rfl, Nat.testBit_eq_decide_div_mod_eq]
  have e : (b.toNat : Int) / 2 ^ i % 2 = ((b.toNat / 2 ^ i % 2 : Nat) : Int) := by simp
  rw [e]
  have : b.toNat / 2 ^ i % 2 < 2 := Nat.mod_lt _ (by omega)
  by_cases h : b.toNat / 2 ^ i % 2 = 1
  · simp [h]
  · simp [h]; omega
theorem div_bd (b : BitVec 64) (i : Nat) : 0 ≤ val b / 2 ^ i ∧ val b / 2 ^ i ≤ 18446744073709551615 := by
  rw [val_shr]
  exact val_bd _
theorem and_bt (b : BitVec 64) (i : Nat) : bits .and .u64 (val b / 2 ^ i) 1 = bt b i := by
  rw [and1 _ (div_bd b i).1 (div_bd b i).2, bt_val]
theorem bt_shr (b : BitVec 64) (i k : Nat) : bt (b >>> k) i = bt b (i + k) := by
  unfold bt
  rw [BitVec.getLsbD_ushiftRight, Nat.add_comm]
theorem xor_bt (a b : BitVec 64) (i j : Nat) : bits .xor .u64 (bt a i) (bt b j) = bt (a >>> i ^^^ b >>> j) 0 := by
  have e : bt (a >>> i ^^^ b >>> j) 0 = if a.getLsbD i ^^ b.getLsbD j then 1 else 0 := by
    unfold bt
    rw [BitVec.getLsbD_xor, BitVec.getLsbD_ushiftRight, BitVec.getLsbD_ushiftRight, Nat.add_zero, Nat.add_zero]
  rw [e]
  unfold bt
  cases a.getLsbD i <;> cases b.getLsbD j <;> decide
theorem sh_bt (k : Nat) (b : BitVec 64) (i : Nat) : bt (b >>> i ^^^ b >>> (i + k)) 0 = bt (sh k b) i := by
  unfold bt sh
  rw [BitVec.getLsbD_xor, BitVec.getLsbD_xor, BitVec.getLsbD_ushiftRight, BitVec.getLsbD_ushiftRight, BitVec.getLsbD_ushiftRight, Nat.add_zero, Nat.add_zero, Nat.add_comm i k]
theorem sh_top (k : Nat) (b : BitVec 64) (i : Nat) (h : 64 ≤ i + k) : bt b i = bt (sh k b) i := by
  unfold bt sh
  rw [BitVec.getLsbD_xor, BitVec.getLsbD_ushiftRight, BitVec.getLsbD_of_ge b (k + i) (by omega), Bool.xor_false]
theorem unsh_bt (k : Nat) (b : BitVec 64) (i : Nat) : bt (sh k b >>> i ^^^ b >>> (i + k)) 0 = bt b i := by
  unfold bt sh
  rw [BitVec.getLsbD_xor, BitVec.getLsbD_ushiftRight, BitVec.getLsbD_ushiftRight, BitVec.getLsbD_xor, BitVec.getLsbD_ushiftRight, Nat.add_zero, Nat.add_zero, Nat.add_comm i k, Bool.xor_assoc, Bool.xor_self, Bool.xor_false]

theorem pow_le (i : Nat) (h : i < 64) : (0 : Int) < 2 ^ i ∧ (2 : Int) ^ i ≤ 9223372036854775808 := by
  have h1 : (2 : Nat) ^ i ≤ 2 ^ 63 := Nat.pow_le_pow_right (by omega) (by omega)
  have h0 : (0 : Nat) < 2 ^ i := Nat.pow_pos (by omega)
  have e : ((2 : Int) ^ i) = ((2 ^ i : Nat) : Int) := by simp
  rw [e]
  have e2 : (2 : Nat) ^ 63 = 9223372036854775808 := by decide
  omega
theorem bt_pow (b : BitVec 64) (i : Nat) (h : i < 64) : IntKind.u64.wrap (bt b i * 2 ^ i) = bt b i * 2 ^ i := by
  have := pow_le i h
  apply IntWalk.u64_in
  rcases bt_cases b i with e | e <;> rw [e] <;> omega
theorem lw_bd (b : BitVec 64) (i : Nat) : 0 ≤ lw b i ∧ lw b i ≤ 18446744073709551615 := by
  have hb := val_bd b
  unfold lw
  have h0 : (0 : Int) < 2 ^ i := Int.pow_pos (by omega)
  have h1 := Int.emod_nonneg (val b) (by omega : (2 : Int) ^ i ≠ 0)
  have h2 : val b % 2 ^ i ≤ val b := by
    have := Int.mul_ediv_add_emod (val b) (2 ^ i)
    have h3 : 0 ≤ val b / 2 ^ i := Int.ediv_nonneg hb.1 (by omega)
    have h4 : 0 ≤ 2 ^ i * (val b / 2 ^ i) := Int.mul_nonneg (by omega) h3
    omega
  omega
theorem lw_zero (b : BitVec 64) : lw b 0 = 0 := by unfold lw; simp
theorem lw_all (b : BitVec 64) : lw b 64 = val b := by
  have hb := val_bd b
  unfold lw
  rw [show (2 : Int) ^ 64 = 18446744073709551616 from by decide]
  omega
theorem lw_succ (b : BitVec 64) (i : Nat) : lw b (i + 1) = lw b i + bt b i * 2 ^ i := by
  rw [← bt_val]
  unfold lw val
  have e := Nat.mod_pow_succ (b := 2) (k := i) (x := b.toNat)
  have e2 : ((b.toNat : Int) % 2 ^ (i + 1)) = ((b.toNat % 2 ^ (i + 1) : Nat) : Int) := by simp
  rw [e2, e]
  simp only [Int.natCast_add, Int.natCast_mul, Int.natCast_emod, Int.natCast_ediv, Int.natCast_pow]
  rw [Int.mul_comm]
  rfl
theorem or_lw (b : BitVec 64) (i : Nat) (h : i < 64) : bits .or .u64 (lw b i) (IntKind.u64.wrap (bt b i * 2 ^ i)) = lw b (i + 1) := by
  rw [bt_pow b i h, lw_succ]
  have hl := lw_bd b i
  have hp := pow_le i h
  rcases bt_cases b i with e | e
  · rw [e, Int.zero_mul, u64_or _ 0 hl.1 (by omega) (by omega) (by omega)]
    simp
    omega
  · rw [e, Int.one_mul, u64_or _ _ hl.1 (by omega) (by omega) (by omega), Nat.or_comm]
    have ep : ((2 : Int) ^ i).toNat = 2 ^ i := by
      have : ((2 : Int) ^ i) = ((2 ^ i : Nat) : Int) := by simp
      rw [this]; rfl
    rw [nat_join i, ep]
    · have : ((2 ^ i : Nat) : Int) = 2 ^ i := by simp
      omega
    · rw [ep]; simp
    · have : lw b i < 2 ^ i := by
        unfold lw
        exact Int.emod_lt_of_pos _ hp.1
      have e3 : ((2 : Int) ^ i) = ((2 ^ i : Nat) : Int) := by simp
      omega
theorem hg_zero (b : BitVec 64) : hg b 0 = val b := by unfold hg; simp
theorem hg_all (b : BitVec 64) : hg b 64 = 0 := by
  have hb := val_bd b
  unfold hg
  rw [show (2 : Int) ^ 64 = 18446744073709551616 from by decide]
  omega
theorem hg_lw (b : BitVec 64) (i : Nat) : hg b i + lw b i = val b := by
  unfold hg lw
  have := Int.mul_ediv_add_emod (val b) (2 ^ i)
  rw [Int.mul_comm] at this
  omega
theorem hg_succ (b : BitVec 64) (i : Nat) : hg b i = hg b (i + 1) + bt b i * 2 ^ i := by
  have h1 := hg_lw b i
  have h2 := hg_lw b (i + 1)
  have h3 := lw_succ b i
  omega
theorem hg_bd (b : BitVec 64) (i : Nat) : 0 ≤ hg b i ∧ hg b i ≤ 18446744073709551615 := by
  have h1 := hg_lw b i
  have h2 := lw_bd b i
  have h3 := val_bd b
  have h0 : (0 : Int) < 2 ^ i := Int.pow_pos (by omega)
  have h4 : 0 ≤ hg b i := by
    unfold hg
    exact Int.mul_nonneg (Int.ediv_nonneg h3.1 (by omega)) (by omega)
  omega
theorem hg_div (b : BitVec 64) (i m : Nat) (h : i ≤ m) : hg b i / 2 ^ m = val b / 2 ^ m := by
  have h0 : (0 : Int) < 2 ^ i := Int.pow_pos (by omega)
  unfold hg
  obtain ⟨j, rfl⟩ := Nat.exists_eq_add_of_le h
  rw [Int.pow_add, ← Int.ediv_ediv_of_nonneg (by omega), ← Int.ediv_ediv_of_nonneg (by omega), Int.mul_ediv_cancel _ (by omega)]
theorem and_hg (b : BitVec 64) (i m : Nat) (h : i ≤ m) : bits .and .u64 (hg b i / 2 ^ m) 1 = bt b m := by
  rw [hg_div b i m h, and_bt]
theorem or_hg (b : BitVec 64) (i : Nat) (h : i < 64) : bits .or .u64 (hg b (i + 1)) (IntKind.u64.wrap (bt b i * 2 ^ i)) = hg b i := by
  rw [bt_pow b i h, hg_succ b i]
  have hl := hg_bd b (i + 1)
  have hp := pow_le i h
  rcases bt_cases b i with e | e
  · rw [e, Int.zero_mul, u64_or _ 0 hl.1 (by omega) (by omega) (by omega)]
    simp
    omega
  · rw [e, Int.one_mul, u64_or _ _ hl.1 (by omega) (by omega) (by omega)]
    have ep : ((2 : Int) ^ i).toNat = 2 ^ i := by
      have : ((2 : Int) ^ i) = ((2 ^ i : Nat) : Int) := by simp
      rw [this]; rfl
    have eh : (hg b (i + 1)).toNat = b.toNat / 2 ^ (i + 1) * 2 ^ (i + 1) := by
      have : hg b (i + 1) = ((b.toNat / 2 ^ (i + 1) * 2 ^ (i + 1) : Nat) : Int) := by unfold hg val; simp
      rw [this]; rfl
    rw [nat_join (i + 1), ep]
    · have : ((2 ^ i : Nat) : Int) = 2 ^ i := by simp
      omega
    · rw [eh]; simp
    · rw [ep]; exact Nat.pow_lt_pow_right (by omega) (by omega)

/-! ### Division by an odd number -/
theorem bt_bv (x i : Nat) (h : i < 64) : bt (bv (x : Int)) i = ((x / 2 ^ i % 2 : Nat) : Int) := by
  unfold bt bv
  rw [BitVec.ofInt_natCast, BitVec.getLsbD_ofNat, Nat.testBit_eq_decide_div_mod_eq]
  have : x / 2 ^ i % 2 < 2 := Nat.mod_lt _ (by omega)
  by_cases h1 : x / 2 ^ i % 2 = 1
  · simp [h, h1]
  · have h2 : x / 2 ^ i % 2 = 0 := by omega
    simp [h2]
theorem hg_bit (D : BitVec 64) (i : Nat) (h : i < 64) (c : Nat) (hc : c % 2 = 1) : bt (bv (hg D i * (c : Int))) i = bt D i := by
  have e : hg D i * (c : Int) = ((D.toNat / 2 ^ i * 2 ^ i * c : Nat) : Int) := by unfold hg val; simp
  rw [e, bt_bv _ i h, Nat.mul_assoc, Nat.mul_left_comm, Nat.mul_div_cancel_left _ (Nat.pow_pos (by omega)), Nat.mul_mod, hc, Nat.mul_one, Nat.mod_mod, ← bt_val]
  unfold val
  simp
theorem and_rest (D : BitVec 64) (i : Nat) (h : i < 64) (c : Nat) (hc : c % 2 = 1) : bits .and .u64 (IntKind.u64.wrap (hg D i * (c : Int)) / 2 ^ i) 1 = bt D i := by
  rw [wrap_bv, and_bt, hg_bit D i h c hc]
theorem rest_one (D : BitVec 64) (i : Nat) (c : Int) (h : bt D i = 1) : IntKind.u64.wrap (IntKind.u64.wrap (hg D i * c) - IntKind.u64.wrap (c * 2 ^ i)) = IntKind.u64.wrap (hg D (i + 1) * c) := by
  have e : hg D (i + 1) * c = hg D i * c - c * 2 ^ i := by
    have := hg_succ D i
    rw [h, Int.one_mul] at this
    rw [this, Int.add_mul, Int.mul_comm c]
    omega
  rw [e]
  generalize hg D i * c = A
  generalize c * 2 ^ i = B
  simp only [IntKind.wrap_u64]
  omega
theorem rest_zero (D : BitVec 64) (i : Nat) (h : bt D i = 0) : hg D i = hg D (i + 1) := by
  have := hg_succ D i
  rw [h, Int.zero_mul] at this
  omega
theorem low_zero (D : BitVec 64) (i : Nat) (h : bt D i = 0) : lw D i = lw D (i + 1) := by
  have := lw_succ D i
  rw [h, Int.zero_mul] at this
  omega
theorem low_one (D : BitVec 64) (i : Nat) (hi : i < 64) (h : bt D i = 1) : bits .or .u64 (lw D i) (IntKind.u64.wrap (2 ^ i)) = lw D (i + 1) := by
  have e := or_lw D i hi
  rw [h, Int.one_mul] at e
  exact e
theorem rest_start (z : BitVec 64) (c d : BitVec 64) (h : d * c = 1#64) : IntKind.u64.wrap (hg (z * d) 0 * val c) = val z := by
  rw [hg_zero, wrap_mul, BitVec.mul_assoc, h, BitVec.mul_one]
end Go.Proofs.Ytiblpdjehknbcaa.Sed
/- The walks of Mix, Unmix, Draw. -/
namespace Go.Proofs.Ytiblpdjehknbcaa.Sed
open Go.RowKit Lw Fld

theorem steps_any (w : World) :
    Calls Try.prog 112 #[] w fun e w' => e = .returned (.agg #[.int .u64 30, .int .u64 13787848793156543929, .int .u64 10871156337175269513, .int .u64 27, .int .u64 10723151780598845931, .int .u64 3573116690164977347, .int .u64 31, .int .u64 1, .int .u64 1]) ∧ Below w.heap.size w w' := by
  go_enter Try.func112, Try.ntmps112
  go_wp2
  go_returns
  exact ⟨rfl, (Below.refl _ _).alloc (Nat.le_refl _) _⟩
theorem steps0 (w : World) : (Instr.index 169 (.agg #[.int .u64 30, .int .u64 13787848793156543929, .int .u64 10871156337175269513, .int .u64 27, .int .u64 10723151780598845931, .int .u64 3573116690164977347, .int .u64 31, .int .u64 1, .int .u64 1]) (.int .i64 0)).run Try.prog w = .ok (.agg #[.int .u64 30, .int .u64 13787848793156543929, .int .u64 10871156337175269513]) w := by kernel_rfl
theorem steps1 (w : World) : (Instr.index 169 (.agg #[.int .u64 30, .int .u64 13787848793156543929, .int .u64 10871156337175269513, .int .u64 27, .int .u64 10723151780598845931, .int .u64 3573116690164977347, .int .u64 31, .int .u64 1, .int .u64 1]) (.int .i64 1)).run Try.prog w = .ok (.agg #[.int .u64 27, .int .u64 10723151780598845931, .int .u64 3573116690164977347]) w := by kernel_rfl
theorem steps2 (w : World) : (Instr.index 169 (.agg #[.int .u64 30, .int .u64 13787848793156543929, .int .u64 10871156337175269513, .int .u64 27, .int .u64 10723151780598845931, .int .u64 3573116690164977347, .int .u64 31, .int .u64 1, .int .u64 1]) (.int .i64 2)).run Try.prog w = .ok (.agg #[.int .u64 31, .int .u64 1, .int .u64 1]) w := by kernel_rfl
theorem mix_any (x : Int) (w : World) (h0 : 0 ≤ x) (h1 : x ≤ 18446744073709551615) :
    Calls Try.prog 106 #[.int .u64 x] w fun e w' => e = .returned (.int .u64 (mix x)) ∧ Below w.heap.size w w' := by
  have i0 := steps0
  have i1 := steps1
  have i2 := steps2
  go_enter Try.func106, Try.ntmps106
  go_wp2_with (go_at_call 112; ((with_reducible refine (steps_any _).mono ?_)); rintro e w' ⟨rfl, hb⟩; obtain ⟨bs, d, rfl⟩ := below_grow hb; clear hb)
  refine wp_loop_rounds 4 ?_
  iterate 3 (rw [rounds_succ]; go_wp2)
  rw [rounds_succ]; go_wp2
  go_ret
  refine ⟨ret_int ?_, ?_⟩
  · exact mix_eq x h0 h1
  · repeat' (first | (with_reducible exact Below.refl _ _) | (with_reducible refine below_over ?_ _ _) | (with_reducible refine Lw.below_alloc ?_ _) | (with_reducible refine Below.drew ?_) | (with_reducible refine below_drewN ?_ _) | (with_reducible refine Below.setCell ?_ ?_ _) | go_size)
theorem setCell_twice (w : World) (a : Addr) (u v : Value) : (w.setCell a u).setCell a v = w.setCell a v := by
  simp only [World.setCell, World.mk.injEq, and_true]
  apply Array.ext_getElem?
  intro j
  simp only [Array.getElem?_modify]
  split
  · cases w.heap[j]? with
    | none => rfl
    | some o => cases o <;> by_cases h : a.spot.isSome <;> simp [h]
  · rfl
def zAt (x : Int) : Nat → Int
  | 0 => undo 30 (IntKind.u64.wrap (undo 27 (IntKind.u64.wrap (undo 31 x * 3573116690164977347)) * 10871156337175269513))
  | 1 => undo 27 (IntKind.u64.wrap (undo 31 x * 3573116690164977347))
  | 2 => undo 31 x
  | _ => x
def unW (w : World) (bs : Array Obj) (d : Nat) (x : Int) (k : Nat) : World :=
  (grow (w.alloc (.cells #[.int .u64 (zAt x k)] 22)) bs d).alloc (.cells #[.int .u64 30, .int .u64 13787848793156543929, .int .u64 10871156337175269513, .int .u64 27, .int .u64 10723151780598845931, .int .u64 3573116690164977347, .int .u64 31, .int .u64 1, .int .u64 1] 169)
theorem unW0 (w : World) (bs : Array Obj) (d : Nat) (x : Int) : unW w bs d x 0 = (grow (w.alloc (.cells #[.int .u64 (zAt x 0)] 22)) bs d).alloc (.cells #[.int .u64 30, .int .u64 13787848793156543929, .int .u64 10871156337175269513, .int .u64 27, .int .u64 10723151780598845931, .int .u64 3573116690164977347, .int .u64 31, .int .u64 1, .int .u64 1] 169) := rfl
theorem unW1 (w : World) (bs : Array Obj) (d : Nat) (x : Int) : unW w bs d x 1 = (grow (w.alloc (.cells #[.int .u64 (zAt x 1)] 22)) bs d).alloc (.cells #[.int .u64 30, .int .u64 13787848793156543929, .int .u64 10871156337175269513, .int .u64 27, .int .u64 10723151780598845931, .int .u64 3573116690164977347, .int .u64 31, .int .u64 1, .int .u64 1] 169) := rfl
theorem unW2 (w : World) (bs : Array Obj) (d : Nat) (x : Int) : unW w bs d x 2 = (grow (w.alloc (.cells #[.int .u64 (zAt x 2)] 22)) bs d).alloc (.cells #[.int .u64 30, .int .u64 13787848793156543929, .int .u64 10871156337175269513, .int .u64 27, .int .u64 10723151780598845931, .int .u64 3573116690164977347, .int .u64 31, .int .u64 1, .int .u64 1] 169) := rfl
theorem unW3 (w : World) (bs : Array Obj) (d : Nat) (x : Int) : unW w bs d x 3 = (grow (w.alloc (.cells #[.int .u64 (zAt x 3)] 22)) bs d).alloc (.cells #[.int .u64 30, .int .u64 13787848793156543929, .int .u64 10871156337175269513, .int .u64 27, .int .u64 10723151780598845931, .int .u64 3573116690164977347, .int .u64 31, .int .u64 1, .int .u64 1] 169) := rfl
theorem draw_any (s i : Int) (w : World) :
    Calls Try.prog 99 #[.int .u64 s, .int .u64 i] w fun e w' => e = .returned (.int .u64 (draw s i)) ∧ Below w.heap.size w w' := by
  go_enter Try.func99, Try.ntmps99
  go_wp2_with (go_at_call 106; ((with_reducible refine (mix_any _ _ (u64_bd _).1 (u64_bd _).2).mono ?_)); rintro e w' ⟨rfl, hb⟩; obtain ⟨bs, d, rfl⟩ := below_grow hb; clear hb)
  go_ret
  exact ⟨rfl, grow_below _ _ _⟩
theorem pair_any (s l r : Int) (w : World) (l0 : -9223372036854775808 ≤ l) (l1 : l ≤ 9223372036854775807) (r0 : -9223372036854775808 ≤ r) (r1 : r ≤ 9223372036854775807) :
    Calls Try.prog 94 #[.int .u64 s, .int .i64 l, .int .i64 r] w fun e w' => e = .returned (.tuple #[.int .u64 (pairA s l r), .int .u64 (pairB s l r)]) ∧ Below w.heap.size w w' := by
  by_cases hk : 0 ≤ l ∧ l ≤ 59 ∧ 0 ≤ r ∧ r ≤ 7
  · obtain ⟨a0, a1, a2, a3⟩ := hk
    go_enter Try.func94, Try.ntmps94
    go_wp2_with (first
      | (go_at_call 99; ((with_reducible refine (draw_any _ _ _).mono ?_)); rintro e w' ⟨rfl, hb⟩; obtain ⟨bs, d, rfl⟩ := below_grow hb; clear hb)
      | (go_at_call 100; ((with_reducible refine (fold_any _ _ (draw_bd _ _).1 (draw_bd _ _).2).mono ?_)); rintro e w' ⟨rfl, rfl⟩))
    go_ret2
    refine ⟨ret_two ?_ ?_, ?_⟩
    · exact pairA_eq s l r ⟨a0, a1, a2, a3⟩
    · exact pairB_eq s l r ⟨a0, a1, a2, a3⟩
    · exact grow_below _ _ _
  · have e1 : pairA s l r = 0 := if_neg hk
    have e2 : pairB s l r = 0 := if_neg hk
    go_enter Try.func94, Try.ntmps94
    go_wp2
    all_goals go_ret2
    all_goals exact ⟨ret_two (by first | rfl | exact e1.symm) (by first | rfl | exact e2.symm), Below.refl _ _⟩
end Go.Proofs.Ytiblpdjehknbcaa.Sed
/- The walks of the document's own answers for layer 3. -/
namespace Go.Proofs.Ytiblpdjehknbcaa.Sed
open Go.RowKit Lw Fld

end Go.Proofs.Ytiblpdjehknbcaa.Sed
/- The walks of layer 4: a line's value, what is left of it, and the line through two points. -/
namespace Go.Proofs.Ytiblpdjehknbcaa.Hsh
open Go.RowKit Fld Lw
set_option linter.unusedVariables false
def lin (a b x : Int) : Int := add (mul a x) b
def buck (a b x n : Int) : Int := if n < 1 then -1 else lin a b x % n
def thrA (x u y v : Int) : Int := mul (sub u v) (inv (sub x y))
def thrB (x u y v : Int) : Int := sub u (lin (thrA x u y v) 0 x)
theorem lin_bd (a b x : Int) : 0 ≤ lin a b x ∧ lin a b x ≤ 2305843009213693950 := add_bd _ _
theorem mod_le (x n : Int) (h : 0 ≤ x) (hn : 1 ≤ n) : x % n ≤ x := by
  have e := Int.ediv_mul_add_emod x n
  have b := Int.mul_nonneg (Int.ediv_nonneg h (show 0 ≤ n by omega)) (show 0 ≤ n by omega)
  omega
theorem buck_bd (a b x n : Int) : -1 ≤ buck a b x n ∧ buck a b x n ≤ 2305843009213693950 := by
  have h := lin_bd a b x
  unfold buck
  split
  · omega
  · have h1 := Int.emod_nonneg (lin a b x) (show n ≠ 0 by omega)
    have h2 := mod_le _ n h.1 (by omega)
    omega
theorem at_any (a b x : Int) (w : World) (a0 : 0 ≤ a) (a1 : a ≤ 18446744073709551615) (b0 : 0 ≤ b) (b1 : b ≤ 18446744073709551615) (x0 : 0 ≤ x) (x1 : x ≤ 18446744073709551615) :
    Calls Try.prog 102 #[.agg #[.int .u64 a, .int .u64 b], .int .u64 x] w fun e w' => e = .returned (.int .u64 (lin a b x)) ∧ Below w.heap.size w w' := by
  have m := mul_bd a x
  go_enter Try.func102, Try.ntmps102
  go_wp2
  go_region_held3 (fun w' => w'.cell? ⟨w.heap.size, 0, none⟩ = some (.int .u64 a) ∧ w'.cell? ⟨w.heap.size, 1, none⟩ = some (.int .u64 b)) (simp [go_sem, *])
    (first
    | (go_at_call 108; (with_reducible refine (mul_any _ _ _ a0 a1 x0 x1).mono ?_); rintro e w' ⟨rfl, rfl⟩)
    | (go_at_call 107; (with_reducible refine (add_any _ _ _ m.1 (by omega) b0 b1).mono ?_); rintro e w' ⟨rfl, rfl⟩))
  all_goals go_wp2
  all_goals go_ret
  all_goals refine ⟨rfl, ?_⟩
  all_goals (repeat' (first | (with_reducible exact Below.refl _ _) | (with_reducible assumption) | (with_reducible refine below_over ?_ _ _) | (with_reducible refine Lw.below_alloc ?_ _) | (with_reducible refine Below.drew ?_) | (with_reducible refine below_drewN ?_ _) | (with_reducible refine Below.setCell ?_ ?_ _) | go_size))
theorem left_no (f : Fn) (c1 c2 : Array Value) (x n : Int) (w : World) (h : n < 1) :
    Calls Try.prog 101 #[.func f c1 c2, .int .u64 x, .int .i64 n] w fun e w' => e = .returned (.int .i64 (-1)) ∧ w = w' := by
  go_enter Try.func101, Try.ntmps101
  go_wp2
  go_ret
  exact ⟨rfl, rfl⟩
theorem left_yes (a b x n : Int) (w : World) (h : 1 ≤ n) (n1 : n ≤ 9223372036854775807) (a0 : 0 ≤ a) (a1 : a ≤ 18446744073709551615) (b0 : 0 ≤ b) (b1 : b ≤ 18446744073709551615) (x0 : 0 ≤ x) (x1 : x ≤ 18446744073709551615) :
    Calls Try.prog 101 #[.func (.func 102) #[.agg #[.int .u64 a, .int .u64 b]] #[], .int .u64 x, .int .i64 n] w fun e w' => e = .returned (.int .i64 (lin a b x % n)) ∧ Below w.heap.size w w' := by
  have l := lin_bd a b x
  have m0 := Int.emod_nonneg (lin a b x) (show n ≠ 0 by omega)
  have m1 := mod_le (lin a b x) n l.1 h
  have hn : IntKind.u64.wrap n = n := IntWalk.u64_in n ⟨by omega, by omega⟩
  have hn0 : ¬ n = 0 := by omega
  go_enter Try.func101, Try.ntmps101
  go_wp2_with (go_at_call 102; ((with_reducible refine (at_any a b x _ a0 a1 b0 b1 x0 x1).mono ?_)); rintro e w' ⟨rfl, hb⟩; obtain ⟨bs, d, rfl⟩ := below_grow hb; clear hb)
  go_ret
  refine ⟨rfl, ?_⟩
  repeat' (first | (with_reducible exact Below.refl _ _) | (with_reducible assumption) | (with_reducible refine below_over ?_ _ _) | (with_reducible refine Lw.below_alloc ?_ _) | (with_reducible refine Below.drew ?_) | (with_reducible refine below_drewN ?_ _) | (with_reducible refine Below.setCell ?_ ?_ _) | go_size)
theorem bucket_any (a b x n : Int) (w : World) (a0 : 0 ≤ a) (a1 : a ≤ 18446744073709551615) (b0 : 0 ≤ b) (b1 : b ≤ 18446744073709551615) (x0 : 0 ≤ x) (x1 : x ≤ 18446744073709551615) (n0 : -9223372036854775808 ≤ n) (n1 : n ≤ 9223372036854775807) :
    Calls Try.prog 95 #[.int .u64 a, .int .u64 b, .int .u64 x, .int .i64 n] w fun e w' => e = .returned (.int .i64 (buck a b x n)) ∧ Below w.heap.size w w' := by
  have hmf : ∀ (fn : Fn) (first cap : Array Value) (w : World), (Instr.makeFunc fn first cap).run Try.prog w = .ok (.func fn first cap) w := fun _ _ _ _ => rfl
  by_cases h : n < 1
  · have e : buck a b x n = -1 := if_pos h
    go_enter Try.func95, Try.ntmps95
    go_wp2_with (go_at_call 101; ((with_reducible refine (left_no _ _ _ x n _ h).mono ?_)); rintro e w' ⟨rfl, rfl⟩)
    go_ret
    exact ⟨ret_int e.symm, Below.refl _ _⟩
  · have e : buck a b x n = lin a b x % n := if_neg h
    go_enter Try.func95, Try.ntmps95
    go_wp2_with (go_at_call 101; ((with_reducible refine (left_yes a b x n _ (by omega) n1 a0 a1 b0 b1 x0 x1).mono ?_)); rintro e w' ⟨rfl, hb⟩; obtain ⟨bs, d, rfl⟩ := below_grow hb; clear hb)
    go_ret
    refine ⟨ret_int e.symm, ?_⟩
    repeat' (first | (with_reducible exact Below.refl _ _) | (with_reducible assumption) | (with_reducible refine below_over ?_ _ _) | (with_reducible refine Lw.below_alloc ?_ _) | (with_reducible refine Below.drew ?_) | (with_reducible refine below_drewN ?_ _) | (with_reducible refine Below.setCell ?_ ?_ _) | go_size)
end Go.Proofs.Ytiblpdjehknbcaa.Hsh
/- The walks of the document's own answers for layer 4, and what the laws of layer 4 say of plain numbers. Printed by wip/gen/hsh.py. -/
namespace Go.Proofs.Ytiblpdjehknbcaa.Hsh
open Go.RowKit Fld Lw
set_option linter.unusedVariables false
/-! ### What is said of numbers -/
theorem zero_of (a t : Int) (ht : fold t ≠ 0) (h : mul a t = 0) : fold a = 0 := by
  have e := mul_back a t ht
  rw [h] at e
  rw [← e, mul_comm, mul_zero _ 0 rfl]
theorem apart_iff (x y : Int) : sub x y = 0 ↔ fold x = fold y := by unfold sub fold; omega
theorem fold_sub (x y : Int) : fold (sub x y) = sub x y := fold_of _ (sub_bd x y).1 (sub_bd x y).2
theorem slope (x u y v : Int) (h : sub x y ≠ 0) : mul (thrA x u y v) (sub x y) = sub u v := by
  unfold thrA
  rw [← mul_assoc, mul_comm (inv (sub x y)), inv_is _ (by rw [fold_sub]; exact h), mul_one, fold_sub]
theorem slope_iff (A x u y v : Int) : mul A (sub x y) = sub u v ↔ (A * x - A * y - (u - v)) % 2305843009213693951 = 0 := by
  unfold mul sub
  rw [mul_mod, Int.mul_sub]
  omega
theorem lin_eq (a b x : Int) : lin a b x = (a * x + b) % 2305843009213693951 := by unfold lin add mul; omega
theorem thrA_bd (x u y v : Int) : 0 ≤ thrA x u y v ∧ thrA x u y v ≤ 2305843009213693950 := mul_bd _ _
theorem thrB_bd (x u y v : Int) : 0 ≤ thrB x u y v ∧ thrB x u y v ≤ 2305843009213693950 := sub_bd _ _
theorem thrB_eq (x u y v : Int) (h : sub x y ≠ 0) : thrB x u y v = sub v (mul (thrA x u y v) y) := by
  have s := (slope_iff _ x u y v).1 (slope x u y v h)
  unfold thrB sub
  rw [lin_eq]
  unfold mul
  omega
theorem meets1 (x u y v : Int) (h : sub x y ≠ 0) : lin (thrA x u y v) (thrB x u y v) x = fold u := by
  rw [lin_eq]
  unfold thrB sub fold
  rw [lin_eq]
  omega
theorem meets2 (x u y v : Int) (h : sub x y ≠ 0) : lin (thrA x u y v) (thrB x u y v) y = fold v := by
  have s := (slope_iff _ x u y v).1 (slope x u y v h)
  rw [lin_eq]
  unfold thrB sub fold
  rw [lin_eq]
  omega
theorem only (x u y v c d : Int) (h : sub x y ≠ 0) : (lin c d x = fold u ∧ lin c d y = fold v) ↔ (fold c = thrA x u y v ∧ fold d = thrB x u y v) := by
  have s := (slope_iff _ x u y v).1 (slope x u y v h)
  have hb := thrA_bd x u y v
  constructor
  · rintro ⟨h1, h2⟩
    have e : (c * x - c * y - (u - v)) % 2305843009213693951 = 0 := by
      rw [lin_eq] at h1 h2
      unfold fold at h1 h2
      omega
    have z : fold (c - thrA x u y v) = 0 := by
      refine zero_of _ (sub x y) (by rw [fold_sub]; exact h) ?_
      unfold mul sub
      rw [mul_mod, Int.mul_sub, Int.sub_mul, Int.sub_mul]
      omega
    have hc : fold c = thrA x u y v := by unfold fold at z ⊢; omega
    have ex : c * x % 2305843009213693951 = thrA x u y v * x % 2305843009213693951 := by
      rw [← hc]
      unfold fold
      rw [mod_mul]
    refine ⟨hc, ?_⟩
    rw [lin_eq] at h1
    unfold thrB sub
    rw [lin_eq]
    unfold fold at h1 ⊢
    omega
  · rintro ⟨hc, hd⟩
    have ex : c * x % 2305843009213693951 = thrA x u y v * x % 2305843009213693951 := by
      rw [← hc]
      unfold fold
      rw [mod_mul]
    have ey : c * y % 2305843009213693951 = thrA x u y v * y % 2305843009213693951 := by
      rw [← hc]
      unfold fold
      rw [mod_mul]
    have m1 := meets1 x u y v h
    have m2 := meets2 x u y v h
    rw [← hd, lin_eq] at m1 m2
    rw [lin_eq, lin_eq]
    unfold fold at m1 m2 ⊢
    omega
theorem flat (a b x y : Int) (h : fold a = 0) : lin a b x = fold b ∧ lin a b y = fold b := by
  unfold lin
  rw [mul_comm a x, mul_comm a y, mul_zero x a h, mul_zero y a h]
  unfold add fold
  omega
theorem steep (a b x y : Int) (h : fold a ≠ 0) : lin a b x = lin a b y ↔ fold x = fold y := by
  constructor
  · intro e
    rw [← apart_iff, ← fold_sub]
    refine zero_of _ a h ?_
    rw [lin_eq, lin_eq] at e
    unfold mul sub
    rw [mod_mul, Int.sub_mul, Int.mul_comm x, Int.mul_comm y]
    omega
  · intro e
    unfold lin
    rw [← mul_fold a x, ← mul_fold a y, e]
theorem steps1 (a b x : Int) : lin a b (add x 1) = add (lin a b x) a := by
  rw [lin_eq, lin_eq]
  unfold add
  have e : a * ((x + 1) % 2305843009213693951) % 2305843009213693951 = (a * x + a) % 2305843009213693951 := by rw [mul_mod, Int.mul_add, Int.mul_one]
  omega
theorem steps2 (a b : Int) : lin a b 0 = fold b := by rw [lin_eq, Int.mul_zero, Int.zero_add]; rfl
theorem steps3 (a b x : Int) : sub (lin a b x) b = mul a x := by rw [lin_eq]; unfold sub mul; omega
theorem buck_in (a b x n : Int) (h : 1 ≤ n) : 0 ≤ buck a b x n ∧ buck a b x n < n := by
  unfold buck
  rw [if_neg (by omega)]
  exact ⟨Int.emod_nonneg _ (by omega), Int.emod_lt_of_pos _ (by omega)⟩
end Go.Proofs.Ytiblpdjehknbcaa.Hsh
/- The walks of the document's own answers for layer 6: a grid of rows, each with memory of its own. -/
namespace Go.Proofs.Ytiblpdjehknbcaa.Grd
open Go Go.RowKit Lw
set_option linter.unusedVariables false
theorem i64_info : (Try.prog.info? 2).map (fun i => (i.zero, i.size, i.bytes)) = some (some (.int .i64 0), 1, 8) := by kernel_rfl
theorem i64s_u : Try.prog.underlying 109 = some (.slice 2) := by kernel_rfl
theorem ret_i {k : IntKind} {a b : Int} (h : a = b) : Ending.returned (.int k a) = .returned (.int k b) := by rw [h]
theorem ret_b {a b : Bool} (h : a = b) : Ending.returned (.bool a) = .returned (.bool b) := by rw [h]
/-- A row: its block, how much it may hold, its numbers. -/
abbrev Row := Nat × Nat × List Int
def rowHd (r : Row) : Value := .slice (some ⟨r.1, 0, none⟩) r.2.2.length r.2.1
def RF (b : Nat) (hdr : Value) (R : List Row) (k : Nat) : Prop := k = b ∨ hdr.ownBlock = some k ∨ ∃ r ∈ R, r.1 = k
/-- The number of a cell; 0 where there is none. -/
def at2 (L : List (List Int)) (row col : Int) : Int := if row < 0 ∨ col < 0 then 0 else ((L[row.toNat]?.getD [])[col.toNat]?).getD 0
def in2 (L : List (List Int)) (row col : Int) : Bool := decide (0 ≤ row ∧ row < L.length ∧ 0 ≤ col ∧ col < (L[row.toNat]?.getD []).length)
def nums (R : List Row) : List (List Int) := R.map (fun r => r.2.2)
theorem at2_out {L : List (List Int)} {row col : Int} (h : row < 0 ∨ (L.length : Int) ≤ row ∨ col < 0 ∨ ((L[row.toNat]?.getD []).length : Int) ≤ col) : at2 L row col = 0 := by
  unfold at2
  split
  · rfl
  · rename_i h2
    have h3 : L.length ≤ row.toNat ∨ (L[row.toNat]?.getD []).length ≤ col.toNat := by omega
    rcases h3 with h3 | h3
    · rw [List.getElem?_eq_none h3]; rfl
    · rw [List.getElem?_eq_none h3]; rfl
/-- The rows with one number set. -/
def set2 (R : List Row) (K C : Nat) (n : Int) : List Row := R.modify K (fun r => (r.1, r.2.1, r.2.2.set C n))
def put2 (R : List Row) (row col n : Int) : List Row := if in2 (nums R) row col = true then set2 R row.toNat col.toNat n else R
theorem in2_no {L : List (List Int)} {row col : Int} (h : row < 0 ∨ (L.length : Int) ≤ row ∨ col < 0 ∨ ((L[row.toNat]?.getD []).length : Int) ≤ col) : in2 L row col = false := by
  unfold in2
  exact decide_eq_false (by omega)
theorem set2_len (R : List Row) (K C : Nat) (n : Int) : (set2 R K C n).length = R.length := by simp [set2]
theorem set2_get (R : List Row) (K C : Nat) (n : Int) (i : Nat) : (set2 R K C n)[i]? = if K = i then (R[i]?).map (fun r => (r.1, r.2.1, r.2.2.set C n)) else R[i]? := by
  unfold set2
  rw [List.getElem?_modify]
  by_cases h : K = i <;> simp [h]
theorem set2_hd (R : List Row) (K C : Nat) (n : Int) : (set2 R K C n).map rowHd = R.map rowHd := by
  apply List.ext_getElem?
  intro i
  rw [List.getElem?_map, List.getElem?_map, set2_get]
  split
  · cases R[i]? <;> simp [rowHd]
  · rfl
theorem set2_bl (R : List Row) (K C : Nat) (n : Int) : (set2 R K C n).map (·.1) = R.map (·.1) := by
  apply List.ext_getElem?
  intro i
  rw [List.getElem?_map, List.getElem?_map, set2_get]
  split
  · cases R[i]? <;> simp
  · rfl
theorem set2_mem {R : List Row} {K C : Nat} {n : Int} {r : Row} (h : r ∈ set2 R K C n) : ∃ (i : Nat) (q : Row), R[i]? = some q ∧ r.1 = q.1 ∧ r.2.1 = q.2.1 ∧ ((K = i ∧ r.2.2 = q.2.2.set C n) ∨ (K ≠ i ∧ r.2.2 = q.2.2)) := by
  obtain ⟨i, hi, e⟩ := List.mem_iff_getElem.1 h
  have e2 : (set2 R K C n)[i]? = some r := by rw [List.getElem?_eq_getElem hi, e]
  rw [set2_get] at e2
  split at e2
  · rename_i hk
    obtain ⟨q, hq, rfl⟩ := Option.map_eq_some_iff.1 e2
    exact ⟨i, q, hq, rfl, rfl, .inl ⟨hk, rfl⟩⟩
  · rename_i hk
    exact ⟨i, r, e2, rfl, rfl, .inr ⟨hk, rfl⟩⟩
theorem RF_put {b : Nat} {hdr : Value} {R : List Row} {row col n : Int} (k : Nat) : RF b hdr (put2 R row col n) k ↔ RF b hdr R k := by
  unfold RF put2
  split
  · have e : ∀ S : List Row, (∃ r ∈ S, r.1 = k) ↔ k ∈ S.map (·.1) := fun S => by simp
    rw [e, e, set2_bl]
  · exact Iff.rfl
theorem put2_no {R : List Row} {row col n : Int} (h : in2 (nums R) row col = false) : put2 R row col n = R := by unfold put2; rw [h]; rfl
def cl (n : Int) (m : Nat) : Nat := min n.toNat m
theorem rows_info : (Try.prog.info? 109).map (fun i => (i.zero, i.size, i.bytes)) = some (some (.slice none 0 0), 1, 24) := by kernel_rfl
end Go.Proofs.Ytiblpdjehknbcaa.Grd
/- Grids as lists of rows: what Put, Plus, Minus make of them; a row of numbers as a thing. -/
namespace Go.Proofs.Ytiblpdjehknbcaa.Grd
open Go Go.RowKit Lw
set_option linter.unusedVariables false
structure Dims (m n : Nat) (L : List (List Int)) : Prop where
  len : L.length = m
  m8 : m ≤ 8
  n128 : n ≤ 128
  rows : ∀ r ∈ L, r.length = n ∧ In64 r
def setL (L : List (List Int)) (row col x : Int) : List (List Int) := if in2 L row col = true then L.modify row.toNat (fun r => r.set col.toNat x) else L
def zerosL (m n : Nat) : List (List Int) := List.replicate m (List.replicate n 0)
def rowS (s : Int) (xs ys : List Int) : List Int := List.zipWith (fun x y => x + s * y) xs ys
def gridS (s : Int) (L M : List (List Int)) : List (List Int) := List.zipWith (rowS s) L M
def fitsAll (J : List (List Int)) : Bool := J.all (fun r => r.all Wid.fit64)
theorem in2_dims {m n : Nat} {L : List (List Int)} (h : Dims m n L) (row col : Int) : in2 L row col = decide (0 ≤ row ∧ row < m ∧ 0 ≤ col ∧ col < n) := by
  unfold in2
  rw [h.len]
  by_cases h1 : 0 ≤ row ∧ row < m
  · have h2 : row.toNat < L.length := by rw [h.len]; omega
    have e : (L[row.toNat]?.getD []).length = n := by
      rw [List.getElem?_eq_getElem h2]
      exact (h.rows _ (List.getElem_mem h2)).1
    rw [e]
  · have g1 : ¬ (0 ≤ row ∧ row < (m : Int) ∧ 0 ≤ col ∧ col < ((L[row.toNat]?.getD []).length : Int)) := fun h => h1 ⟨h.1, h.2.1⟩
    have g2 : ¬ (0 ≤ row ∧ row < (m : Int) ∧ 0 ≤ col ∧ col < (n : Int)) := fun h => h1 ⟨h.1, h.2.1⟩
    rw [decide_eq_false g1, decide_eq_false g2]
theorem in64_set {r : List Int} (h : In64 r) (j : Nat) {x : Int} (h0 : -9223372036854775808 ≤ x) (h1 : x ≤ 9223372036854775807) : In64 (r.set j x) := by
  intro v hv
  rcases List.mem_or_eq_of_mem_set hv with h2 | h2
  · exact h v h2
  · subst h2; exact ⟨h0, h1⟩
theorem Dims.set {m n : Nat} {L : List (List Int)} (h : Dims m n L) (row col : Int) {x : Int} (h0 : -9223372036854775808 ≤ x) (h1 : x ≤ 9223372036854775807) : Dims m n (setL L row col x) := by
  unfold setL
  split
  · refine ⟨by rw [List.length_modify]; exact h.len, h.m8, h.n128, fun r hr => ?_⟩
    obtain ⟨i, hi, e⟩ := List.mem_iff_getElem.1 hr
    rw [List.getElem_modify] at e
    rw [List.length_modify] at hi
    have h2 := h.rows _ (List.getElem_mem hi)
    split at e
    · subst e; exact ⟨by rw [List.length_set]; exact h2.1, in64_set h2.2 _ h0 h1⟩
    · subst e; exact h2
  · exact h
theorem dims_zeros {m n : Nat} (h : m ≤ 8) (g : n ≤ 128) : Dims m n (zerosL m n) := by
  refine ⟨by simp [zerosL], h, g, fun r hr => ?_⟩
  have := (List.mem_replicate.1 hr).2
  subst this
  exact ⟨by simp, fun v hv => by have := (List.mem_replicate.1 hv).2; subst this; exact ⟨by omega, by omega⟩⟩
theorem nums_put2 (R : List Row) (row col x : Int) : nums (put2 R row col x) = setL (nums R) row col x := by
  unfold put2 setL
  split
  · unfold nums set2
    apply List.ext_getElem?
    intro i
    rw [List.getElem?_map, List.getElem?_modify, List.getElem?_modify, List.getElem?_map]
    cases R[i]? <;> simp
    split <;> simp
  · rfl
/-- A row of numbers, its memory its own. -/
def Row1 (w : World) (A : Option Addr) (Z : List Int) : Prop := (A = none → Z = []) ∧ ∀ a, A = some a → ∃ g i, a = ⟨g, i, none⟩ ∧ Ord.Mid w g i Z
def rowT (A : Option Addr) (Z : List Int) : Thing where
  I := fun w => Row1 w A Z
  F := fun k => ∃ a, A = some a ∧ a.block = k
  keep := fun w w' H h hk hf => ⟨h.1, fun a ha => by
    obtain ⟨g, i, rfl, hm⟩ := h.2 a ha
    exact ⟨g, i, rfl, hm.keep hk (hf g ⟨_, ha, rfl⟩)⟩⟩
  lt := fun w h k hk => by
    obtain ⟨a, ha, rfl⟩ := hk
    obtain ⟨g, i, rfl, hm⟩ := h.2 a ha
    exact hm.lt
theorem Row1.rd {w : World} {A : Option Addr} {Z : List Int} (h : Row1 w A Z) : Rd .i64 w A Z := by
  intro j v hv
  cases A with
  | none => rw [h.1 rfl] at hv; simp at hv
  | some a =>
    obtain ⟨g, i, rfl, hm⟩ := h.2 a rfl
    exact hm.rd j v hv
theorem mem_zip {α β γ : Type} {f : α → β → γ} : ∀ {xs : List α} {ys : List β} {z : γ}, z ∈ List.zipWith f xs ys → ∃ x ∈ xs, ∃ y ∈ ys, z = f x y
  | [], _, _, h => by simp at h
  | _ :: _, [], _, h => by simp at h
  | x :: xs, y :: ys, z, h => by
    rw [List.zipWith_cons_cons] at h
    rcases List.mem_cons.1 h with h | h
    · exact ⟨x, by simp, y, by simp, h⟩
    · obtain ⟨a, ha, b, hb, e⟩ := mem_zip h
      exact ⟨a, by simp [ha], b, by simp [hb], e⟩
theorem fit64_in {x : Int} (h : Wid.fit64 x = true) : -9223372036854775808 ≤ x ∧ x ≤ 9223372036854775807 := by
  have h2 : -9223372036854775808 ≤ x ∧ x < 9223372036854775808 := by simpa [Wid.fit64] using h
  omega
theorem Dims.join {m n : Nat} {L M : List (List Int)} (h : Dims m n L) (g : Dims m n M) {s : Int} (hf : fitsAll (gridS s L M) = true) : Dims m n (gridS s L M) := by
  refine ⟨by unfold gridS; rw [List.length_zipWith, h.len, g.len]; omega, h.m8, h.n128, fun r hr => ?_⟩
  have h2 : In64 r := fun v hv => fit64_in (List.all_eq_true.1 (List.all_eq_true.1 hf r hr) v hv)
  obtain ⟨a, ha, b, hb, rfl⟩ := mem_zip hr
  exact ⟨by unfold rowS; rw [List.length_zipWith, (h.rows a ha).1, (g.rows b hb).1]; omega, h2⟩
/-- What Plus (s = 1) and Minus (s = -1) answer, and make. -/
def jcode (s : Int) (m n m' n' : Nat) (L M : List (List Int)) : Int := if m = m' ∧ n = n' then (if fitsAll (gridS s L M) = true then 0 else 4) else 5
def jres (s : Int) (m n m' n' : Nat) (L M : List (List Int)) : List (List Int) := if m = m' ∧ n = n' ∧ fitsAll (gridS s L M) = true then gridS s L M else L
/-- The first k of the cells qs are set. -/
def puts (L : List (List Int)) (qs : List (Int × Int × Int)) : List (List Int) := qs.foldl (fun L q => setL L q.1 q.2.1 q.2.2) L
theorem puts_next (L : List (List Int)) (qs : List (Int × Int × Int)) (k : Nat) (q : Int × Int × Int) (h : qs[k]? = some q) : puts L (qs.take (k + 1)) = setL (puts L (qs.take k)) q.1 q.2.1 q.2.2 := by
  have e := List.getElem?_eq_some_iff.1 h
  obtain ⟨h1, h2⟩ := e
  unfold puts
  rw [List.take_succ_eq_append_getElem h1, List.foldl_append, h2]
  rfl
theorem puts_dims {m n : Nat} {L : List (List Int)} (h : Dims m n L) : ∀ (qs : List (Int × Int × Int)), (∀ q ∈ qs, -9223372036854775808 ≤ q.2.2 ∧ q.2.2 ≤ 9223372036854775807) → Dims m n (puts L qs) := by
  intro qs
  induction qs generalizing L with
  | nil => intro _; exact h
  | cons q qs ih => intro hq; exact ih (h.set _ _ (hq q (by simp)).1 (hq q (by simp)).2) (fun r hr => hq r (by simp [hr]))
theorem flat_dims {m n : Nat} {L : List (List Int)} (h : Dims m n L) : L.flatten.length = m * n := by
  have key : ∀ (L : List (List Int)), (∀ r ∈ L, r.length = n) → L.flatten.length = L.length * n := by
    intro L
    induction L with
    | nil => intro _; simp
    | cons r L ih =>
      intro hr
      rw [List.flatten_cons, List.length_append, ih (fun q hq => hr q (by simp [hq])), hr r (by simp), List.length_cons, Nat.succ_mul, Nat.add_comm]
  rw [key L (fun r hr => (h.rows r hr).1), h.len]
theorem row_back : ∀ {xs ys : List Int}, xs.length = ys.length → rowS (-1) (rowS 1 xs ys) ys = xs
  | [], [], _ => rfl
  | [], _ :: _, h => by simp at h
  | _ :: _, [], h => by simp at h
  | x :: xs, y :: ys, h => by
    have ih := row_back (xs := xs) (ys := ys) (by simpa using h)
    unfold rowS at ih ⊢
    simp only [List.zipWith_cons_cons, ih]
    congr 1; omega
theorem row_self : ∀ (xs : List Int), rowS (-1) xs xs = List.replicate xs.length 0
  | [] => rfl
  | x :: xs => by
    have ih := row_self xs
    unfold rowS at ih ⊢
    simp only [List.zipWith_cons_cons, List.length_cons, List.replicate_succ, ih]
    congr 1; omega
theorem grid_back {m n : Nat} : ∀ {L M : List (List Int)}, (∀ r ∈ L, r.length = n) → (∀ r ∈ M, r.length = n) → L.length = M.length → gridS (-1) (gridS 1 L M) M = L
  | [], [], _, _, _ => rfl
  | [], _ :: _, _, _, h => by simp at h
  | _ :: _, [], _, _, h => by simp at h
  | x :: xs, y :: ys, h1, h2, h => by
    have ih := grid_back (m := m) (L := xs) (M := ys) (fun r hr => h1 r (by simp [hr])) (fun r hr => h2 r (by simp [hr])) (by simpa using h)
    unfold gridS at ih ⊢
    simp only [List.zipWith_cons_cons, ih]
    rw [row_back (by rw [h1 x (by simp), h2 y (by simp)])]
theorem grid_self {n : Nat} : ∀ {L : List (List Int)}, (∀ r ∈ L, r.length = n) → gridS (-1) L L = zerosL L.length n
  | [], _ => rfl
  | x :: xs, h => by
    have ih := grid_self (L := xs) (fun r hr => h r (by simp [hr]))
    unfold gridS zerosL at ih ⊢
    simp only [List.zipWith_cons_cons, List.length_cons, List.replicate_succ, ih]
    rw [row_self, h x (by simp)]
theorem fits_dims {m n : Nat} {L : List (List Int)} (h : Dims m n L) : fitsAll L = true := by
  refine List.all_eq_true.2 fun r hr => List.all_eq_true.2 fun v hv => ?_
  have := (h.rows r hr).2 v hv
  simp [Wid.fit64]
  omega
theorem back_dims {m n : Nat} {L M : List (List Int)} (h : Dims m n L) (g : Dims m n M) : gridS (-1) (gridS 1 L M) M = L :=
  grid_back (m := m) (fun r hr => (h.rows r hr).1) (fun r hr => (g.rows r hr).1) (by rw [h.len, g.len])
theorem self_dims {m n : Nat} {L : List (List Int)} (h : Dims m n L) : gridS (-1) L L = zerosL m n := by
  have := grid_self (n := n) (L := L) (fun r hr => (h.rows r hr).1)
  rwa [h.len] at this
theorem jcode_yes {s : Int} {m n : Nat} {L M : List (List Int)} (h : fitsAll (gridS s L M) = true) : jcode s m n m n L M = 0 ∧ jres s m n m n L M = gridS s L M := by
  simp [jcode, jres, h]
theorem jcode_no {s : Int} {m n : Nat} {L M : List (List Int)} (h : fitsAll (gridS s L M) = false) : jcode s m n m n L M = 4 ∧ jres s m n m n L M = L := by
  simp [jcode, jres, h]
theorem row1_at {w : World} {A : Option Addr} {Z : List Int} (h : Row1 w A Z) {k : Nat} {v : Int} (hv : Z[k]? = some v) (x : Int) :
    ∃ (a : Addr), A = some a ∧ w.cell? (a.add k) = some (.int .i64 v) ∧ w.frozen? (a.add k) = false ∧ Row1 (w.setCell (a.add k) (.int .i64 x)) A (Z.set k x) ∧ Kept (rowT A Z).F w (w.setCell (a.add k) (.int .i64 x)) := by
  cases A with
  | none => rw [h.1 rfl] at hv; simp at hv
  | some a =>
    obtain ⟨g, i, rfl, hm⟩ := h.2 a rfl
    refine ⟨⟨g, i, none⟩, rfl, ?_, ?_, ⟨(fun h => by cases h), fun a ha => ?_⟩, ?_⟩
    · rw [Ord.add_at]; exact hm.cell hv
    · rw [Ord.add_at]; exact hm.frozen _
    · injection ha with ha
      subst ha
      refine ⟨g, i, rfl, ?_⟩
      rw [Ord.add_at]
      exact hm.set k x
    · rw [Ord.add_at]
      exact (Kept.refl _ w).set (.inl ⟨_, rfl, rfl⟩) _ _
theorem at_apart {m n : Nat} {L : List (List Int)} (h : Dims m n L) (row col x : Int) (hne : ¬ (row = 0 ∧ col = 0)) : at2 (setL L row col x) 0 0 = at2 L 0 0 := by
  unfold setL
  split
  · rename_i hi
    rw [in2_dims h] at hi
    have hi := of_decide_eq_true hi
    unfold at2
    rw [if_neg (by omega), if_neg (by omega), List.getElem?_modify]
    cases hL : L[(0 : Int).toNat]? with
    | none => rfl
    | some r =>
      by_cases hr : row.toNat = 0
      · have hc : col.toNat ≠ 0 := by omega
        simp [hr, hc]
      · have hr2 : ¬ row.toNat = (0 : Int).toNat := hr
        simp only [Option.map_eq_map, Option.map_some, if_neg hr2]
  · rfl
/-- Small enough to be doubled. -/
def in62 (v : Int) : Bool := decide (-4611686018427387904 ≤ v ∧ v < 4611686018427387904)
theorem row_twice (xs : List Int) : rowS 1 xs xs = xs.map (2 * ·) := by
  induction xs with
  | nil => rfl
  | cons x xs ih =>
    unfold rowS at ih ⊢
    simp only [List.zipWith_cons_cons, List.map_cons, ih]
    congr 1; omega
theorem grid_twice (L : List (List Int)) : gridS 1 L L = L.map (fun r => r.map (2 * ·)) := by
  induction L with
  | nil => rfl
  | cons x xs ih =>
    unfold gridS at ih ⊢
    simp only [List.zipWith_cons_cons, List.map_cons, ih, row_twice]
theorem twice_flat (L : List (List Int)) : (gridS 1 L L).flatten = L.flatten.map (2 * ·) := by
  rw [grid_twice, List.map_flatten]
theorem twice_fits (L : List (List Int)) : fitsAll (gridS 1 L L) = L.flatten.all in62 := by
  rw [grid_twice]
  unfold fitsAll
  rw [List.all_map, List.all_flatten]
  congr 1
  funext r
  simp only [Function.comp_apply, List.all_map]
  congr 1
  funext v
  simp only [Function.comp_apply, Wid.fit64, in62]
  congr 1
  apply propext
  constructor <;> intro h <;> omega
theorem zeros_flat {m n : Nat} : ∀ v ∈ (zerosL m n).flatten, v = 0 := by
  intro v hv
  obtain ⟨r, hr, hv⟩ := List.mem_flatten.1 hv
  have := (List.mem_replicate.1 hr).2
  subst this
  exact (List.mem_replicate.1 hv).2
end Go.Proofs.Ytiblpdjehknbcaa.Grd
/- The walks of the document's own answers for layer 6: New, Cells, Same. Printed by wip/gen/grd.py. -/
namespace Go.Proofs.Ytiblpdjehknbcaa.Grd
open Go Go.RowKit Lw
set_option linter.unusedVariables false
theorem rep_next (j : Nat) : List.replicate (j + 1) (0 : Int) = List.replicate j 0 ++ [0] := by rw [List.replicate_succ']
theorem cl_lt {n : Int} {m k : Nat} (h : k < cl n m) : (k : Int) < n ∧ (k : Int) < m := by unfold cl at h; omega
theorem cl_ge {n : Int} {m k : Nat} (h : ¬ k < cl n m) : ¬ (k : Int) < n ∨ ((k : Int) < n ∧ ¬ (k : Int) < m) := by unfold cl at h; omega
/-- A new grid: all is 0, and all of it is new memory. -/
def Fresh (w : World) (b : Nat) (hdr : Value) (R : List Row) : Prop := ∀ q, RF b hdr R q → w.heap.size ≤ q
def Zeros (m n : Nat) (R : List Row) : Prop := nums R = List.replicate m (List.replicate n 0)
theorem zeros_push {m n : Nat} {R : List Row} (h : Zeros m n R) (g c : Nat) : Zeros (m + 1) n (R ++ [(g, c, List.replicate n 0)]) := by
  unfold Zeros nums at *
  rw [List.map_append, h, List.replicate_succ']
  rfl
theorem flat_next (L : List (List Int)) (k : Nat) (zs : List Int) (h : L[k]? = some zs) : (L.take (k + 1)).flatten = (L.take k).flatten ++ zs := by
  obtain ⟨hk, e⟩ := List.getElem?_eq_some_iff.1 h
  rw [List.take_succ_eq_append_getElem hk, List.flatten_append, e]
  simp
theorem flat_len (L : List (List Int)) (k m : Nat) (h : ∀ zs ∈ L, zs.length ≤ m) : (L.take k).flatten.length ≤ k * m := by
  induction k with
  | zero => simp
  | succ k ih =>
    rcases Nat.lt_or_ge k L.length with h1 | h1
    · rw [flat_next L k _ (List.getElem?_eq_getElem h1), List.length_append, Nat.succ_mul]
      have := h _ (List.getElem_mem h1)
      omega
    · rw [List.take_of_length_le (by omega)]
      rw [List.take_of_length_le h1] at ih
      rw [Nat.succ_mul]
      omega
end Go.Proofs.Ytiblpdjehknbcaa.Grd
/- The walks of package grid (the code's): a grid is a block of its rows, columns and one row of all cells. -/
namespace Go.Proofs.Ytiblpdjehknbcaa.Grd
open Go Go.RowKit Lw
set_option linter.unusedVariables false
set_option linter.unusedSimpArgs false
/-- A grid of the code at p, in the blocks F: m rows, n columns, the numbers L. -/
def PG (w : World) (p : Addr) (F : Nat → Prop) (m n : Nat) (L : List (List Int)) : Prop :=
  Dims m n L ∧ ∃ (b g cap : Nat), p = ⟨b, 0, none⟩ ∧ w.heap[b]? = some (.cells #[.int .i64 m, .int .i64 n, .slice (some ⟨g, 0, none⟩) (m * n) cap] 111 (0, 0)) ∧ Ord.Mid w g 0 L.flatten ∧ m * n ≤ cap ∧ cap ≤ maxLen ∧ b ≠ g ∧ F = (fun k => k = b ∨ k = g)
theorem PG.dims {w : World} {p : Addr} {F : Nat → Prop} {m n : Nat} {L : List (List Int)} (h : PG w p F m n L) : Dims m n L := h.1
theorem size_of_heap {w : World} {b : Nat} {o : Obj} (h : w.heap[b]? = some o) : b < w.heap.size := by
  rcases Nat.lt_or_ge b w.heap.size with h1 | h1
  · exact h1
  · rw [Array.getElem?_eq_none h1] at h; cases h
def pgT (p : Addr) (F : Nat → Prop) (m n : Nat) (L : List (List Int)) : Thing where
  I := fun w => PG w p F m n L
  F := F
  keep := fun w w' H h hk hf => by
    obtain ⟨hd, b, g, cap, rfl, hb, hm, h1, h2, h3, rfl⟩ := h
    exact ⟨hd, b, g, cap, rfl, hk.heap hb (hf b (.inl rfl)), hm.keep hk (hf g (.inr rfl)), h1, h2, h3, rfl⟩
  lt := fun w h k hk => by
    obtain ⟨hd, b, g, cap, rfl, hb, hm, h1, h2, h3, rfl⟩ := h
    rcases hk with rfl | rfl
    · exact size_of_heap hb
    · exact hm.lt
theorem clamped_any (n M : Int) (m : Nat) (w : World) (hM : M = m) (n0 : -9223372036854775808 ≤ n) (n1 : n ≤ 9223372036854775807) (hm : m ≤ 128) :
    Calls Try.prog 45 #[.int .i64 n, .int .i64 M] w fun e w' => e = .returned (.int .i64 (cl n m)) ∧ w' = w := by
  go_enter Try.func45, Try.ntmps45
  go_wp2
  all_goals
    go_ret
    refine ⟨ret_i ?_, rfl⟩
    unfold cl
    omega
theorem cl_le (n : Int) (m : Nat) : cl n m ≤ m := by unfold cl; omega
theorem zeros_flat2 (m n : Nat) : (zerosL m n).flatten = List.replicate (m * n) 0 := by
  unfold zerosL
  rw [List.flatten_replicate_replicate]
theorem mid_made (w : World) (q : Nat) (e : TypeId) : Ord.Mid (w.alloc (.cells (madeCells #[.int .i64 0] q) e)) w.heap.size 0 (List.replicate q 0) := by
  refine ⟨_, _, heap_alloc_new w _, fun j v hv => ?_⟩
  have h2 := toList_madeCells_one (.int .i64 0) q
  rw [List.getElem?_replicate] at hv
  split at hv
  · rename_i hj
    injection hv with hv
    subst hv
    rw [← Array.getElem?_toList, h2, Nat.zero_add, List.getElem?_replicate, if_pos hj]
  · cases hv
set_option maxRecDepth 100000 in
theorem new_any (rows width : Int) (w : World) (r0 : -9223372036854775808 ≤ rows) (r1 : rows ≤ 9223372036854775807) (c0 : -9223372036854775808 ≤ width) (c1 : width ≤ 9223372036854775807) :
    Calls Try.prog 40 #[.int .i64 rows, .int .i64 width] w fun e w' => ∃ (p : Addr) (F : Nat → Prop), e = .returned (.pointer (some p)) ∧ PG w' p F (cl rows 8) (cl width 128) (zerosL (cl rows 8) (cl width 128)) ∧ (∀ k, F k → w.heap.size ≤ k) ∧ Below w.heap.size w w' := by
  obtain ⟨i0, hi, hz0, hz1, hz2⟩ := info_parts i64_info
  obtain ⟨m, hm⟩ : ∃ m, m = cl rows 8 := ⟨_, rfl⟩
  obtain ⟨n, hn⟩ : ∃ n, n = cl width 128 := ⟨_, rfl⟩
  have m8 : m ≤ 8 := hm ▸ cl_le rows 8
  have n128 : n ≤ 128 := hn ▸ cl_le width 128
  have C1 := Lib.hid (fun w => hm ▸ clamped_any rows 8 8 w rfl r0 r1 (by omega))
  have C2 := Lib.hid (fun w => hn ▸ clamped_any width 128 128 w rfl c0 c1 (by omega))
  rw [← hm, ← hn]
  obtain ⟨q, hq⟩ : ∃ q, q = m * n := ⟨_, rfl⟩
  have hqi : (m : Int) * n = (q : Int) := by rw [hq]; simp
  have hq1 : q ≤ 1024 := by rw [hq]; exact Nat.le_trans (Nat.mul_le_mul m8 n128) (by decide)
  have HD := Lib.hid (dims_zeros m8 n128)
  have HZ := Lib.hid (zeros_flat2 m n)
  have HQ := Lib.hid hq
  clear hm hn hq
  have hmk : ∀ w, (Instr.makeSlice 109 (.int .i64 (q : Int)) (.int .i64 (q : Int))).run Try.prog w = .ok (.slice (some ⟨w.heap.size, 0, none⟩) q q) (w.alloc (.cells (madeCells #[.int .i64 0] q) 2)) := by
    intro w
    have h := run_make (P := Try.prog) w 109 2 i0 (.int .i64 0) i64s_u hi hz0 .i64 .i64 q q (by omega) (Int.le_refl _) (by rw [hz2]; omega) (by omega)
    rw [hz1] at h
    simpa [Value.cells] using h
  clear hi hz0 hz1 hz2
  go_enter Try.func40, Try.ntmps40
  go_wp2_with (go_at_call 45; (first | with_reducible refine (C1.out _).mono ?_ | with_reducible refine (C2.out _).mono ?_); rintro e w' ⟨rfl, rfl⟩)
  go_ret
  have hb1 := Lw.below_alloc (Below.refl w'.heap.size w') (.cells (madeCells #[.int .i64 0] q) 2)
  have hb2 := hb1.alloc hb1.size (.cells #[.int .i64 m, .int .i64 n, .slice (some ⟨w'.heap.size, 0, none⟩) q q] 111)
  have hm := mid_made w' q 2
  refine ⟨⟨w'.heap.size + 1, 0, none⟩, fun k => k = w'.heap.size + 1 ∨ k = w'.heap.size, rfl, ⟨HD.out, w'.heap.size + 1, w'.heap.size, q, rfl, ?_, ?_, by rw [HQ.out]; exact Nat.le_refl _, by unfold maxLen; omega, by omega, rfl⟩, fun k hk => by omega, hb2⟩
  · have h := heap_alloc_new (w'.alloc (.cells (madeCells #[.int .i64 0] q) 2)) (.cells #[.int .i64 m, .int .i64 n, .slice (some ⟨w'.heap.size, 0, none⟩) q q] 111)
    rw [World.size_alloc, HQ.out] at h
    rw [HQ.out]
    exact h
  · rw [HZ.out, ← HQ.out]
    exact hm.up (Lw.below_alloc (Below.refl _ _) _)
theorem grd_cell {w : World} {b : Nat} {vs : Array Value} {e : TypeId} (h : w.heap[b]? = some (.cells vs e (0, 0))) (i : Nat) {v : Value} (hv : vs[i]? = some v) : w.cell? ⟨b, i, none⟩ = some v := by simp [World.cell?, h, hv]
theorem grd_frozen {w : World} {b : Nat} {vs : Array Value} {e : TypeId} (h : w.heap[b]? = some (.cells vs e (0, 0))) (i : Nat) : w.frozen? ⟨b, i, none⟩ = false := by simp [World.frozen?, h]
theorem rows_eq (p : Addr) (F : Nat → Prop) (m n : Nat) (L : List (List Int)) (w : World) (h : PG w p F m n L) :
    Calls Try.prog 86 #[.pointer (some p)] w fun e w' => e = .returned (.int .i64 m) ∧ w' = w := by
  obtain ⟨hd, b, g, cap, rfl, hb, -⟩ := h
  have c0 := grd_cell hb 0 (v := .int .i64 m) rfl
  clear hd hb
  go_enter Try.func86, Try.ntmps86
  go_wp2
  go_ret
  exact ⟨rfl, rfl⟩
theorem width_eq (p : Addr) (F : Nat → Prop) (m n : Nat) (L : List (List Int)) (w : World) (h : PG w p F m n L) :
    Calls Try.prog 111 #[.pointer (some p)] w fun e w' => e = .returned (.int .i64 n) ∧ w' = w := by
  obtain ⟨hd, b, g, cap, rfl, hb, -⟩ := h
  have c0 := grd_cell hb 1 (v := .int .i64 n) rfl
  clear hd hb
  go_enter Try.func111, Try.ntmps111
  go_wp2
  go_ret
  exact ⟨rfl, rfl⟩
theorem rows_any (p : Addr) (F : Nat → Prop) (m n : Nat) (L : List (List Int)) (w : World) (h : PG w p F m n L) :
    Calls Try.prog 86 #[.pointer (some p)] w fun e w' => e = .returned (.int .i64 m) ∧ Below w.heap.size w w' :=
  (rows_eq p F m n L w h).mono fun e w' h => ⟨h.1, h.2 ▸ Below.refl _ _⟩
theorem width_any (p : Addr) (F : Nat → Prop) (m n : Nat) (L : List (List Int)) (w : World) (h : PG w p F m n L) :
    Calls Try.prog 111 #[.pointer (some p)] w fun e w' => e = .returned (.int .i64 n) ∧ Below w.heap.size w w' :=
  (width_eq p F m n L w h).mono fun e w' h => ⟨h.1, h.2 ▸ Below.refl _ _⟩
/-! ### The cells one behind the other -/
theorem flat_get {n : Nat} : ∀ {L : List (List Int)} (k j : Nat), (∀ r ∈ L, r.length = n) → k < L.length → j < n → L.flatten[k * n + j]? = (L[k]?.getD [])[j]?
  | [], k, j, _, hk, _ => by simp at hk
  | r :: L, 0, j, hr, _, hj => by
    have h := hr r (by simp)
    rw [List.flatten_cons, Nat.zero_mul, Nat.zero_add, List.getElem?_append_left (by omega)]
    rfl
  | r :: L, k + 1, j, hr, hk, hj => by
    have h := hr r (by simp)
    have ih := flat_get (L := L) k j (fun q hq => hr q (by simp [hq])) (by simpa using hk) hj
    have e : (k + 1) * n + j - r.length = k * n + j := by rw [Nat.succ_mul]; omega
    rw [List.flatten_cons, List.getElem?_append_right (by rw [Nat.succ_mul]; omega), e, ih]
    rfl
theorem flat_set {n : Nat} (x : Int) : ∀ {L : List (List Int)} (k j : Nat), (∀ r ∈ L, r.length = n) → j < n → (L.modify k (fun r => r.set j x)).flatten = L.flatten.set (k * n + j) x ∨ L.length ≤ k
  | [], k, j, _, _ => .inr (Nat.zero_le _)
  | r :: L, 0, j, hr, hj => by
    left
    have h := hr r (by simp)
    simp only [List.modify_zero_cons, List.flatten_cons, Nat.zero_mul, Nat.zero_add]
    rw [List.set_append_left _ _ (by omega)]
  | r :: L, k + 1, j, hr, hj => by
    have h := hr r (by simp)
    rcases flat_set x (L := L) k j (fun q hq => hr q (by simp [hq])) hj with ih | ih
    · left
      have e : (k + 1) * n + j - r.length = k * n + j := by rw [Nat.succ_mul]; omega
      simp only [List.modify_succ_cons, List.flatten_cons]
      rw [ih, List.set_append_right _ _ (by rw [Nat.succ_mul]; omega), e]
    · right; simp; omega
theorem flat_at {m n : Nat} {L : List (List Int)} (h : Dims m n L) {row col : Int} (r0 : 0 ≤ row) (r1 : row < m) (c0 : 0 ≤ col) (c1 : col < n) : L.flatten[row.toNat * n + col.toNat]? = some (at2 L row col) := by
  have hk : row.toNat < L.length := by rw [h.len]; omega
  have hl : (L[row.toNat]?.getD []).length = n := by
    rw [List.getElem?_eq_getElem hk]
    exact (h.rows _ (List.getElem_mem hk)).1
  rw [flat_get _ _ (fun r hr => (h.rows r hr).1) hk (by omega)]
  unfold at2
  rw [if_neg (by omega), List.getElem?_eq_getElem (by omega)]
  rfl
theorem flat_put {m n : Nat} {L : List (List Int)} (h : Dims m n L) {row col : Int} (x : Int) (r0 : 0 ≤ row) (r1 : row < m) (c0 : 0 ≤ col) (c1 : col < n) : (setL L row col x).flatten = L.flatten.set (row.toNat * n + col.toNat) x := by
  have hin : in2 L row col = true := by rw [in2_dims h]; exact decide_eq_true ⟨r0, r1, c0, c1⟩
  unfold setL
  rw [if_pos hin]
  rcases flat_set x row.toNat col.toNat (fun r hr => (h.rows r hr).1) (by omega) with e | e
  · exact e
  · rw [h.len] at e; omega
theorem place_bd {m n : Nat} {row col : Int} (m8 : m ≤ 8) (n128 : n ≤ 128) (r0 : 0 ≤ row) (r1 : row < m) (c0 : 0 ≤ col) (c1 : col < n) : 0 ≤ row * n ∧ row * n ≤ 1024 ∧ row * n + col < (m * n : Nat) ∧ row * n + col = ((row.toNat * n + col.toNat : Nat) : Int) := by
  obtain ⟨r, rfl⟩ : ∃ r : Nat, row = r := ⟨row.toNat, by omega⟩
  have h1 : (r + 1) * n ≤ m * n := Nat.mul_le_mul_right _ (by omega)
  have h2 : m * n ≤ 8 * 128 := Nat.mul_le_mul m8 n128
  rw [Nat.succ_mul] at h1
  have e : (r : Int) * n = ((r * n : Nat) : Int) := by simp
  simp only [e, Int.toNat_natCast]
  omega
/-- Where a cell stands. -/
def plc (n : Nat) (row col : Int) (b : Bool) : Int := if b = true then row * n + col else 0
theorem place_any (p : Addr) (F : Nat → Prop) (m n : Nat) (L : List (List Int)) (row col : Int) (w : World) (h : PG w p F m n L)
    (r0 : -9223372036854775808 ≤ row) (r1 : row ≤ 9223372036854775807) (c0 : -9223372036854775808 ≤ col) (c1 : col ≤ 9223372036854775807) :
    Calls Try.prog 75 #[.pointer (some p), .int .i64 row, .int .i64 col] w fun e w' => e = .returned (.tuple #[.int .i64 (plc n row col (in2 L row col)), .bool (in2 L row col)]) ∧ w' = w := by
  have e := in2_dims h.1 row col
  have m8 := h.1.m8
  have n128 := h.1.n128
  obtain ⟨hd, b, g, cap, rfl, hb, -⟩ := h
  have k0 := grd_cell hb 0 (v := .int .i64 m) rfl
  have k1 := grd_cell hb 1 (v := .int .i64 n) rfl
  clear hd hb
  by_cases h1 : row < 0
  · have e2 : in2 L row col = false := by rw [e]; exact decide_eq_false (by omega)
    rw [e2]
    clear e e2
    go_enter Try.func75, Try.ntmps75
    go_wp2
    go_ret2
    exact ⟨rfl, rfl⟩
  by_cases h2 : (m : Int) ≤ row
  · have e2 : in2 L row col = false := by rw [e]; exact decide_eq_false (by omega)
    rw [e2]
    clear e e2
    go_enter Try.func75, Try.ntmps75
    go_wp2
    go_ret2
    exact ⟨rfl, rfl⟩
  by_cases h3 : col < 0
  · have e2 : in2 L row col = false := by rw [e]; exact decide_eq_false (by omega)
    rw [e2]
    clear e e2
    go_enter Try.func75, Try.ntmps75
    go_wp2
    go_ret2
    exact ⟨rfl, rfl⟩
  by_cases h4 : (n : Int) ≤ col
  · have e2 : in2 L row col = false := by rw [e]; exact decide_eq_false (by omega)
    rw [e2]
    clear e e2
    go_enter Try.func75, Try.ntmps75
    go_wp2
    go_ret2
    exact ⟨rfl, rfl⟩
  have e2 : in2 L row col = true := by rw [e]; exact decide_eq_true (by omega)
  rw [e2]
  obtain ⟨p0, p1, p2, p3⟩ := place_bd (row := row) (col := col) m8 n128 (by omega) (by omega) (by omega) (by omega)
  clear e e2 p2 p3
  go_enter Try.func75, Try.ntmps75
  go_wp2
  go_ret2
  exact ⟨rfl, rfl⟩
theorem at_no {L : List (List Int)} {m n : Nat} (h : Dims m n L) {row col : Int} (hi : in2 L row col = false) : at2 L row col = 0 := by
  apply at2_out
  rw [in2_dims h] at hi
  have hi := of_decide_eq_false hi
  rw [h.len]
  by_cases h1 : 0 ≤ row ∧ row < m
  · have h2 : row.toNat < L.length := by rw [h.len]; omega
    have e : (L[row.toNat]?.getD []).length = n := by
      rw [List.getElem?_eq_getElem h2]
      exact (h.rows _ (List.getElem_mem h2)).1
    rw [e]
    omega
  · omega
theorem at_any (p : Addr) (F : Nat → Prop) (m n : Nat) (L : List (List Int)) (row col : Int) (w : World) (h : PG w p F m n L)
    (r0 : -9223372036854775808 ≤ row) (r1 : row ≤ 9223372036854775807) (c0 : -9223372036854775808 ≤ col) (c1 : col ≤ 9223372036854775807) :
    Calls Try.prog 71 #[.pointer (some p), .int .i64 row, .int .i64 col] w fun e w' => e = .returned (.int .i64 (at2 L row col)) ∧ Below w.heap.size w w' := by
  have C := Lib.hid (place_any p F m n L row col w h r0 r1 c0 c1)
  have hd := h.1
  obtain ⟨-, b, g, cap, rfl, hb, hm, hc, hx, -⟩ := h
  have k2 := grd_cell hb 2 (v := .slice (some ⟨g, 0, none⟩) (m * n) cap) rfl
  have hmn : m * n ≤ 1024 := Nat.mul_le_mul hd.m8 hd.n128
  obtain ⟨q, hq⟩ : ∃ q, q = m * n := ⟨_, rfl⟩
  rw [← hq] at k2 hmn hc
  cases hi : in2 L row col with
  | false =>
    have e := at_no hd hi
    rw [hi] at C
    rw [e]
    clear hd hm hb hi e hq
    go_enter Try.func71, Try.ntmps71
    go_wp2_with (go_at_call 75; ((with_reducible refine C.out.mono ?_)); rintro e w' ⟨rfl, rfl⟩)
    go_ret
    exact ⟨rfl, Below.refl _ _⟩
  | true =>
    have hi2 := hi
    rw [in2_dims hd] at hi2
    obtain ⟨g0, g1, g2, g3⟩ := of_decide_eq_true hi2
    obtain ⟨p0, p1, p2, p3⟩ := place_bd hd.m8 hd.n128 g0 g1 g2 g3
    have hv := flat_at hd g0 g1 g2 g3
    obtain ⟨ad, had⟩ : ∃ ad : Addr, (⟨g, 0, none⟩ : Addr) = ad := ⟨_, rfl⟩
    have hcell := hm.rd.at hv
    obtain ⟨k, hk⟩ : ∃ k, k = row.toNat * n + col.toNat := ⟨_, rfl⟩
    rw [← hk] at hcell p3
    have hkq : k < q := by omega
    have e1 : plc n row col true = k := p3
    rw [hi, e1] at C
    rw [had] at k2 hcell
    clear hd hm hb hi hi2 e1 p0 p1 p2 p3 hv had hk hq
    go_enter Try.func71, Try.ntmps71
    go_wp2_with (go_at_call 75; ((with_reducible refine C.out.mono ?_)); rintro e w' ⟨rfl, rfl⟩)
    go_ret
    exact ⟨rfl, Below.refl _ _⟩
theorem put_any (p : Addr) (F : Nat → Prop) (m n : Nat) (L : List (List Int)) (row col x : Int) (w : World) (h : PG w p F m n L)
    (r0 : -9223372036854775808 ≤ row) (r1 : row ≤ 9223372036854775807) (c0 : -9223372036854775808 ≤ col) (c1 : col ≤ 9223372036854775807) (x0 : -9223372036854775808 ≤ x) (x1 : x ≤ 9223372036854775807) :
    Calls Try.prog 72 #[.pointer (some p), .int .i64 row, .int .i64 col, .int .i64 x] w fun e w' => e = .returned (.bool (in2 L row col)) ∧ ∃ F', PG w' p F' m n (setL L row col x) ∧ Kept F w w' ∧ (∀ k, F' k → F k ∨ w.heap.size ≤ k) := by
  have C := Lib.hid (place_any p F m n L row col w h r0 r1 c0 c1)
  have HP := Lib.hid h
  have hd := h.1
  obtain ⟨-, b, g, cap, rfl, hb, hm, hc, hx, hbg, rfl⟩ := h
  have k2 := grd_cell hb 2 (v := .slice (some ⟨g, 0, none⟩) (m * n) cap) rfl
  have hmn : m * n ≤ 1024 := Nat.mul_le_mul hd.m8 hd.n128
  obtain ⟨q, hq⟩ : ∃ q, q = m * n := ⟨_, rfl⟩
  rw [← hq] at k2 hmn hc
  cases hi : in2 L row col with
  | false =>
    have e : setL L row col x = L := by unfold setL; rw [hi]; rfl
    rw [hi] at C
    rw [e]
    clear hd hm hb hi e hq
    go_enter Try.func72, Try.ntmps72
    go_wp2_with (go_at_call 75; ((with_reducible refine C.out.mono ?_)); rintro e w' ⟨rfl, rfl⟩)
    go_ret
    exact ⟨rfl, _, HP.out, Kept.refl _ _, fun k hk => .inl hk⟩
  | true =>
    have hi2 := hi
    rw [in2_dims hd] at hi2
    obtain ⟨g0, g1, g2, g3⟩ := of_decide_eq_true hi2
    obtain ⟨p0, p1, p2, p3⟩ := place_bd hd.m8 hd.n128 g0 g1 g2 g3
    have hv := flat_at hd g0 g1 g2 g3
    have hs := flat_put hd x g0 g1 g2 g3
    obtain ⟨ad, had⟩ : ∃ ad : Addr, (⟨g, 0, none⟩ : Addr) = ad := ⟨_, rfl⟩
    have hcell := hm.rd.at hv
    obtain ⟨k, hk⟩ : ∃ k, k = row.toNat * n + col.toNat := ⟨_, rfl⟩
    rw [← hk] at hcell p3 hs
    have hset := hm.set k x
    have hfz := hm.frozen (0 + k)
    have hkept : Kept (fun q => q = b ∨ q = g) w (w.setCell ⟨g, 0 + k, none⟩ (.int .i64 x)) := (Kept.refl _ w).set (.inl (.inr rfl)) _ _
    have hb2 : (w.setCell ⟨g, 0 + k, none⟩ (.int .i64 x)).heap[b]? = some (.cells #[.int .i64 m, .int .i64 n, .slice (some ⟨g, 0, none⟩) (m * n) cap] 111 (0, 0)) := ((Kept.refl (fun q => q = g) w).set (.inl rfl) _ _).heap hb hbg
    have HE : Hid (PG (w.setCell ⟨g, 0 + k, none⟩ (.int .i64 x)) ⟨b, 0, none⟩ (fun q => q = b ∨ q = g) m n (setL L row col x)) := Lib.hid ⟨hd.set row col x0 x1, b, g, cap, rfl, hb2, by rw [hs]; exact hset, by rw [← hq]; exact hc, hx, hbg, rfl⟩
    have HK := Lib.hid hkept
    have hkq : k < q := by omega
    have e1 : plc n row col true = k := p3
    rw [hi, e1] at C
    rw [← Ord.add_at, had] at hfz HE HK
    rw [had] at k2 hcell
    clear hd hm hb hi hi2 e1 p0 p1 p2 p3 hv had hk hq hset hkept hs hb2
    go_enter Try.func72, Try.ntmps72
    go_wp2_with (go_at_call 75; ((with_reducible refine C.out.mono ?_)); rintro e w' ⟨rfl, rfl⟩)
    go_ret
    exact ⟨rfl, _, HE.out, HK.out, fun k hk => .inl hk⟩
theorem mid_row {w : World} {g : Nat} {Z : List Int} (h : Ord.Mid w g 0 Z) : Row1 w (some ⟨g, 0, none⟩) Z := ⟨(fun h => by cases h), fun a ha => by injection ha with ha; exact ⟨g, 0, ha.symm, h⟩⟩
theorem pg_drewN {w : World} {p : Addr} {F : Nat → Prop} {m n : Nat} {L : List (List Int)} (h : PG w p F m n L) (d : Nat) : PG (w.drewN d) p F m n L :=
  (pgT p F m n L).keep w _ (fun _ => False) h (Kept.of_below (below_drewN (Below.refl _ _) d)) (fun _ _ h => h)
theorem pg_drew {w : World} {p : Addr} {F : Nat → Prop} {m n : Nat} {L : List (List Int)} (h : PG w p F m n L) : PG w.drew p F m n L :=
  (pgT p F m n L).keep w _ (fun _ => False) h (Kept.of_below (Below.drew (Below.refl _ _))) (fun _ _ h => h)
theorem pg_alloc {w : World} {p : Addr} {F : Nat → Prop} {m n : Nat} {L : List (List Int)} (h : PG w p F m n L) (o : Obj) : PG (w.alloc o) p F m n L :=
  (pgT p F m n L).keep w _ (fun _ => False) h (Kept.of_below (Lw.below_alloc (Below.refl _ _) o)) (fun _ _ h => h)
theorem pg_up {w w' : World} {p : Addr} {F : Nat → Prop} {m n : Nat} {L : List (List Int)} (h : PG w p F m n L) (hb : Below w.heap.size w w') : PG w' p F m n L :=
  (pgT p F m n L).keep w _ (fun _ => False) h (Kept.of_below hb) (fun _ _ h => h)
end Go.Proofs.Ytiblpdjehknbcaa.Grd
/- The walk of the document's own answer Join for layer 6. Printed by wip/gen/grdjoin.py. -/
namespace Go.Proofs.Ytiblpdjehknbcaa.Grd
open Go Go.RowKit Lw
set_option linter.unusedVariables false
theorem own_slice {w : World} {B : Nat} {e : TypeId} {size : Nat} {v : Value} {n : Nat} {xs : List Value} (h : w.ownsRow B e size v n xs) : ∃ A c, v = .slice A n c := by
  rcases h.2 with ⟨h1, h2⟩ | ⟨g, cap, cur, h1, _⟩
  · exact ⟨none, 0, by rw [h1, h2]⟩
  · exact ⟨_, _, h1⟩
/-- Rows of one's own, behind a slice of headers. -/
structure RO (w : World) (B : Nat) (hdr : Value) (R : List Row) : Prop where
  outer : w.ownsRow B 109 1 hdr R.length (R.map rowHd)
  rows : ∀ r ∈ R, w.ownsRow B 2 1 (rowHd r) r.2.2.length (r.2.2.map (Value.int .i64))
  apart : ∀ r ∈ R, hdr.ownBlock ≠ some r.1
  nd : (R.map (·.1)).Nodup
theorem RO.push {w w4 : World} {B : Nat} {hdr hdr' : Value} {R : List Row} {g c : Nat} {zs : List Int} (h : RO w B hdr R) (hk : Kept (fun q => hdr.ownBlock = some q) w w4)
    (ho : w4.ownsRow B 109 1 hdr' (R.length + 1) (R.map rowHd ++ [rowHd (g, c, zs)]))
    (hr : w4.ownsRow B 2 1 (rowHd (g, c, zs)) zs.length (zs.map (Value.int .i64))) (hg : w.heap.size ≤ g)
    (hh : hdr'.ownBlock = hdr.ownBlock ∨ ∃ q, hdr'.ownBlock = some q ∧ w.heap.size ≤ q ∧ q ≠ g) : RO w4 B hdr' (R ++ [(g, c, zs)]) := by
  have hold : ∀ q, hdr.ownBlock = some q → q < w.heap.size := fun q hq => own_lt h.outer hq
  have hrow : ∀ r ∈ R, r.1 < w.heap.size := fun r hr => own_lt (h.rows r hr) rfl
  refine ⟨by simpa using ho, ?_, ?_, ?_⟩
  · intro r hrm
    rcases List.mem_append.1 hrm with h1 | h1
    · exact hk.own (h.rows r h1) (fun q hq e => by
        simp [rowHd, Value.ownBlock] at hq
        exact h.apart r h1 (by rw [hq, e]))
    · simp at h1
      subst h1
      exact hr
  · intro r hrm
    rcases List.mem_append.1 hrm with h1 | h1
    · rcases hh with h2 | ⟨q, h2, h3, h4⟩
      · rw [h2]; exact h.apart r h1
      · rw [h2]; intro e; injection e with e; have := hrow r h1; omega
    · simp at h1
      subst h1
      rcases hh with h2 | ⟨q, h2, h3, h4⟩
      · rw [h2]; intro e; have := hold _ e; simp only at this; omega
      · rw [h2]; intro e; injection e with e; exact h4 e
  · rw [List.map_append, List.nodup_append]
    refine ⟨h.nd, by simp, ?_⟩
    intro x hx y hy e
    simp at hy
    subst hy
    subst e
    obtain ⟨r, hr, e⟩ := List.mem_map.1 hx
    have := hrow r hr
    omega
theorem RO.keep {F : Nat → Prop} {w w' : World} {B : Nat} {hdr : Value} {R : List Row} (h : RO w B hdr R) (k : Kept F w w') (hf : ∀ q, B ≤ q → ¬ F q) : RO w' B hdr R where
  outer := k.own h.outer (fun q hq => hf q (own_ge h.outer q hq))
  rows := fun r hr => k.own (h.rows r hr) (fun q hq => hf q (own_ge (h.rows r hr) q hq))
  apart := h.apart
  nd := h.nd
theorem rowS_next (s : Int) (xs ys : List Int) (j : Nat) (x y : Int) (hx : xs[j]? = some x) (hy : ys[j]? = some y) : rowS s (xs.take (j + 1)) (ys.take (j + 1)) = rowS s (xs.take j) (ys.take j) ++ [x + s * y] := by
  unfold rowS
  rw [List.take_add_one, List.take_add_one, hx, hy]
  have h1 := (List.getElem?_eq_some_iff.1 hx).1
  have h2 := (List.getElem?_eq_some_iff.1 hy).1
  rw [List.zipWith_append (by simp; omega)]
  rfl
theorem gridS_next (s : Int) (L M : List (List Int)) (k : Nat) (x y : List Int) (hx : L[k]? = some x) (hy : M[k]? = some y) : gridS s (L.take (k + 1)) (M.take (k + 1)) = gridS s (L.take k) (M.take k) ++ [rowS s x y] := by
  unfold gridS
  rw [List.take_add_one, List.take_add_one, hx, hy]
  have h1 := (List.getElem?_eq_some_iff.1 hx).1
  have h2 := (List.getElem?_eq_some_iff.1 hy).1
  rw [List.zipWith_append (by simp; omega)]
  rfl
theorem not_fits {s : Int} {L M : List (List Int)} {k j : Nat} {xs ys : List Int} {x y : Int} (hL : L[k]? = some xs) (hM : M[k]? = some ys) (hx : xs[j]? = some x) (hy : ys[j]? = some y) (hf : Wid.fit64 (x + s * y) = false) : fitsAll (gridS s L M) = false := by
  unfold fitsAll
  rw [List.all_eq_false]
  refine ⟨rowS s xs ys, ?_, ?_⟩
  · refine List.mem_of_getElem? (i := k) ?_
    unfold gridS
    rw [List.getElem?_zipWith, hL, hM]
  · rw [Bool.not_eq_true, List.all_eq_false]
    refine ⟨x + s * y, ?_, by simp [hf]⟩
    refine List.mem_of_getElem? (i := j) ?_
    unfold rowS
    rw [List.getElem?_zipWith, hx, hy]
end Go.Proofs.Ytiblpdjehknbcaa.Grd
/- The document's grid as a thing: what its calls answer, and turn. -/
namespace Go.Proofs.Ytiblpdjehknbcaa.Grd
open Go Go.RowKit Lw
set_option linter.unusedVariables false
theorem nums_len (R : List Row) : (nums R).length = R.length := by simp [nums]
theorem nums_mem {R : List Row} {r : Row} (h : r ∈ R) : r.2.2 ∈ nums R := List.mem_map.2 ⟨r, h, rfl⟩
theorem DG.sizes {R : List Row} {m n : Nat} (hd : Dims m n (nums R)) : R.length ≤ 8 ∧ (∀ r ∈ R, r.2.2.length ≤ 128) ∧ (∀ r ∈ R, In64 r.2.2) := by
  refine ⟨by rw [← nums_len, hd.len]; exact hd.m8, fun r hr => ?_, fun r hr => (hd.rows _ (nums_mem hr)).2⟩
  rw [(hd.rows _ (nums_mem hr)).1]
  exact hd.n128
end Go.Proofs.Ytiblpdjehknbcaa.Grd
/- The walks of package grid (the code's): a grid that another one is put to: Plus, Minus. -/
namespace Go.Proofs.Ytiblpdjehknbcaa.Grd
open Go Go.RowKit Lw
set_option linter.unusedVariables false
set_option linter.unusedSimpArgs false
/-- Below, of a world that is drawn, allotted, grown. -/
theorem jplus (a b : Int) (w : World) (a0 : -9223372036854775808 ≤ a) (a1 : a ≤ 9223372036854775807) (b0 : -9223372036854775808 ≤ b) (b1 : b ≤ 9223372036854775807) :
    Calls Try.prog 74 #[.int .i64 a, .int .i64 b] w fun e w' => e = .returned (.tuple #[.int .i64 (Wid.f64 (a + 1 * b)), .bool (Wid.fit64 (a + 1 * b))]) ∧ Below w.heap.size w w' := by
  rw [Int.one_mul]
  exact Wid.plus_any a b w a0 a1 b0 b1
theorem jminus (a b : Int) (w : World) (a0 : -9223372036854775808 ≤ a) (a1 : a ≤ 9223372036854775807) (b0 : -9223372036854775808 ≤ b) (b1 : b ≤ 9223372036854775807) :
    Calls Try.prog 39 #[.int .i64 a, .int .i64 b] w fun e w' => e = .returned (.tuple #[.int .i64 (Wid.f64 (a + (-1) * b)), .bool (Wid.fit64 (a + (-1) * b))]) ∧ Below w.heap.size w w' := by
  have e : a + (-1) * b = a - b := by omega
  rw [e]
  exact Wid.minus_any a b w a0 a1 b0 b1
theorem flat_join {s : Int} {n : Nat} : ∀ {L M : List (List Int)}, (∀ r ∈ L, r.length = n) → (∀ r ∈ M, r.length = n) → L.length = M.length → (gridS s L M).flatten = rowS s L.flatten M.flatten
  | [], [], _, _, _ => rfl
  | [], _ :: _, _, _, h => by simp at h
  | _ :: _, [], _, _, h => by simp at h
  | x :: xs, y :: ys, h1, h2, h => by
    have ih := flat_join (s := s) (L := xs) (M := ys) (fun r hr => h1 r (by simp [hr])) (fun r hr => h2 r (by simp [hr])) (by simpa using h)
    have hl : x.length = y.length := by rw [h1 x (by simp), h2 y (by simp)]
    unfold gridS rowS at ih ⊢
    simp only [List.zipWith_cons_cons, List.flatten_cons, ih]
    rw [List.zipWith_append hl]
theorem join_dims {m n : Nat} {L M : List (List Int)} (h : Dims m n L) (g : Dims m n M) (s : Int) : (gridS s L M).flatten = rowS s L.flatten M.flatten :=
  flat_join (fun r hr => (h.rows r hr).1) (fun r hr => (g.rows r hr).1) (by rw [h.len, g.len])
theorem flat_fits (J : List (List Int)) : fitsAll J = J.flatten.all Wid.fit64 := by
  unfold fitsAll
  rw [List.all_flatten]
theorem flat_in64 {m n : Nat} {L : List (List Int)} (h : Dims m n L) : In64 L.flatten := by
  intro v hv
  obtain ⟨r, hr, hv⟩ := List.mem_flatten.1 hv
  exact (h.rows r hr).2 v hv
theorem kept_low {w w2 w5 : World} {g : Nat} (h : Kept (fun q => q = g) w2 w5) (hb : Below w.heap.size w w2) (hg : w.heap.size < g) : Below w.heap.size w w5 :=
  h.low hb hb.size (fun q hq => by omega)
/-- The first k of the numbers X are joined with those of Y. -/
def mix (s : Int) (X Y : List Int) (k : Nat) : List Int := (rowS s X Y).take k ++ X.drop k
theorem mix_start (s : Int) (X Y : List Int) : mix s X Y 0 = X := by simp [mix]
theorem mix_end (s : Int) {X Y : List Int} {q : Nat} (hX : X.length = q) (hY : Y.length = q) : mix s X Y q = rowS s X Y := by
  have h : (rowS s X Y).length = q := by unfold rowS; rw [List.length_zipWith]; omega
  unfold mix
  rw [List.drop_of_length_le (by omega), List.append_nil, List.take_of_length_le (by omega)]
theorem row_get (s : Int) {X Y : List Int} {k : Nat} {x y : Int} (hx : X[k]? = some x) (hy : Y[k]? = some y) : (rowS s X Y)[k]? = some (x + s * y) := by
  unfold rowS
  rw [List.getElem?_zipWith, hx, hy]
theorem mix_len (s : Int) {X Y : List Int} {q k : Nat} (hX : X.length = q) (hY : Y.length = q) (hk : k ≤ q) : ((rowS s X Y).take k).length = k := by
  rw [List.length_take]
  unfold rowS
  rw [List.length_zipWith]
  omega
theorem mix_get (s : Int) {X Y : List Int} {q k : Nat} (hX : X.length = q) (hY : Y.length = q) {x : Int} (hx : X[k]? = some x) : (mix s X Y k)[k]? = some x := by
  have hk : k < X.length := (List.getElem?_eq_some_iff.1 hx).1
  have hl := mix_len s hX hY (k := k) (by omega)
  unfold mix
  rw [List.getElem?_append_right (by omega), List.getElem?_drop, hl]
  simpa using hx
theorem mix_set (s : Int) {X Y : List Int} {q k : Nat} (hX : X.length = q) (hY : Y.length = q) {x y : Int} (hx : X[k]? = some x) (hy : Y[k]? = some y) : (mix s X Y k).set k (x + s * y) = mix s X Y (k + 1) := by
  have hk : k < X.length := (List.getElem?_eq_some_iff.1 hx).1
  have hl := mix_len s hX hY (k := k) (by omega)
  have hg := row_get s hx hy
  have hz : k < (rowS s X Y).length := (List.getElem?_eq_some_iff.1 hg).1
  have he : (rowS s X Y)[k] = x + s * y := (List.getElem?_eq_some_iff.1 hg).2
  unfold mix
  rw [List.set_append_right _ _ (by omega), hl, Nat.sub_self, List.take_succ_eq_append_getElem hz, he, List.append_assoc]
  congr 1
  rw [List.drop_eq_getElem_cons hk]
  rfl
/-- The first k sums fit. -/
def fitK (s : Int) (X Y : List Int) (k : Nat) : Prop := ((rowS s X Y).take k).all Wid.fit64 = true
theorem fitK_next {s : Int} {X Y : List Int} {k : Nat} {x y : Int} (h : fitK s X Y k) (hx : X[k]? = some x) (hy : Y[k]? = some y) (hf : Wid.fit64 (x + s * y) = true) : fitK s X Y (k + 1) := by
  have hg := row_get s hx hy
  have hz : k < (rowS s X Y).length := (List.getElem?_eq_some_iff.1 hg).1
  have he : (rowS s X Y)[k] = x + s * y := (List.getElem?_eq_some_iff.1 hg).2
  unfold fitK at *
  rw [List.take_succ_eq_append_getElem hz, List.all_append, h, he]
  simp [hf]
theorem fitK_no {s : Int} {X Y : List Int} {k : Nat} {x y : Int} (hx : X[k]? = some x) (hy : Y[k]? = some y) (hf : Wid.fit64 (x + s * y) = false) : (rowS s X Y).all Wid.fit64 = false := by
  have hg := row_get s hx hy
  cases h : (rowS s X Y).all Wid.fit64 with
  | false => rfl
  | true =>
    rw [List.all_eq_true] at h
    have := h _ (List.mem_of_getElem? hg)
    rw [hf] at this
    cases this
theorem fitK_all {s : Int} {X Y : List Int} {q : Nat} (hX : X.length = q) (hY : Y.length = q) (h : fitK s X Y q) : (rowS s X Y).all Wid.fit64 = true := by
  unfold fitK at h
  rwa [List.take_of_length_le (by unfold rowS; rw [List.length_zipWith]; omega)] at h
end Go.Proofs.Ytiblpdjehknbcaa.Grd
/- Rows of numbers behind a slice of headers, each read alone: a thing that grows by append. For every stage. -/
namespace Go.Proofs.Ytiblpdjehknbcaa.Lw
open Go Go.RowKit Grd
set_option linter.unusedVariables false
structure RR (w : World) (B : Nat) (eo : TypeId) (hdr : Value) (R : List Row) : Prop where
  outer : w.ownsRow B eo 1 hdr R.length (R.map rowHd)
  rows : ∀ r ∈ R, B ≤ r.1 ∧ r.1 < w.heap.size ∧ r.2.2.length ≤ r.2.1 ∧ r.2.1 ≤ maxLen ∧ hdr.ownBlock ≠ some r.1 ∧ Rd .i64 w (some ⟨r.1, 0, none⟩) r.2.2
def RRF (hdr : Value) (R : List Row) (k : Nat) : Prop := hdr.ownBlock = some k ∨ ∃ r ∈ R, r.1 = k
theorem RR.keep {F : Nat → Prop} {w w' : World} {B : Nat} {eo : TypeId} {hdr : Value} {R : List Row} (h : RR w B eo hdr R) (k : Kept F w w') (hf : ∀ q, RRF hdr R q → ¬ F q) : RR w' B eo hdr R := by
  refine ⟨k.own h.outer (fun q hq => hf q (.inl hq)), fun r hr => ?_⟩
  obtain ⟨h1, h2, h3, h4, h5, h6⟩ := h.rows r hr
  exact ⟨h1, Nat.lt_of_lt_of_le h2 k.size, h3, h4, h5, h6.keep k (fun a ha => by injection ha with ha; subst ha; exact hf r.1 (.inr ⟨r, hr, rfl⟩))⟩
theorem RR.lt {w : World} {B : Nat} {eo : TypeId} {hdr : Value} {R : List Row} (h : RR w B eo hdr R) {k : Nat} (hk : RRF hdr R k) : k < w.heap.size := by
  rcases hk with hk | ⟨r, hr, rfl⟩
  · exact own_lt h.outer hk
  · exact (h.rows r hr).2.1
def rrT (B : Nat) (eo : TypeId) (hdr : Value) (R : List Row) : Thing where
  I := fun w => RR w B eo hdr R
  F := RRF hdr R
  keep := fun w w' H h hk hf => h.keep hk hf
  lt := fun w h k hk => h.lt hk
theorem rr_start (w : World) (B : Nat) (eo : TypeId) : RR w B eo (.slice none 0 0) [] := ⟨⟨by simp, .inl ⟨rfl, rfl⟩⟩, fun r hr => by simp at hr⟩
theorem RR.hd {w : World} {B : Nat} {eo : TypeId} {hdr : Value} {R : List Row} (h : RR w B eo hdr R) : ∃ A cap, hdr = .slice A R.length cap ∧ R.length ≤ cap ∧ cap ≤ maxLen ∧ (A = none → R.length = 0 ∧ cap = 0) ∧ ∀ j r, R[j]? = some r → ∃ ad, A = some ad ∧ w.cell? (ad.add j) = some (rowHd r) := by
  rcases h.outer.2 with ⟨h1, h2⟩ | ⟨g, cap, cur, h1, h2, h3, h4, h5, h6, h7⟩
  · refine ⟨none, 0, by rw [h1, h2], by omega, by simp, fun _ => ⟨h2, rfl⟩, fun j r hj => ?_⟩
    have := (List.getElem?_eq_some_iff.1 hj).1
    omega
  · refine ⟨some ⟨g, 0, none⟩, cap, h1, h4, h5, (fun h => by cases h), fun j r hj => ⟨_, rfl, ?_⟩⟩
    exact h.outer.cells (g := g) (by rw [h1]; rfl) j _ (by rw [List.getElem?_map, hj]; rfl)
/-- A row that was made is put behind the others. -/
theorem RR.push {w1 w4 : World} {B : Nat} {eo : TypeId} {hdr : Value} {R : List Row} {g cap gr c : Nat} {zs : List Int} (h : RR w1 B eo hdr R)
    (ho : w4.ownsRow B eo 1 (.slice (some ⟨g, 0, none⟩) (R.length + 1) cap) (R.length + 1) (R.map rowHd ++ [rowHd (gr, c, zs)]))
    (hk : Kept (fun q => hdr.ownBlock = some q) w1 w4) (hg : hdr.ownBlock = some g ∨ w1.heap.size ≤ g) (hB : B ≤ gr) (hlt : gr < w1.heap.size) (hap : hdr.ownBlock ≠ some gr)
    (hc : zs.length ≤ c) (hm : c ≤ maxLen) (hr : Rd .i64 w1 (some ⟨gr, 0, none⟩) zs) : RR w4 B eo (.slice (some ⟨g, 0, none⟩) (R.length + 1) cap) (R ++ [(gr, c, zs)]) := by
  refine ⟨by simpa using ho, fun r hrm => ?_⟩
  have hown : (Value.slice (some ⟨g, 0, none⟩) (R.length + 1) cap).ownBlock = some g := rfl
  rw [hown]
  rcases List.mem_append.1 hrm with h1 | h1
  · obtain ⟨a1, a2, a3, a4, a5, a6⟩ := h.rows r h1
    refine ⟨a1, Nat.lt_of_lt_of_le a2 hk.size, a3, a4, ?_, a6.keep hk (fun a ha => by injection ha with ha; subst ha; exact a5)⟩
    intro e
    injection e with e
    rcases hg with hg | hg
    · rw [e] at hg; exact a5 hg
    · omega
  · simp at h1
    subst h1
    refine ⟨hB, Nat.lt_of_lt_of_le hlt hk.size, hc, hm, ?_, hr.keep hk (fun a ha => by injection ha with ha; subst ha; exact hap)⟩
    intro e
    injection e with e
    rcases hg with hg | hg
    · rw [e] at hg; exact hap hg
    · simp only at e; omega
theorem rr_of {w0 w : World} {t : Thing} {B : Nat} {eo : TypeId} {hdr : Value} {R : List Row} {ts : List Thing} (h : Have w0 w (t :: rrT B eo hdr R :: ts)) : RR w B eo hdr R := h.2.2.2.1
theorem rr_up {w w' : World} {B : Nat} {eo : TypeId} {hdr : Value} {R : List Row} (h : RR w B eo hdr R) (hb : Below w.heap.size w w') : RR w' B eo hdr R := h.keep (Kept.of_below (F := fun _ => False) hb) (fun _ _ h => h)
/-- A row that was made behind a thing and rows is appended to the rows. -/
theorem Have.row_push {w0 w5 w6 w7 : World} {t : Thing} {ts : List Thing} {B : Nat} {eo : TypeId} {hdr : Value} {R : List Row} {o : Obj} {g6 cap6 m g7 cap7 : Nat} {Z : List Int} (h : Have w0 w5 (t :: rrT B eo hdr R :: ts)) (h6 : Below w5.heap.size w5 w6)
    (hB : B ≤ w5.heap.size) (hg6 : w5.heap.size ≤ g6) (hl6 : g6 < w6.heap.size) (hZ : Z.length = m) (hc : m ≤ cap6) (hm : cap6 ≤ maxLen) (hr : Rd .i64 w6 (some ⟨g6, 0, none⟩) Z)
    (own7 : w7.ownsRow B eo 1 (.slice (some ⟨g7, 0, none⟩) (R.length + 1) cap7) (R.length + 1) (R.map rowHd ++ [.slice (some ⟨g6, 0, none⟩) m cap6]))
    (grow7 : (w6.alloc o).grownBy w7 hdr.ownBlock) (hg7 : hdr.ownBlock = some g7 ∨ g7 = (w6.alloc o).heap.size) :
    Have w0 w7 (t :: rrT B eo (.slice (some ⟨g7, 0, none⟩) (R.length + 1) cap7) (R ++ [(g6, cap6, Z)]) :: ts) ∧ Kept (fun q => hdr.ownBlock = some q) w6 w7 := by
  have hr5 := rr_of h
  have K7 : Kept (fun q => hdr.ownBlock = some q) w6 w7 := ((Kept.refl _ w6).alloc o).grown grow7 (fun q hq => .inl hq)
  have hap : hdr.ownBlock ≠ some g6 := fun e => by
    have := own_lt hr5.outer e
    omega
  have e6 : (Value.slice (some ⟨g6, 0, none⟩) m cap6) = rowHd (g6, cap6, Z) := by unfold rowHd; rw [hZ]
  rw [e6] at own7
  rw [World.size_alloc] at hg7
  have hg8 : hdr.ownBlock = some g7 ∨ w6.heap.size ≤ g7 := hg7.imp id (fun e => by omega)
  have h7 := (rr_up hr5 h6).push own7 K7 hg8 (by omega) hl6 hap (by omega) hm hr
  refine ⟨h.turn1 (rrT B eo (.slice (some ⟨g7, 0, none⟩) (R.length + 1) cap7) (R ++ [(g6, cap6, Z)])) h7 ((Kept.of_below (F := RRF hdr R) h6).trans K7 (fun k _ hk => .inl hk)) ?_, K7⟩
  intro k hk
  have h6s := h6.size
  rcases hk with hk | ⟨r, hr, rfl⟩
  · have e : g7 = k := by injection hk
    subst e
    rcases hg8 with h1 | h1
    · exact .inl (.inl h1)
    · exact .inr (by omega)
  · rcases List.mem_append.1 hr with h1 | h1
    · exact .inl (.inr ⟨r, h1, rfl⟩)
    · simp at h1
      subst h1
      exact .inr hg6
end Go.Proofs.Ytiblpdjehknbcaa.Lw
/- What a stack is made of, in numbers: configs, levels, keys, columns. For every stage from 7 on. -/
namespace Go.Proofs.Ytiblpdjehknbcaa.Shp
open Go Go.RowKit Lw
set_option linter.unusedVariables false
structure Cfg where
  bt : Int
  rw : Int
  wd : Int
  md : Int
  sd : Int
structure Cfg.Ok (c : Cfg) : Prop where
  b0 : -9223372036854775808 ≤ c.bt
  b1 : c.bt ≤ 9223372036854775807
  r0 : -9223372036854775808 ≤ c.rw
  r1 : c.rw ≤ 9223372036854775807
  w0 : -9223372036854775808 ≤ c.wd
  w1 : c.wd ≤ 9223372036854775807
  m0 : -9223372036854775808 ≤ c.md
  m1 : c.md ≤ 9223372036854775807
  s0 : 0 ≤ c.sd
  s1 : c.sd ≤ 18446744073709551615
def IsRight (c : Cfg) : Prop := 1 ≤ c.bt ∧ c.bt ≤ 59 ∧ 1 ≤ c.rw ∧ c.rw ≤ 8 ∧ 1 ≤ c.wd ∧ c.wd ≤ 128 ∧ 1 ≤ c.md ∧ c.md ≤ 3
instance (c : Cfg) : Decidable (IsRight c) := by unfold IsRight; infer_instance
def right (c : Cfg) : Bool := decide (IsRight c)
def keys (c : Cfg) (l : Int) : Int := if IsRight c ∧ 0 ≤ l ∧ l ≤ c.bt then 2 ^ (c.bt - l).toNat else 0
def exactB (c : Cfg) (l : Int) : Bool := decide (1 ≤ keys c l ∧ keys c l ≤ c.wd)
def aboveOk (c : Cfg) (l k : Int) : Bool := decide (keys c l ≠ 0 ∧ k < keys c 0)
def aboveV (c : Cfg) (l k : Int) : Int := if aboveOk c l k = true then k / 2 ^ l.toNat else 0
def col (c : Cfg) (l k : Int) (r : Nat) : Int := Hsh.buck (Sed.pairA c.sd l r) (Sed.pairB c.sd l r) k c.wd
def cols (c : Cfg) (l k : Int) : List Int := if k < keys c l then (List.range c.rw.toNat).map (col c l k) else []
theorem pow_pos2 (n : Nat) : (1 : Int) ≤ 2 ^ n := by
  have h : (0 : Int) < 2 ^ n := Int.pow_pos (by omega)
  omega
theorem pow_le2 {a b : Nat} (h : a ≤ b) : (2 : Int) ^ a ≤ 2 ^ b := by
  obtain ⟨d, rfl⟩ := Nat.exists_eq_add_of_le h
  rw [Int.pow_add]
  have h1 := pow_pos2 a
  have h2 := pow_pos2 d
  have := Int.mul_le_mul (Int.le_refl ((2 : Int) ^ a)) h2 (by omega) (by omega)
  simpa using this
theorem pow59 {a : Nat} (h : a ≤ 59) : (2 : Int) ^ a ≤ 576460752303423488 := by
  have := pow_le2 h
  have e : (2 : Int) ^ 59 = 576460752303423488 := by decide
  rwa [e] at this
theorem keys_bd (c : Cfg) (l : Int) : 0 ≤ keys c l ∧ keys c l ≤ 576460752303423488 := by
  unfold keys
  split
  · rename_i h
    have h1 := pow_pos2 (c.bt - l).toNat
    have h2 := pow59 (a := (c.bt - l).toNat) (by have := h.1.2.1; omega)
    omega
  · omega
theorem keys_yes {c : Cfg} {l : Int} (h : IsRight c) (h0 : 0 ≤ l) (h1 : l ≤ c.bt) : keys c l = 2 ^ (c.bt - l).toNat := if_pos ⟨h, h0, h1⟩
theorem keys_no {c : Cfg} {l : Int} (h : ¬ (IsRight c ∧ 0 ≤ l ∧ l ≤ c.bt)) : keys c l = 0 := if_neg h
theorem keys_pos {c : Cfg} {l : Int} : 1 ≤ keys c l ↔ IsRight c ∧ 0 ≤ l ∧ l ≤ c.bt := by
  constructor
  · intro h
    refine Decidable.by_contra fun hn => ?_
    rw [keys_no hn] at h
    omega
  · intro h
    rw [keys_yes h.1 h.2.1 h.2.2]
    exact pow_pos2 _
theorem cols_len (c : Cfg) (l k : Int) : (cols c l k).length = if k < keys c l then c.rw.toNat else 0 := by
  unfold cols
  split <;> simp
theorem col_bd (c : Cfg) (l k : Int) (r : Nat) : -1 ≤ col c l k r ∧ col c l k r ≤ 2305843009213693950 := Hsh.buck_bd _ _ _ _
theorem cols_in (c : Cfg) (l k : Int) : ∀ v ∈ cols c l k, -9223372036854775808 ≤ v ∧ v ≤ 9223372036854775807 := by
  intro v hv
  unfold cols at hv
  split at hv
  · obtain ⟨r, _, rfl⟩ := List.mem_map.1 hv
    have := col_bd c l k r
    omega
  · simp at hv
theorem col_range {c : Cfg} (h : IsRight c) (l k : Int) (r : Nat) : 0 ≤ col c l k r ∧ col c l k r < c.wd := by
  unfold col Hsh.buck
  obtain ⟨_, _, _, _, h1, h2, _, _⟩ := h
  rw [if_neg (by omega)]
  exact ⟨Int.emod_nonneg _ (by omega), Int.emod_lt_of_pos _ (by omega)⟩
end Go.Proofs.Ytiblpdjehknbcaa.Shp
