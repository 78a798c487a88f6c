/- The plain arithmetic of layer 3: numbers of sixty-four bits. No dump is imported. -/
import Derived.WalkKit
import Derived.Laws.BitsAllLaws
namespace Go.Proofs.Ytdhljlhecoclfaa.Sed
open Go Go.RowKit

def val (b : BitVec 64) : Int := (b.toNat : Int)
def bv (x : Int) : BitVec 64 := BitVec.ofInt 64 x
theorem val_bd (b : BitVec 64) : 0 ≤ val b ∧ val b ≤ 18446744073709551615 := by
  have := b.isLt
  unfold val
  omega
theorem val_bv (x : Int) (h0 : 0 ≤ x) (h1 : x ≤ 18446744073709551615) : val (bv x) = x := by
  unfold val bv
  rw [BitVec.toNat_ofInt]
  omega
theorem bv_val (b : BitVec 64) : bv (val b) = b := by
  unfold val bv
  simp
theorem val_inj {a b : BitVec 64} (h : val a = val b) : a = b := by
  rw [← bv_val a, ← bv_val b, h]
theorem val_iff (a b : BitVec 64) : (val a = val b) ↔ a = b := ⟨val_inj, fun h => by rw [h]⟩
theorem wrap_bv (x : Int) : IntKind.u64.wrap x = val (bv x) := by
  unfold val bv
  rw [IntKind.wrap_u64, BitVec.toNat_ofInt]
  omega
theorem bv_add (x y : Int) : bv (x + y) = bv x + bv y := by unfold bv; exact BitVec.ofInt_add x y
theorem bv_mul (x y : Int) : bv (x * y) = bv x * bv y := by unfold bv; exact BitVec.ofInt_mul x y
theorem val_xor (a b : BitVec 64) : bits .xor .u64 (val a) (val b) = val (a ^^^ b) := by
  unfold val
  rw [u64_xor_nat _ _ a.isLt b.isLt, BitVec.toNat_xor]
theorem val_or (a b : BitVec 64) : bits .or .u64 (val a) (val b) = val (a ||| b) := by
  unfold val
  rw [u64_or_nat _ _ a.isLt b.isLt, BitVec.toNat_or]
theorem val_shr (a : BitVec 64) (k : Nat) : val a / 2 ^ k = val (a >>> k) := by
  unfold val
  rw [BitVec.toNat_ushiftRight, Nat.shiftRight_eq_div_pow]
  simp
theorem wrap_mul (a b : BitVec 64) : IntKind.u64.wrap (val a * val b) = val (a * b) := by rw [wrap_bv, bv_mul, bv_val, bv_val]
theorem wrap_add (a b : BitVec 64) : IntKind.u64.wrap (val a + val b) = val (a + b) := by rw [wrap_bv, bv_add, bv_val, bv_val]

def sh (k : Nat) (b : BitVec 64) : BitVec 64 := b ^^^ b >>> k
def ush (k : Nat) (b : BitVec 64) : BitVec 64 := sh (2 * k) (sh k b)
def c1 : BitVec 64 := 13787848793156543929#64
def c2 : BitVec 64 := 10723151780598845931#64
def d1 : BitVec 64 := 10871156337175269513#64
def d2 : BitVec 64 := 3573116690164977347#64
def mixB (b : BitVec 64) : BitVec 64 := sh 31 (sh 27 (sh 30 b * c1) * c2)
def unmixB (b : BitVec 64) : BitVec 64 := ush 30 (ush 27 (ush 31 b * d2) * d1)
theorem sh_sh (j k : Nat) (b : BitVec 64) : sh j (sh k b) = b ^^^ b >>> k ^^^ b >>> j ^^^ b >>> (j + k) := by
  unfold sh
  rw [BitVec.ushiftRight_xor_distrib, Nat.add_comm j k, BitVec.shiftRight_add, ← BitVec.xor_assoc]
theorem shr_big (b : BitVec 64) (k : Nat) (h : 64 ≤ k) : b >>> k = 0#64 := by
  apply BitVec.eq_of_toNat_eq
  rw [BitVec.toNat_ushiftRight, Nat.shiftRight_eq_div_pow]
  have := b.isLt
  have h2 : 2 ^ 64 ≤ 2 ^ k := Nat.pow_le_pow_right (by omega) h
  simp
  omega
theorem sh_twice (k : Nat) (b : BitVec 64) : sh k (sh k b) = sh (2 * k) b := by
  rw [sh_sh]
  unfold sh
  rw [BitVec.xor_assoc b, BitVec.xor_self, show k + k = 2 * k from by omega]
  simp
theorem sh_big (k : Nat) (h : 64 ≤ k) (b : BitVec 64) : sh k b = b := by
  unfold sh
  rw [shr_big b k h]
  simp
theorem sh_comm (j k : Nat) (b : BitVec 64) : sh j (sh k b) = sh k (sh j b) := by
  rw [sh_sh, sh_sh, Nat.add_comm j k, BitVec.xor_assoc b, BitVec.xor_comm (b >>> k), ← BitVec.xor_assoc]
theorem ush_sh (k : Nat) (h : 16 ≤ k) (b : BitVec 64) : ush k (sh k b) = b := by
  unfold ush
  rw [sh_twice, sh_twice, sh_big _ (by omega)]
theorem sh_ush (k : Nat) (h : 16 ≤ k) (b : BitVec 64) : sh k (ush k b) = b := by
  unfold ush
  rw [sh_comm, sh_twice, sh_twice, sh_big _ (by omega)]
theorem c1d1 : c1 * d1 = 1#64 := by decide
theorem c2d2 : c2 * d2 = 1#64 := by decide
theorem unmix_mix (b : BitVec 64) : unmixB (mixB b) = b := by
  unfold unmixB mixB
  rw [ush_sh 31 (by omega), BitVec.mul_assoc, c2d2, BitVec.mul_one, ush_sh 27 (by omega), BitVec.mul_assoc, c1d1, BitVec.mul_one, ush_sh 30 (by omega)]
theorem mix_unmix (b : BitVec 64) : mixB (unmixB b) = b := by
  unfold unmixB mixB
  rw [sh_ush 30 (by omega), BitVec.mul_assoc, BitVec.mul_comm d1, c1d1, BitVec.mul_one, sh_ush 27 (by omega), BitVec.mul_assoc, BitVec.mul_comm d2, c2d2, BitVec.mul_one, sh_ush 31 (by omega)]
theorem mix_inj {a b : BitVec 64} (h : mixB a = mixB b) : a = b := by rw [← unmix_mix a, ← unmix_mix b, h]

/-! ### What the calls tell, of plain numbers -/
def mix (x : Int) : Int := val (mixB (bv x))
def unmix (x : Int) : Int := val (unmixB (bv x))
def draw (s i : Int) : Int := mix (IntKind.u64.wrap (s + IntKind.u64.wrap (IntKind.u64.wrap (i + 1) * 11400714819323198485)))
theorem mix_bd (x : Int) : 0 ≤ mix x ∧ mix x ≤ 18446744073709551615 := val_bd _
theorem unmix_bd (x : Int) : 0 ≤ unmix x ∧ unmix x ≤ 18446744073709551615 := val_bd _
theorem draw_bd (s i : Int) : 0 ≤ draw s i ∧ draw s i ≤ 18446744073709551615 := val_bd _
theorem val_of (x : Int) (h0 : 0 ≤ x) (h1 : x ≤ 18446744073709551615) : ∃ b : BitVec 64, x = val b := ⟨bv x, (val_bv x h0 h1).symm⟩
theorem shI (k : Nat) (m : Int) (hm : m = 2 ^ k) (b : BitVec 64) : bits .xor .u64 (val b) (val b / m) = val (sh k b) := by
  rw [hm, val_shr, val_xor]
  rfl
theorem mulI (a b : BitVec 64) (c : Int) (h : bv c = b) : IntKind.u64.wrap (val a * c) = val (a * b) := by
  rw [wrap_bv, bv_mul, bv_val, h]
theorem mix_eq (x : Int) (h0 : 0 ≤ x) (h1 : x ≤ 18446744073709551615) :
    IntKind.u64.wrap (bits .xor .u64
      (IntKind.u64.wrap (bits .xor .u64 (IntKind.u64.wrap (bits .xor .u64 x (x / 1073741824) * 13787848793156543929)) (IntKind.u64.wrap (bits .xor .u64 x (x / 1073741824) * 13787848793156543929) / 134217728) * 10723151780598845931))
      (IntKind.u64.wrap (bits .xor .u64 (IntKind.u64.wrap (bits .xor .u64 x (x / 1073741824) * 13787848793156543929)) (IntKind.u64.wrap (bits .xor .u64 x (x / 1073741824) * 13787848793156543929) / 134217728) * 10723151780598845931) / 2147483648)) = mix x := by
  obtain ⟨b, rfl⟩ := val_of x h0 h1
  rw [shI 30 1073741824 (by decide), mulI _ c1 _ rfl, shI 27 134217728 (by decide), mulI _ c2 _ rfl, shI 31 2147483648 (by decide), wrap_bv, bv_val, mix, bv_val]
  rfl
def undo (k : Nat) (x : Int) : Int := val (ush k (bv x))
theorem undo_bd (k : Nat) (x : Int) : 0 ≤ undo k x ∧ undo k x ≤ 18446744073709551615 := val_bd _
theorem undo_30 (x : Int) (h0 : 0 ≤ x) (h1 : x ≤ 18446744073709551615) : undo (Int.toNat 30) x = bits .xor .u64 (bits .xor .u64 x (x / 1073741824)) (bits .xor .u64 x (x / 1073741824) / 1152921504606846976) := by
  obtain ⟨b, rfl⟩ := val_of x h0 h1
  rw [shI 30 1073741824 (by decide), shI 60 1152921504606846976 (by decide), undo, bv_val]
  rfl
theorem undo_27 (x : Int) (h0 : 0 ≤ x) (h1 : x ≤ 18446744073709551615) : undo (Int.toNat 27) x = bits .xor .u64 (bits .xor .u64 x (x / 134217728)) (bits .xor .u64 x (x / 134217728) / 18014398509481984) := by
  obtain ⟨b, rfl⟩ := val_of x h0 h1
  rw [shI 27 134217728 (by decide), shI 54 18014398509481984 (by decide), undo, bv_val]
  rfl
theorem undo_31 (x : Int) (h0 : 0 ≤ x) (h1 : x ≤ 18446744073709551615) : undo (Int.toNat 31) x = bits .xor .u64 (bits .xor .u64 x (x / 2147483648)) (bits .xor .u64 x (x / 2147483648) / 4611686018427387904) := by
  obtain ⟨b, rfl⟩ := val_of x h0 h1
  rw [shI 31 2147483648 (by decide), shI 62 4611686018427387904 (by decide), undo, bv_val]
  rfl
theorem unmix_eq (x : Int) (h0 : 0 ≤ x) (h1 : x ≤ 18446744073709551615) :
    undo 30 (IntKind.u64.wrap (undo 27 (IntKind.u64.wrap (undo 31 x * 3573116690164977347)) * 10871156337175269513)) = unmix x := by
  obtain ⟨b, rfl⟩ := val_of x h0 h1
  unfold undo unmix
  rw [bv_val, mulI _ d2 3573116690164977347 rfl, bv_val, mulI _ d1 10871156337175269513 rfl, bv_val]
  rfl
def okRow (l r : Int) : Prop := 0 ≤ l ∧ l ≤ 59 ∧ 0 ≤ r ∧ r ≤ 7
instance (l r : Int) : Decidable (okRow l r) := by unfold okRow; infer_instance
def pairA (s l r : Int) : Int := if okRow l r then 1 + draw s (2 * (8 * l + r)) % 2305843009213693950 else 0
def pairB (s l r : Int) : Int := if okRow l r then draw s (2 * (8 * l + r) + 1) % 2305843009213693951 else 0
theorem pairA_eq (s l r : Int) (h : okRow l r) : IntKind.u64.wrap (1 + (draw s (2 * (8 * l + r))).tmod 2305843009213693950) = pairA s l r := by
  have b := draw_bd s (2 * (8 * l + r))
  unfold pairA
  rw [if_pos h, Int.tmod_eq_emod_of_nonneg b.1, IntWalk.u64_in _ (by omega)]
theorem pairB_eq (s l r : Int) (h : okRow l r) : draw s (2 * (8 * l + r) + 1) % 2305843009213693951 = pairB s l r := by
  unfold pairB
  rw [if_pos h]
theorem pairA_bd (s l r : Int) (h : okRow l r) : 1 ≤ pairA s l r ∧ pairA s l r ≤ 2305843009213693950 := by
  unfold pairA
  rw [if_pos h]
  omega
theorem pairB_bd (s l r : Int) (h : okRow l r) : 0 ≤ pairB s l r ∧ pairB s l r ≤ 2305843009213693950 := by
  unfold pairB
  rw [if_pos h]
  omega
theorem back1 (x : Int) (h0 : 0 ≤ x) (h1 : x ≤ 18446744073709551615) : unmix (mix x) = x := by
  unfold unmix mix
  rw [bv_val, unmix_mix, val_bv x h0 h1]
theorem back2 (x : Int) (h0 : 0 ≤ x) (h1 : x ≤ 18446744073709551615) : mix (unmix x) = x := by
  unfold unmix mix
  rw [bv_val, mix_unmix, val_bv x h0 h1]
theorem mix_one (x y : Int) (h0 : 0 ≤ x) (h1 : x ≤ 18446744073709551615) (g0 : 0 ≤ y) (g1 : y ≤ 18446744073709551615) (h : mix x = mix y) : x = y := by
  rw [← back1 x h0 h1, ← back1 y g0 g1, h]
theorem draw_bv (s i : Int) : draw s i = val (mixB (bv s + (bv i + 1#64) * 11400714819323198485#64)) := by
  unfold draw mix
  rw [wrap_bv, bv_val, bv_add, wrap_bv, bv_val, bv_mul, wrap_bv, bv_val, bv_add]
  rfl
theorem stride_odd : 11400714819323198485#64 * 17428512612931826493#64 = 1#64 := by decide
theorem draw_one (s x y : Int) (h0 : 0 ≤ x) (h1 : x ≤ 18446744073709551615) (g0 : 0 ≤ y) (g1 : y ≤ 18446744073709551615) (h : draw s x = draw s y) : x = y := by
  rw [draw_bv, draw_bv] at h
  have e := (BitVec.add_right_inj _).1 (mix_inj (val_inj h))
  have e2 : (bv x + 1#64) * 11400714819323198485#64 * 17428512612931826493#64 = (bv y + 1#64) * 11400714819323198485#64 * 17428512612931826493#64 := by rw [e]
  rw [BitVec.mul_assoc, BitVec.mul_assoc, stride_odd, BitVec.mul_one, BitVec.mul_one] at e2
  have e3 := (BitVec.add_left_inj _).1 e2
  rw [← val_bv x h0 h1, ← val_bv y g0 g1, e3]
theorem draw_two (s t x : Int) (h0 : 0 ≤ s) (h1 : s ≤ 18446744073709551615) (g0 : 0 ≤ t) (g1 : t ≤ 18446744073709551615) (h : draw s x = draw t x) : s = t := by
  rw [draw_bv, draw_bv] at h
  have e := (BitVec.add_left_inj _).1 (mix_inj (val_inj h))
  rw [← val_bv s h0 h1, ← val_bv t g0 g1, e]
theorem draw_shift (s i n : Int) : draw (IntKind.u64.wrap (s + IntKind.u64.wrap (n * 11400714819323198485))) i = draw s (IntKind.u64.wrap (i + n)) := by
  rw [draw_bv, draw_bv, wrap_bv, wrap_bv, wrap_bv, bv_val, bv_val, bv_add, bv_val, bv_mul, bv_add]
  congr 2
  rw [show bv 11400714819323198485 = 11400714819323198485#64 from rfl, BitVec.add_assoc, ← BitVec.add_mul]
  congr 2
  ac_rfl
end Go.Proofs.Ytdhljlhecoclfaa.Sed
