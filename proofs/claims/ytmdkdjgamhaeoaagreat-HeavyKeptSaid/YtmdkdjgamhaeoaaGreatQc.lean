/- Texts that statements lean on, put together: WidEq, WidOf, WidInt, WidPlus, WidROfInt, WidRInt, WidRPlus, WidRAdd, WidRMinus, WidSub, WidLess, WidMinus, WidTimes, SlcClone, SedMath, SedBits, SedOne, SedRef, HshOne, HshRef, GrdRef, GrdDef. -/
import Derived.Test.YtmdkdjgamhaeoaaGreatQa
import Derived.Test.YtmdkdjgamhaeoaaGreatQb
import Derived.ProofKit
import Derived.Deep.MidRow
import Derived.Handy
import Derived.Deep.QuietTactic
import Derived.BigQuiet
import Derived.Deep.RegionHeld3
import Derived.Shelf.Spec.BitsCarry
import Derived.WalkSmall
import Derived.Deep.LoopGhost
import Derived.Laws.Cover3
import Derived.WalkMore
import Derived.WalkKit
import Derived.Laws.BitsAllLaws
import Derived.WalkSpells
import Derived.Test.YtmdkdjgamhaeoaaGreatRows
/- Arrays of ten numbers held against each other; halves put together. Printed by wip/gen/wid2.py. -/
namespace Go.Proofs.YtmdkdjgamhaeoaaGreat.Wid
open Go.RowKit
theorem bcell {W w1 : World} (hb : Below W.heap.size W w1) : (∀ b o, b < W.heap.size → w1.cell? ⟨b, o, none⟩ = W.cell? ⟨b, o, none⟩) ∧ (∀ b o, b < W.heap.size → w1.frozen? ⟨b, o, none⟩ = W.frozen? ⟨b, o, none⟩) :=
  ⟨fun b o h => hb.cell (p := ⟨b, o, none⟩) h, fun b o h => hb.frozen (p := ⟨b, o, none⟩) h⟩
theorem cell_lt {w : World} {a : Addr} {v : Value} (h : w.cell? a = some v) : a.block < w.heap.size := by
  rcases Nat.lt_or_ge a.block w.heap.size with h1 | h1
  · exact h1
  · have : w.heap[a.block]? = none := by simp [h1]
    simp [World.cell?, this] at h
def same (X Y : List Int) : Bool := decide (X = Y)
def nn (z : Int) : Int := IntKind.i64.wrap (z % 18446744073709551616)
def hh (z : Int) : Int := IntKind.i64.wrap (z / 18446744073709551616 % 18446744073709551616)
end Go.Proofs.YtmdkdjgamhaeoaaGreat.Wid
/- Walks of layer 2, one function each: Of. -/
namespace Go.Proofs.YtmdkdjgamhaeoaaGreat.Wid
open Go.RowKit
set_option linter.unusedVariables false

theorem of_any (n : Int) (w : World) (h0 : -9223372036854775808 ≤ n) (h1 : n ≤ 9223372036854775807) :
    Calls Tryz.prog 74 #[.int .i64 n] w fun e w' => e = .returned (.agg #[.int .i64 (fh n), .int .u64 (fl n)]) ∧ Below w.heap.size w w' := by
  have H := Lib.hid (of_vals n h0 h1)
  go_enter Tryz.func74, Tryz.ntmps74
  go_wp2
  go_returns
  exact ⟨ret_agg H.out.1 H.out.2, by go_grown⟩
end Go.Proofs.YtmdkdjgamhaeoaaGreat.Wid
/- Walks of layer 2, one function each: Int. -/
namespace Go.Proofs.YtmdkdjgamhaeoaaGreat.Wid
open Go.RowKit
set_option linter.unusedVariables false

theorem int_any (p q : Int) (w : World) (p0 : -9223372036854775808 ≤ p) (p1 : p ≤ 9223372036854775807) (q0 : 0 ≤ q) (q1 : q ≤ 18446744073709551615) :
    Calls Tryz.prog 89 #[.agg #[.int .i64 p, .int .u64 q]] w fun e w' => e = .returned (.tuple #[.int .i64 (f64 (vl p q)), .bool (fit64 (vl p q))]) ∧ Below w.heap.size w w' := by
  have hv := int_vals p q p0 p1 q0 q1
  have hc0 : ∀ w', Below (w.heap.size + 1) (w.alloc (.cells #[.int .i64 p, .int .u64 q] 151)) w' → w'.cell? ⟨w.heap.size, 0, none⟩ = some (.int .i64 p) := fun w' h => (h.cell (by simp)).trans (by simp [go_sem])
  have hc1 : ∀ w', Below (w.heap.size + 1) (w.alloc (.cells #[.int .i64 p, .int .u64 q] 151)) w' → w'.cell? ⟨w.heap.size, 1, none⟩ = some (.int .u64 q) := fun w' h => (h.cell (by simp)).trans (by simp [go_sem])
  by_cases h1 : fh (wrap64 q) = p
  · have e1 : (fh (wrap64 q) == p) = true := by simpa using h1
    by_cases h2 : fl (wrap64 q) = q
    · have H := Lib.hid (hv.1 ⟨h1, h2⟩)
      have e2 : (fl (wrap64 q) == q) = true := by simpa using h2
      clear hv h1 h2
      go_enter Tryz.func89, Tryz.ntmps89
      go_wp2
      go_region_held3 (fun w' => Below (w.heap.size + 1) (w.alloc (.cells #[.int .i64 p, .int .u64 q] 151)) w') (first | exact (Below.refl _ _).drew | exact below_call (by assumption) hb (by simp))
       (first | (go_at_call 74; refine (of_any _ _ (hi_bd _).1 (hi_bd _).2.1).mono ?_; rintro e w' ⟨rfl, hb⟩))
      go_wp2
      go_ret2
      exact ⟨ret_int_bool H.out.2.symm H.out.1.symm, below_box (by assumption)⟩
    · have H := Lib.hid (hv.2 (fun h => h2 h.2))
      have e2 : (fl (wrap64 q) == q) = false := by simpa using h2
      clear hv h1 h2
      go_enter Tryz.func89, Tryz.ntmps89
      go_wp2
      go_region_held3 (fun w' => Below (w.heap.size + 1) (w.alloc (.cells #[.int .i64 p, .int .u64 q] 151)) w') (first | exact (Below.refl _ _).drew | exact below_call (by assumption) hb (by simp))
       (first | (go_at_call 74; refine (of_any _ _ (hi_bd _).1 (hi_bd _).2.1).mono ?_; rintro e w' ⟨rfl, hb⟩))
      go_wp2
      go_ret2
      exact ⟨ret_int_bool H.out.2.symm H.out.1.symm, below_box (by assumption)⟩
  · have H := Lib.hid (hv.2 (fun h => h1 h.1))
    have e1 : (fh (wrap64 q) == p) = false := by simpa using h1
    clear hv h1
    go_enter Tryz.func89, Tryz.ntmps89
    go_wp2
    go_region_held3 (fun w' => Below (w.heap.size + 1) (w.alloc (.cells #[.int .i64 p, .int .u64 q] 151)) w') (first | exact (Below.refl _ _).drew | exact below_call (by assumption) hb (by simp))
     (first | (go_at_call 74; refine (of_any _ _ (hi_bd _).1 (hi_bd _).2.1).mono ?_; rintro e w' ⟨rfl, hb⟩))
    go_wp2
    go_ret2
    exact ⟨ret_int_bool H.out.2.symm H.out.1.symm, below_box (by assumption)⟩
end Go.Proofs.YtmdkdjgamhaeoaaGreat.Wid
/- Walks of layer 2, one function each: Plus. -/
namespace Go.Proofs.YtmdkdjgamhaeoaaGreat.Wid
open Go.RowKit
set_option linter.unusedVariables false

theorem plus_any (a b : Int) (w : World) (a0 : -9223372036854775808 ≤ a) (a1 : a ≤ 9223372036854775807) (b0 : -9223372036854775808 ≤ b) (b1 : b ≤ 9223372036854775807) :
    Calls Tryz.prog 140 #[.int .i64 a, .int .i64 b] w fun e w' => e = .returned (.tuple #[.int .i64 (f64 (a + b)), .bool (fit64 (a + b))]) ∧ Below w.heap.size w w' := by
  have H := Lib.hid (plus_vals a b a0 a1 b0 b1).1
  go_enter Tryz.func140, Tryz.ntmps140
  go_wp2_with (first
    | (go_at_call 74; refine (of_any _ _ (by omega) (by omega)).mono ?_; rintro e w' ⟨rfl, hb⟩)
    | (go_at_call 72; refine (add_any _ _ _ _ _ (fh_bd _).1 (fh_bd _).2 (fl_bd _).1 (fl_bd _).2 (fh_bd _).1 (fh_bd _).2 (fl_bd _).1 (fl_bd _).2).mono ?_; rintro e w' ⟨rfl, hb⟩)
    | (go_at_call 89; refine (int_any _ _ _ (fh_bd _).1 (fh_bd _).2 (fl_bd _).1 (fl_bd _).2).mono ?_; rintro e w' ⟨rfl, hb⟩))
  go_ret2
  refine ⟨ret_int_bool (by rw [H.out]) (by rw [H.out]), ?_⟩
  repeat' (first | (with_reducible exact Below.refl _ _) | (with_reducible refine below_call ?_ (by with_reducible assumption) (Nat.le_refl _)) | (with_reducible refine below_alloc ?_ _) | (with_reducible refine Below.drew ?_) | (with_reducible refine Below.setCell ?_ ?_ _))
end Go.Proofs.YtmdkdjgamhaeoaaGreat.Wid
/- A walk of the document's own answers of layer 2: ROfInt. Parted by wip/gen/split.py. -/
namespace Go.Proofs.YtmdkdjgamhaeoaaGreat.Wid
open Go.RowKit
set_option linter.unusedVariables false
end Go.Proofs.YtmdkdjgamhaeoaaGreat.Wid
/- A walk of the document's own answers of layer 2: RInt. Parted by wip/gen/split.py. -/
namespace Go.Proofs.YtmdkdjgamhaeoaaGreat.Wid
open Go.RowKit
set_option linter.unusedVariables false
end Go.Proofs.YtmdkdjgamhaeoaaGreat.Wid
/- A walk of the document's own answers of layer 2: RPlus. Parted by wip/gen/split.py. -/
namespace Go.Proofs.YtmdkdjgamhaeoaaGreat.Wid
open Go.RowKit
set_option linter.unusedVariables false
end Go.Proofs.YtmdkdjgamhaeoaaGreat.Wid
/- A walk of the document's own answers of layer 2: RAdd. Parted by wip/gen/split.py. -/
namespace Go.Proofs.YtmdkdjgamhaeoaaGreat.Wid
open Go.RowKit
set_option linter.unusedVariables false
end Go.Proofs.YtmdkdjgamhaeoaaGreat.Wid
/- A walk of the document's own answers of layer 2: RMinus. Parted by wip/gen/split.py. -/
namespace Go.Proofs.YtmdkdjgamhaeoaaGreat.Wid
open Go.RowKit
set_option linter.unusedVariables false
end Go.Proofs.YtmdkdjgamhaeoaaGreat.Wid
/- Walks of layer 2, one function each: Sub. -/
namespace Go.Proofs.YtmdkdjgamhaeoaaGreat.Wid
open Go.RowKit
set_option linter.unusedVariables false

theorem run_sub64 (x y c : Int) (w : World) (x0 : 0 ≤ x) (x1 : x ≤ 18446744073709551615) (y0 : 0 ≤ y) (y1 : y ≤ 18446744073709551615) (c0 : 0 ≤ c) (c1 : c ≤ 1) :
    (callFunc 97 #[.int .u64 x, .int .u64 y, .int .u64 c]).run Tryz.prog w =
      .ok (.value (.tuple #[.int .u64 ((x - y - c) % 18446744073709551616), .int .u64 (-((x - y - c) / 18446744073709551616))])) w := by
  obtain ⟨X, rfl⟩ := Int.eq_ofNat_of_zero_le x0
  obtain ⟨Y, rfl⟩ := Int.eq_ofNat_of_zero_le y0
  obtain ⟨C, rfl⟩ := Int.eq_ofNat_of_zero_le c0
  rw [run_callFunc_extern Tryz.func97 (by kernel_rfl) (by kernel_rfl) (by kernel_rfl) (e := Go.Proofs.sub64Entry) (by kernel_rfl), Go.Proofs.run_sub64 X Y C (by omega)]
  simp only [Result.andThen]
  have e1 : (((X + 18446744073709551616 - Y - C) % 18446744073709551616 : Nat) : Int) = ((X : Int) - Y - C) % 18446744073709551616 := by omega
  have e2 : ((if X < Y + C then 1 else 0 : Nat) : Int) = -(((X : Int) - Y - C) / 18446744073709551616) := by split <;> omega
  rw [e1, e2]
theorem run_sub64_0 (x y : Int) (w : World) (x0 : 0 ≤ x) (x1 : x ≤ 18446744073709551615) (y0 : 0 ≤ y) (y1 : y ≤ 18446744073709551615) :
    (callFunc 97 #[.int .u64 x, .int .u64 y, .int .u64 0]).run Tryz.prog w =
      .ok (.value (.tuple #[.int .u64 ((x - y) % 18446744073709551616), .int .u64 (-((x - y) / 18446744073709551616))])) w := by
  rw [run_sub64 x y 0 w x0 x1 y0 y1 (by omega) (by omega), Int.sub_zero]

theorem sub_any (p q r s : Int) (w : World) (p0 : -9223372036854775808 ≤ p) (p1 : p ≤ 9223372036854775807) (q0 : 0 ≤ q) (q1 : q ≤ 18446744073709551615)
    (r0 : -9223372036854775808 ≤ r) (r1 : r ≤ 9223372036854775807) (s0 : 0 ≤ s) (s1 : s ≤ 18446744073709551615) :
    Calls Tryz.prog 88 #[.agg #[.int .i64 p, .int .u64 q], .agg #[.int .i64 r, .int .u64 s]] w fun e w' => e = .returned (.tuple #[.agg #[.int .i64 (fh (vl p q - vl r s)), .int .u64 (fl (vl p q - vl r s))], .bool (fit (vl p q - vl r s))]) ∧ Below w.heap.size w w' := by
  have k0 : 0 ≤ -((q - s) / 18446744073709551616) := by omega
  have k1 : -((q - s) / 18446744073709551616) ≤ 1 := by omega
  go_enter Tryz.func88, Tryz.ntmps88
  go_wp2_with (first | simp only [run_sub64_0 q s _ q0 q1 s0 s1] | simp only [run_sub64 _ _ _ _ (u64_bd p).1 (u64_bd p).2 (u64_bd r).1 (u64_bd r).2 k0 k1])
  · have h := sub_far p q r s p0 p1 q0 q1 r0 r1 s0 s1 (by assumption)
    go_returns
    exact ⟨ret_wide h.1 h.2.1 h.2.2, by go_grown⟩
  · have h := sub_near p q r s p0 p1 q0 q1 r0 r1 s0 s1 (by assumption)
    go_returns
    exact ⟨ret_wide h.1 h.2.1 h.2.2, by go_grown⟩
end Go.Proofs.YtmdkdjgamhaeoaaGreat.Wid
/- Walks of layer 2, one function each: Less. -/
namespace Go.Proofs.YtmdkdjgamhaeoaaGreat.Wid
open Go.RowKit
set_option linter.unusedVariables false

end Go.Proofs.YtmdkdjgamhaeoaaGreat.Wid
/- Walks of layer 2, one function each: Minus. -/
namespace Go.Proofs.YtmdkdjgamhaeoaaGreat.Wid
open Go.RowKit
set_option linter.unusedVariables false

end Go.Proofs.YtmdkdjgamhaeoaaGreat.Wid
/- Walks of layer 2, one function each: Times. -/
namespace Go.Proofs.YtmdkdjgamhaeoaaGreat.Wid
open Go.RowKit
set_option linter.unusedVariables false

theorem mul64_any (a b : Int) (w : World) (h0 : 0 ≤ a) (h1 : a ≤ 18446744073709551615) (g0 : 0 ≤ b) (g1 : b ≤ 18446744073709551615) :
    Calls Tryz.prog 176 #[.int .u64 a, .int .u64 b] w fun e w' => e = .returned (.tuple #[.int .u64 (a * b / 18446744073709551616), .int .u64 (a * b % 18446744073709551616)]) ∧ w = w' := by
  go_enter Tryz.func176, Tryz.ntmps176
  go_wp2
  go_ret2
  exact ⟨Fld.ret_two (Fld.mul64_hi a b h0 h1 g0 g1) (Fld.mul64_lo a b), rfl⟩

end Go.Proofs.YtmdkdjgamhaeoaaGreat.Wid
/- slices.Clone of a row of whole numbers, nil or not: a row of one's own. -/
namespace Go.Proofs.YtmdkdjgamhaeoaaGreat.Slc
open Go Go.RowKit Lw
set_option linter.unusedVariables false
set_option linter.unusedSimpArgs false
theorem eql_nil {P : Program} (w : World) (t e : TypeId) (a : Option Addr) (l c : Nat) (h : P.underlying t = some (.slice e)) : (binOp .eql t (.slice a l c) (.slice none 0 0)).run P w = .ok (.bool a.isNone) w := by
  simp only [binOp]
  simp [run_equal_slice_nil w t e a l c h]
end Go.Proofs.YtmdkdjgamhaeoaaGreat.Slc
/- The plain arithmetic of layer 3: numbers of sixty-four bits. No dump is imported. -/
namespace Go.Proofs.YtmdkdjgamhaeoaaGreat.Sed
open Go Go.RowKit

def val (b : BitVec 64) : Int := (b.toNat : Int)
def bv (x : Int) : BitVec 64 := BitVec.ofInt 64 x
theorem val_bd (b : BitVec 64) : 0 ≤ val b ∧ val b ≤ 18446744073709551615 := by
  have := b.isLt
  unfold val
  omega
theorem val_bv (x : Int) (h0 : 0 ≤ x) (h1 : x ≤ 18446744073709551615) : val (bv x) = x := by
  unfold val bv
  rw [BitVec.toNat_ofInt]
  omega
theorem bv_val (b : BitVec 64) : bv (val b) = b := by
  unfold val bv
  simp
theorem wrap_bv (x : Int) : IntKind.u64.wrap x = val (bv x) := by
  unfold val bv
  rw [IntKind.wrap_u64, BitVec.toNat_ofInt]
  omega
theorem bv_mul (x y : Int) : bv (x * y) = bv x * bv y := by unfold bv; exact BitVec.ofInt_mul x y
theorem val_xor (a b : BitVec 64) : bits .xor .u64 (val a) (val b) = val (a ^^^ b) := by
  unfold val
  rw [u64_xor_nat _ _ a.isLt b.isLt, BitVec.toNat_xor]
theorem val_shr (a : BitVec 64) (k : Nat) : val a / 2 ^ k = val (a >>> k) := by
  unfold val
  rw [BitVec.toNat_ushiftRight, Nat.shiftRight_eq_div_pow]
  simp
def sh (k : Nat) (b : BitVec 64) : BitVec 64 := b ^^^ b >>> k
def ush (k : Nat) (b : BitVec 64) : BitVec 64 := sh (2 * k) (sh k b)
def c1 : BitVec 64 := 13787848793156543929#64
def c2 : BitVec 64 := 10723151780598845931#64
def d1 : BitVec 64 := 10871156337175269513#64
def d2 : BitVec 64 := 3573116690164977347#64
def mixB (b : BitVec 64) : BitVec 64 := sh 31 (sh 27 (sh 30 b * c1) * c2)
def unmixB (b : BitVec 64) : BitVec 64 := ush 30 (ush 27 (ush 31 b * d2) * d1)
/-! ### What the calls tell, of plain numbers -/
def mix (x : Int) : Int := val (mixB (bv x))
def unmix (x : Int) : Int := val (unmixB (bv x))
def draw (s i : Int) : Int := mix (IntKind.u64.wrap (s + IntKind.u64.wrap (IntKind.u64.wrap (i + 1) * 11400714819323198485)))
theorem draw_bd (s i : Int) : 0 ≤ draw s i ∧ draw s i ≤ 18446744073709551615 := val_bd _
theorem val_of (x : Int) (h0 : 0 ≤ x) (h1 : x ≤ 18446744073709551615) : ∃ b : BitVec 64, x = val b := ⟨bv x, (val_bv x h0 h1).symm⟩
theorem shI (k : Nat) (m : Int) (hm : m = 2 ^ k) (b : BitVec 64) : bits .xor .u64 (val b) (val b / m) = val (sh k b) := by
  rw [hm, val_shr, val_xor]
  rfl
theorem mulI (a b : BitVec 64) (c : Int) (h : bv c = b) : IntKind.u64.wrap (val a * c) = val (a * b) := by
  rw [wrap_bv, bv_mul, bv_val, h]
theorem mix_eq (x : Int) (h0 : 0 ≤ x) (h1 : x ≤ 18446744073709551615) :
    IntKind.u64.wrap (bits .xor .u64
      (IntKind.u64.wrap (bits .xor .u64 (IntKind.u64.wrap (bits .xor .u64 x (x / 1073741824) * 13787848793156543929)) (IntKind.u64.wrap (bits .xor .u64 x (x / 1073741824) * 13787848793156543929) / 134217728) * 10723151780598845931))
      (IntKind.u64.wrap (bits .xor .u64 (IntKind.u64.wrap (bits .xor .u64 x (x / 1073741824) * 13787848793156543929)) (IntKind.u64.wrap (bits .xor .u64 x (x / 1073741824) * 13787848793156543929) / 134217728) * 10723151780598845931) / 2147483648)) = mix x := by
  obtain ⟨b, rfl⟩ := val_of x h0 h1
  rw [shI 30 1073741824 (by decide), mulI _ c1 _ rfl, shI 27 134217728 (by decide), mulI _ c2 _ rfl, shI 31 2147483648 (by decide), wrap_bv, bv_val, mix, bv_val]
  rfl
def undo (k : Nat) (x : Int) : Int := val (ush k (bv x))
def okRow (l r : Int) : Prop := 0 ≤ l ∧ l ≤ 59 ∧ 0 ≤ r ∧ r ≤ 7
instance (l r : Int) : Decidable (okRow l r) := by unfold okRow; infer_instance
def pairA (s l r : Int) : Int := if okRow l r then 1 + draw s (2 * (8 * l + r)) % 2305843009213693950 else 0
def pairB (s l r : Int) : Int := if okRow l r then draw s (2 * (8 * l + r) + 1) % 2305843009213693951 else 0
theorem pairA_eq (s l r : Int) (h : okRow l r) : IntKind.u64.wrap (1 + (draw s (2 * (8 * l + r))).tmod 2305843009213693950) = pairA s l r := by
  have b := draw_bd s (2 * (8 * l + r))
  unfold pairA
  rw [if_pos h, Int.tmod_eq_emod_of_nonneg b.1, IntWalk.u64_in _ (by omega)]
theorem pairB_eq (s l r : Int) (h : okRow l r) : draw s (2 * (8 * l + r) + 1) % 2305843009213693951 = pairB s l r := by
  unfold pairB
  rw [if_pos h]
theorem pairA_bd (s l r : Int) (h : okRow l r) : 1 ≤ pairA s l r ∧ pairA s l r ≤ 2305843009213693950 := by
  unfold pairA
  rw [if_pos h]
  omega
theorem pairB_bd (s l r : Int) (h : okRow l r) : 0 ≤ pairB s l r ∧ pairB s l r ≤ 2305843009213693950 := by
  unfold pairB
  rw [if_pos h]
  omega
end Go.Proofs.YtmdkdjgamhaeoaaGreat.Sed
/- Bit by bit: what the document's own answers of layer 3 do, told of numbers of sixty-four bits. No dump is imported. -/
namespace Go.Proofs.YtmdkdjgamhaeoaaGreat.Sed
open Go Go.RowKit Fld

/-! ### Products by doubling -/
/-! ### Bits -/
def bt (b : BitVec 64) (i : Nat) : Int := if b.getLsbD i then 1 else 0
def lw (b : BitVec 64) (i : Nat) : Int := val b % 2 ^ i
def hg (b : BitVec 64) (i : Nat) : Int := val b / 2 ^ i * 2 ^ i
theorem pow_le (i : Nat) (h : i < 64) : (0 : Int) < 2 ^ i ∧ (2 : Int) ^ i ≤ 9223372036854775808 := by
  have h1 : (2 : Nat) ^ i ≤ 2 ^ 63 := Nat.pow_le_pow_right (by omega) (by omega)
  have h0 : (0 : Nat) < 2 ^ i := Nat.pow_pos (by omega)
  have e : ((2 : Int) ^ i) = ((2 ^ i : Nat) : Int) := by simp
  rw [e]
  have e2 : (2 : Nat) ^ 63 = 9223372036854775808 := by decide
  omega
/-! ### Division by an odd number -/
end Go.Proofs.YtmdkdjgamhaeoaaGreat.Sed
/- The walks of Mix, Unmix, Draw. -/
namespace Go.Proofs.YtmdkdjgamhaeoaaGreat.Sed
open Go.RowKit Lw Fld

theorem steps_any (w : World) :
    Calls Tryz.prog 175 #[] w fun e w' => e = .returned (.agg #[.int .u64 30, .int .u64 13787848793156543929, .int .u64 10871156337175269513, .int .u64 27, .int .u64 10723151780598845931, .int .u64 3573116690164977347, .int .u64 31, .int .u64 1, .int .u64 1]) ∧ Below w.heap.size w w' := by
  go_enter Tryz.func175, Tryz.ntmps175
  go_wp2
  go_returns
  exact ⟨rfl, (Below.refl _ _).alloc (Nat.le_refl _) _⟩
theorem steps0 (w : World) : (Instr.index 237 (.agg #[.int .u64 30, .int .u64 13787848793156543929, .int .u64 10871156337175269513, .int .u64 27, .int .u64 10723151780598845931, .int .u64 3573116690164977347, .int .u64 31, .int .u64 1, .int .u64 1]) (.int .i64 0)).run Tryz.prog w = .ok (.agg #[.int .u64 30, .int .u64 13787848793156543929, .int .u64 10871156337175269513]) w := by kernel_rfl
theorem steps1 (w : World) : (Instr.index 237 (.agg #[.int .u64 30, .int .u64 13787848793156543929, .int .u64 10871156337175269513, .int .u64 27, .int .u64 10723151780598845931, .int .u64 3573116690164977347, .int .u64 31, .int .u64 1, .int .u64 1]) (.int .i64 1)).run Tryz.prog w = .ok (.agg #[.int .u64 27, .int .u64 10723151780598845931, .int .u64 3573116690164977347]) w := by kernel_rfl
theorem steps2 (w : World) : (Instr.index 237 (.agg #[.int .u64 30, .int .u64 13787848793156543929, .int .u64 10871156337175269513, .int .u64 27, .int .u64 10723151780598845931, .int .u64 3573116690164977347, .int .u64 31, .int .u64 1, .int .u64 1]) (.int .i64 2)).run Tryz.prog w = .ok (.agg #[.int .u64 31, .int .u64 1, .int .u64 1]) w := by kernel_rfl
theorem mix_any (x : Int) (w : World) (h0 : 0 ≤ x) (h1 : x ≤ 18446744073709551615) :
    Calls Tryz.prog 170 #[.int .u64 x] w fun e w' => e = .returned (.int .u64 (mix x)) ∧ Below w.heap.size w w' := by
  have i0 := steps0
  have i1 := steps1
  have i2 := steps2
  go_enter Tryz.func170, Tryz.ntmps170
  go_wp2_with (go_at_call 175; ((with_reducible refine (steps_any _).mono ?_)); rintro e w' ⟨rfl, hb⟩; obtain ⟨bs, d, rfl⟩ := below_grow hb; clear hb)
  refine wp_loop_rounds 4 ?_
  iterate 3 (rw [rounds_succ]; go_wp2)
  rw [rounds_succ]; go_wp2
  go_ret
  refine ⟨ret_int ?_, ?_⟩
  · exact mix_eq x h0 h1
  · repeat' (first | (with_reducible exact Below.refl _ _) | (with_reducible refine below_over ?_ _ _) | (with_reducible refine Lw.below_alloc ?_ _) | (with_reducible refine Below.drew ?_) | (with_reducible refine below_drewN ?_ _) | (with_reducible refine Below.setCell ?_ ?_ _) | go_size)
def zAt (x : Int) : Nat → Int
  | 0 => undo 30 (IntKind.u64.wrap (undo 27 (IntKind.u64.wrap (undo 31 x * 3573116690164977347)) * 10871156337175269513))
  | 1 => undo 27 (IntKind.u64.wrap (undo 31 x * 3573116690164977347))
  | 2 => undo 31 x
  | _ => x
def unW (w : World) (bs : Array Obj) (d : Nat) (x : Int) (k : Nat) : World :=
  (grow (w.alloc (.cells #[.int .u64 (zAt x k)] 22)) bs d).alloc (.cells #[.int .u64 30, .int .u64 13787848793156543929, .int .u64 10871156337175269513, .int .u64 27, .int .u64 10723151780598845931, .int .u64 3573116690164977347, .int .u64 31, .int .u64 1, .int .u64 1] 237)
theorem draw_any (s i : Int) (w : World) :
    Calls Tryz.prog 163 #[.int .u64 s, .int .u64 i] w fun e w' => e = .returned (.int .u64 (draw s i)) ∧ Below w.heap.size w w' := by
  go_enter Tryz.func163, Tryz.ntmps163
  go_wp2_with (go_at_call 170; ((with_reducible refine (mix_any _ _ (u64_bd _).1 (u64_bd _).2).mono ?_)); rintro e w' ⟨rfl, hb⟩; obtain ⟨bs, d, rfl⟩ := below_grow hb; clear hb)
  go_ret
  exact ⟨rfl, grow_below _ _ _⟩
theorem pair_any (s l r : Int) (w : World) (l0 : -9223372036854775808 ≤ l) (l1 : l ≤ 9223372036854775807) (r0 : -9223372036854775808 ≤ r) (r1 : r ≤ 9223372036854775807) :
    Calls Tryz.prog 158 #[.int .u64 s, .int .i64 l, .int .i64 r] w fun e w' => e = .returned (.tuple #[.int .u64 (pairA s l r), .int .u64 (pairB s l r)]) ∧ Below w.heap.size w w' := by
  by_cases hk : 0 ≤ l ∧ l ≤ 59 ∧ 0 ≤ r ∧ r ≤ 7
  · obtain ⟨a0, a1, a2, a3⟩ := hk
    go_enter Tryz.func158, Tryz.ntmps158
    go_wp2_with (first
      | (go_at_call 163; ((with_reducible refine (draw_any _ _ _).mono ?_)); rintro e w' ⟨rfl, hb⟩; obtain ⟨bs, d, rfl⟩ := below_grow hb; clear hb)
      | (go_at_call 164; ((with_reducible refine (fold_any _ _ (draw_bd _ _).1 (draw_bd _ _).2).mono ?_)); rintro e w' ⟨rfl, rfl⟩))
    go_ret2
    refine ⟨ret_two ?_ ?_, ?_⟩
    · exact pairA_eq s l r ⟨a0, a1, a2, a3⟩
    · exact pairB_eq s l r ⟨a0, a1, a2, a3⟩
    · exact grow_below _ _ _
  · have e1 : pairA s l r = 0 := if_neg hk
    have e2 : pairB s l r = 0 := if_neg hk
    go_enter Tryz.func158, Tryz.ntmps158
    go_wp2
    all_goals go_ret2
    all_goals exact ⟨ret_two (by first | rfl | exact e1.symm) (by first | rfl | exact e2.symm), Below.refl _ _⟩
end Go.Proofs.YtmdkdjgamhaeoaaGreat.Sed
/- The walks of the document's own answers for layer 3. -/
namespace Go.Proofs.YtmdkdjgamhaeoaaGreat.Sed
open Go.RowKit Lw Fld

end Go.Proofs.YtmdkdjgamhaeoaaGreat.Sed
/- The walks of layer 4: a line's value, what is left of it, and the line through two points. -/
namespace Go.Proofs.YtmdkdjgamhaeoaaGreat.Hsh
open Go.RowKit Fld Lw
set_option linter.unusedVariables false
def lin (a b x : Int) : Int := add (mul a x) b
def buck (a b x n : Int) : Int := if n < 1 then -1 else lin a b x % n
def thrA (x u y v : Int) : Int := mul (sub u v) (inv (sub x y))
def thrB (x u y v : Int) : Int := sub u (lin (thrA x u y v) 0 x)
theorem lin_bd (a b x : Int) : 0 ≤ lin a b x ∧ lin a b x ≤ 2305843009213693950 := add_bd _ _
theorem mod_le (x n : Int) (h : 0 ≤ x) (hn : 1 ≤ n) : x % n ≤ x := by
  have e := Int.ediv_mul_add_emod x n
  have b := Int.mul_nonneg (Int.ediv_nonneg h (show 0 ≤ n by omega)) (show 0 ≤ n by omega)
  omega
theorem buck_bd (a b x n : Int) : -1 ≤ buck a b x n ∧ buck a b x n ≤ 2305843009213693950 := by
  have h := lin_bd a b x
  unfold buck
  split
  · omega
  · have h1 := Int.emod_nonneg (lin a b x) (show n ≠ 0 by omega)
    have h2 := mod_le _ n h.1 (by omega)
    omega
theorem at_any (a b x : Int) (w : World) (a0 : 0 ≤ a) (a1 : a ≤ 18446744073709551615) (b0 : 0 ≤ b) (b1 : b ≤ 18446744073709551615) (x0 : 0 ≤ x) (x1 : x ≤ 18446744073709551615) :
    Calls Tryz.prog 166 #[.agg #[.int .u64 a, .int .u64 b], .int .u64 x] w fun e w' => e = .returned (.int .u64 (lin a b x)) ∧ Below w.heap.size w w' := by
  have m := mul_bd a x
  go_enter Tryz.func166, Tryz.ntmps166
  go_wp2
  go_region_held3 (fun w' => w'.cell? ⟨w.heap.size, 0, none⟩ = some (.int .u64 a) ∧ w'.cell? ⟨w.heap.size, 1, none⟩ = some (.int .u64 b)) (simp [go_sem, *])
    (first
    | (go_at_call 172; (with_reducible refine (mul_any _ _ _ a0 a1 x0 x1).mono ?_); rintro e w' ⟨rfl, rfl⟩)
    | (go_at_call 171; (with_reducible refine (add_any _ _ _ m.1 (by omega) b0 b1).mono ?_); rintro e w' ⟨rfl, rfl⟩))
  all_goals go_wp2
  all_goals go_ret
  all_goals refine ⟨rfl, ?_⟩
  all_goals (repeat' (first | (with_reducible exact Below.refl _ _) | (with_reducible assumption) | (with_reducible refine below_over ?_ _ _) | (with_reducible refine Lw.below_alloc ?_ _) | (with_reducible refine Below.drew ?_) | (with_reducible refine below_drewN ?_ _) | (with_reducible refine Below.setCell ?_ ?_ _) | go_size))
theorem left_no (f : Fn) (c1 c2 : Array Value) (x n : Int) (w : World) (h : n < 1) :
    Calls Tryz.prog 165 #[.func f c1 c2, .int .u64 x, .int .i64 n] w fun e w' => e = .returned (.int .i64 (-1)) ∧ w = w' := by
  go_enter Tryz.func165, Tryz.ntmps165
  go_wp2
  go_ret
  exact ⟨rfl, rfl⟩
theorem left_yes (a b x n : Int) (w : World) (h : 1 ≤ n) (n1 : n ≤ 9223372036854775807) (a0 : 0 ≤ a) (a1 : a ≤ 18446744073709551615) (b0 : 0 ≤ b) (b1 : b ≤ 18446744073709551615) (x0 : 0 ≤ x) (x1 : x ≤ 18446744073709551615) :
    Calls Tryz.prog 165 #[.func (.func 166) #[.agg #[.int .u64 a, .int .u64 b]] #[], .int .u64 x, .int .i64 n] w fun e w' => e = .returned (.int .i64 (lin a b x % n)) ∧ Below w.heap.size w w' := by
  have l := lin_bd a b x
  have m0 := Int.emod_nonneg (lin a b x) (show n ≠ 0 by omega)
  have m1 := mod_le (lin a b x) n l.1 h
  have hn : IntKind.u64.wrap n = n := IntWalk.u64_in n ⟨by omega, by omega⟩
  have hn0 : ¬ n = 0 := by omega
  go_enter Tryz.func165, Tryz.ntmps165
  go_wp2_with (go_at_call 166; ((with_reducible refine (at_any a b x _ a0 a1 b0 b1 x0 x1).mono ?_)); rintro e w' ⟨rfl, hb⟩; obtain ⟨bs, d, rfl⟩ := below_grow hb; clear hb)
  go_ret
  refine ⟨rfl, ?_⟩
  repeat' (first | (with_reducible exact Below.refl _ _) | (with_reducible assumption) | (with_reducible refine below_over ?_ _ _) | (with_reducible refine Lw.below_alloc ?_ _) | (with_reducible refine Below.drew ?_) | (with_reducible refine below_drewN ?_ _) | (with_reducible refine Below.setCell ?_ ?_ _) | go_size)
theorem bucket_any (a b x n : Int) (w : World) (a0 : 0 ≤ a) (a1 : a ≤ 18446744073709551615) (b0 : 0 ≤ b) (b1 : b ≤ 18446744073709551615) (x0 : 0 ≤ x) (x1 : x ≤ 18446744073709551615) (n0 : -9223372036854775808 ≤ n) (n1 : n ≤ 9223372036854775807) :
    Calls Tryz.prog 159 #[.int .u64 a, .int .u64 b, .int .u64 x, .int .i64 n] w fun e w' => e = .returned (.int .i64 (buck a b x n)) ∧ Below w.heap.size w w' := by
  have hmf : ∀ (fn : Fn) (first cap : Array Value) (w : World), (Instr.makeFunc fn first cap).run Tryz.prog w = .ok (.func fn first cap) w := fun _ _ _ _ => rfl
  by_cases h : n < 1
  · have e : buck a b x n = -1 := if_pos h
    go_enter Tryz.func159, Tryz.ntmps159
    go_wp2_with (go_at_call 165; ((with_reducible refine (left_no _ _ _ x n _ h).mono ?_)); rintro e w' ⟨rfl, rfl⟩)
    go_ret
    exact ⟨ret_int e.symm, Below.refl _ _⟩
  · have e : buck a b x n = lin a b x % n := if_neg h
    go_enter Tryz.func159, Tryz.ntmps159
    go_wp2_with (go_at_call 165; ((with_reducible refine (left_yes a b x n _ (by omega) n1 a0 a1 b0 b1 x0 x1).mono ?_)); rintro e w' ⟨rfl, hb⟩; obtain ⟨bs, d, rfl⟩ := below_grow hb; clear hb)
    go_ret
    refine ⟨ret_int e.symm, ?_⟩
    repeat' (first | (with_reducible exact Below.refl _ _) | (with_reducible assumption) | (with_reducible refine below_over ?_ _ _) | (with_reducible refine Lw.below_alloc ?_ _) | (with_reducible refine Below.drew ?_) | (with_reducible refine below_drewN ?_ _) | (with_reducible refine Below.setCell ?_ ?_ _) | go_size)
end Go.Proofs.YtmdkdjgamhaeoaaGreat.Hsh
/- The walks of the document's own answers for layer 4, and what the laws of layer 4 say of plain numbers. Printed by wip/gen/hsh.py. -/
namespace Go.Proofs.YtmdkdjgamhaeoaaGreat.Hsh
open Go.RowKit Fld Lw
set_option linter.unusedVariables false
/-! ### What is said of numbers -/
theorem zero_of (a t : Int) (ht : fold t ≠ 0) (h : mul a t = 0) : fold a = 0 := by
  have e := mul_back a t ht
  rw [h] at e
  rw [← e, mul_comm, mul_zero _ 0 rfl]
theorem fold_sub (x y : Int) : fold (sub x y) = sub x y := fold_of _ (sub_bd x y).1 (sub_bd x y).2
theorem slope (x u y v : Int) (h : sub x y ≠ 0) : mul (thrA x u y v) (sub x y) = sub u v := by
  unfold thrA
  rw [← mul_assoc, mul_comm (inv (sub x y)), inv_is _ (by rw [fold_sub]; exact h), mul_one, fold_sub]
theorem slope_iff (A x u y v : Int) : mul A (sub x y) = sub u v ↔ (A * x - A * y - (u - v)) % 2305843009213693951 = 0 := by
  unfold mul sub
  rw [mul_mod, Int.mul_sub]
  omega
theorem lin_eq (a b x : Int) : lin a b x = (a * x + b) % 2305843009213693951 := by unfold lin add mul; omega
theorem thrA_bd (x u y v : Int) : 0 ≤ thrA x u y v ∧ thrA x u y v ≤ 2305843009213693950 := mul_bd _ _
theorem meets1 (x u y v : Int) (h : sub x y ≠ 0) : lin (thrA x u y v) (thrB x u y v) x = fold u := by
  rw [lin_eq]
  unfold thrB sub fold
  rw [lin_eq]
  omega
theorem meets2 (x u y v : Int) (h : sub x y ≠ 0) : lin (thrA x u y v) (thrB x u y v) y = fold v := by
  have s := (slope_iff _ x u y v).1 (slope x u y v h)
  rw [lin_eq]
  unfold thrB sub fold
  rw [lin_eq]
  omega
theorem only (x u y v c d : Int) (h : sub x y ≠ 0) : (lin c d x = fold u ∧ lin c d y = fold v) ↔ (fold c = thrA x u y v ∧ fold d = thrB x u y v) := by
  have s := (slope_iff _ x u y v).1 (slope x u y v h)
  have hb := thrA_bd x u y v
  constructor
  · rintro ⟨h1, h2⟩
    have e : (c * x - c * y - (u - v)) % 2305843009213693951 = 0 := by
      rw [lin_eq] at h1 h2
      unfold fold at h1 h2
      omega
    have z : fold (c - thrA x u y v) = 0 := by
      refine zero_of _ (sub x y) (by rw [fold_sub]; exact h) ?_
      unfold mul sub
      rw [mul_mod, Int.mul_sub, Int.sub_mul, Int.sub_mul]
      omega
    have hc : fold c = thrA x u y v := by unfold fold at z ⊢; omega
    have ex : c * x % 2305843009213693951 = thrA x u y v * x % 2305843009213693951 := by
      rw [← hc]
      unfold fold
      rw [mod_mul]
    refine ⟨hc, ?_⟩
    rw [lin_eq] at h1
    unfold thrB sub
    rw [lin_eq]
    unfold fold at h1 ⊢
    omega
  · rintro ⟨hc, hd⟩
    have ex : c * x % 2305843009213693951 = thrA x u y v * x % 2305843009213693951 := by
      rw [← hc]
      unfold fold
      rw [mod_mul]
    have ey : c * y % 2305843009213693951 = thrA x u y v * y % 2305843009213693951 := by
      rw [← hc]
      unfold fold
      rw [mod_mul]
    have m1 := meets1 x u y v h
    have m2 := meets2 x u y v h
    rw [← hd, lin_eq] at m1 m2
    rw [lin_eq, lin_eq]
    unfold fold at m1 m2 ⊢
    omega
theorem steps1 (a b x : Int) : lin a b (add x 1) = add (lin a b x) a := by
  rw [lin_eq, lin_eq]
  unfold add
  have e : a * ((x + 1) % 2305843009213693951) % 2305843009213693951 = (a * x + a) % 2305843009213693951 := by rw [mul_mod, Int.mul_add, Int.mul_one]
  omega
theorem steps2 (a b : Int) : lin a b 0 = fold b := by rw [lin_eq, Int.mul_zero, Int.zero_add]; rfl
end Go.Proofs.YtmdkdjgamhaeoaaGreat.Hsh
/- The walks of the document's own answers for layer 6: a grid of rows, each with memory of its own. -/
namespace Go.Proofs.YtmdkdjgamhaeoaaGreat.Grd
open Go Go.RowKit Lw
set_option linter.unusedVariables false
theorem i64_info : (Tryz.prog.info? 2).map (fun i => (i.zero, i.size, i.bytes)) = some (some (.int .i64 0), 1, 8) := by kernel_rfl
theorem i64s_u : Tryz.prog.underlying 54 = some (.slice 2) := by kernel_rfl
theorem ret_i {k : IntKind} {a b : Int} (h : a = b) : Ending.returned (.int k a) = .returned (.int k b) := by rw [h]
theorem ret_b {a b : Bool} (h : a = b) : Ending.returned (.bool a) = .returned (.bool b) := by rw [h]
/-- A row: its block, how much it may hold, its numbers. -/
abbrev Row := Nat × Nat × List Int
def rowHd (r : Row) : Value := .slice (some ⟨r.1, 0, none⟩) r.2.2.length r.2.1
structure RG (w : World) (b : Nat) (hdr : Value) (R : List Row) : Prop where
  cell : w.heap[b]? = some (.cells #[hdr] 124 (0, 0))
  outer : w.ownsRow 0 54 1 hdr R.length (R.map rowHd)
  rows : ∀ r ∈ R, w.ownsRow 0 2 1 (rowHd r) r.2.2.length (r.2.2.map (Value.int .i64))
  apart1 : hdr.ownBlock ≠ some b
  apart2 : ∀ r ∈ R, r.1 ≠ b ∧ hdr.ownBlock ≠ some r.1
  nd : (R.map (·.1)).Nodup
def RF (b : Nat) (hdr : Value) (R : List Row) (k : Nat) : Prop := k = b ∨ hdr.ownBlock = some k ∨ ∃ r ∈ R, r.1 = k
theorem RG.keep {F : Nat → Prop} {w w' : World} {b : Nat} {hdr : Value} {R : List Row} (h : RG w b hdr R) (k : Kept F w w') (hf : ∀ q, RF b hdr R q → ¬ F q) : RG w' b hdr R where
  cell := k.heap h.cell (hf b (.inl rfl))
  outer := k.own h.outer (fun q hq => hf q (.inr (.inl hq)))
  rows := fun r hr => k.own (h.rows r hr) (fun q hq => hf q (.inr (.inr ⟨r, hr, by simpa [rowHd, Value.ownBlock] using hq⟩)))
  apart1 := h.apart1
  apart2 := h.apart2
  nd := h.nd
/-- The number of a cell; 0 where there is none. -/
def at2 (L : List (List Int)) (row col : Int) : Int := if row < 0 ∨ col < 0 then 0 else ((L[row.toNat]?.getD [])[col.toNat]?).getD 0
def in2 (L : List (List Int)) (row col : Int) : Bool := decide (0 ≤ row ∧ row < L.length ∧ 0 ≤ col ∧ col < (L[row.toNat]?.getD []).length)
def nums (R : List Row) : List (List Int) := R.map (fun r => r.2.2)
theorem at2_out {L : List (List Int)} {row col : Int} (h : row < 0 ∨ (L.length : Int) ≤ row ∨ col < 0 ∨ ((L[row.toNat]?.getD []).length : Int) ≤ col) : at2 L row col = 0 := by
  unfold at2
  split
  · rfl
  · rename_i h2
    have h3 : L.length ≤ row.toNat ∨ (L[row.toNat]?.getD []).length ≤ col.toNat := by omega
    rcases h3 with h3 | h3
    · rw [List.getElem?_eq_none h3]; rfl
    · rw [List.getElem?_eq_none h3]; rfl
theorem RG.hd {w : World} {b : Nat} {hdr : Value} {R : List Row} (h : RG w b hdr R) : ∃ A cap, hdr = .slice A R.length cap ∧ R.length ≤ cap ∧ (A = none → R.length = 0) ∧ ∀ j r, R[j]? = some r → ∃ ad, A = some ad ∧ w.cell? (ad.add j) = some (rowHd r) := by
  rcases h.outer.2 with ⟨h1, h2⟩ | ⟨g, cap, cur, h1, h2, h3, h4, h5, h6, h7⟩
  · refine ⟨none, 0, by rw [h1, h2], by omega, fun _ => h2, fun j r hj => ?_⟩
    have := (List.getElem?_eq_some_iff.1 hj).1
    omega
  · refine ⟨some ⟨g, 0, none⟩, cap, h1, h4, (fun h => by cases h), fun j r hj => ⟨_, rfl, ?_⟩⟩
    exact h.outer.cells (g := g) (by rw [h1]; rfl) j _ (by rw [List.getElem?_map, hj]; rfl)
/-- The rows with one number set. -/
def set2 (R : List Row) (K C : Nat) (n : Int) : List Row := R.modify K (fun r => (r.1, r.2.1, r.2.2.set C n))
def put2 (R : List Row) (row col n : Int) : List Row := if in2 (nums R) row col = true then set2 R row.toNat col.toNat n else R
theorem set2_len (R : List Row) (K C : Nat) (n : Int) : (set2 R K C n).length = R.length := by simp [set2]
theorem set2_get (R : List Row) (K C : Nat) (n : Int) (i : Nat) : (set2 R K C n)[i]? = if K = i then (R[i]?).map (fun r => (r.1, r.2.1, r.2.2.set C n)) else R[i]? := by
  unfold set2
  rw [List.getElem?_modify]
  by_cases h : K = i <;> simp [h]
theorem set2_hd (R : List Row) (K C : Nat) (n : Int) : (set2 R K C n).map rowHd = R.map rowHd := by
  apply List.ext_getElem?
  intro i
  rw [List.getElem?_map, List.getElem?_map, set2_get]
  split
  · cases R[i]? <;> simp [rowHd]
  · rfl
theorem set2_bl (R : List Row) (K C : Nat) (n : Int) : (set2 R K C n).map (·.1) = R.map (·.1) := by
  apply List.ext_getElem?
  intro i
  rw [List.getElem?_map, List.getElem?_map, set2_get]
  split
  · cases R[i]? <;> simp
  · rfl
theorem set2_mem {R : List Row} {K C : Nat} {n : Int} {r : Row} (h : r ∈ set2 R K C n) : ∃ (i : Nat) (q : Row), R[i]? = some q ∧ r.1 = q.1 ∧ r.2.1 = q.2.1 ∧ ((K = i ∧ r.2.2 = q.2.2.set C n) ∨ (K ≠ i ∧ r.2.2 = q.2.2)) := by
  obtain ⟨i, hi, e⟩ := List.mem_iff_getElem.1 h
  have e2 : (set2 R K C n)[i]? = some r := by rw [List.getElem?_eq_getElem hi, e]
  rw [set2_get] at e2
  split at e2
  · rename_i hk
    obtain ⟨q, hq, rfl⟩ := Option.map_eq_some_iff.1 e2
    exact ⟨i, q, hq, rfl, rfl, .inl ⟨hk, rfl⟩⟩
  · rename_i hk
    exact ⟨i, r, e2, rfl, rfl, .inr ⟨hk, rfl⟩⟩
theorem RG.put {w : World} {b : Nat} {hdr : Value} {R : List Row} (h : RG w b hdr R) {K : Nat} {r : Row} (hr : R[K]? = some r) (C : Nat) (n : Int) : RG (w.setCell ⟨r.1, C, none⟩ (.int .i64 n)) b hdr (set2 R K C n) := by
  have hrm := List.mem_of_getElem? hr
  have hst := (h.rows r hrm).stored (g := r.1) (cap := r.2.1) C (.int .i64 n)
  have hk : Kept (fun q => q = r.1) w (w.setCell ⟨r.1, C, none⟩ (.int .i64 n)) := Kept.set (F := fun q => q = r.1) (Kept.refl _ w) (.inl rfl) C _
  have hnd := h.nd
  have uniq : ∀ (i : Nat) (q : Row), R[i]? = some q → q.1 = r.1 → i = K := by
    intro i q hq e
    have h1 := (List.getElem?_eq_some_iff.1 hq).1
    have h2 := (List.getElem?_eq_some_iff.1 hr).1
    have g1 := (List.getElem?_eq_some_iff.1 hq).2
    have g2 := (List.getElem?_eq_some_iff.1 hr).2
    refine Decidable.by_contra fun hne => ?_
    rcases Nat.lt_or_gt_of_ne hne with h3 | h3
    · exact List.pairwise_iff_getElem.1 hnd i K (by simpa using h1) (by simpa using h2) h3 (by simp [g1, g2, e])
    · exact List.pairwise_iff_getElem.1 hnd K i (by simpa using h2) (by simpa using h1) h3 (by simp [g1, g2, e])
  refine ⟨hk.heap h.cell (fun e => (h.apart2 r hrm).1 e.symm), ?_, ?_, h.apart1, ?_, by rw [set2_bl]; exact hnd⟩
  · rw [set2_len, set2_hd]
    exact hk.own h.outer (fun q hq e => (h.apart2 r hrm).2 (by rw [hq, e]))
  · intro x hx
    obtain ⟨i, q, hq, e1, e2, h3⟩ := set2_mem hx
    have hqm := List.mem_of_getElem? hq
    obtain ⟨x1, x2, x3⟩ := x
    obtain ⟨q1, q2, q3⟩ := q
    simp only at e1 e2 h3
    subst e1 e2
    rcases h3 with ⟨hk2, h3⟩ | ⟨hk2, h3⟩
    · subst h3
      subst hk2
      rw [hr] at hq
      injection hq with hq
      subst hq
      have h4 := hst.1
      rw [← List.map_set] at h4
      simpa [rowHd] using h4
    · subst h3
      exact hk.own (h.rows _ hqm) (fun p hp e => hk2 (uniq i _ hq (by simp [rowHd, Value.ownBlock] at hp; rw [hp, e])).symm)
  · intro x hx
    obtain ⟨i, q, hq, e1, e2, h3⟩ := set2_mem hx
    rw [e1]
    exact h.apart2 q (List.mem_of_getElem? hq)
theorem RG.blt {w : World} {b : Nat} {hdr : Value} {R : List Row} (h : RG w b hdr R) {k : Nat} (hk : RF b hdr R k) : k < w.heap.size := by
  rcases hk with rfl | hk | ⟨r, hr, rfl⟩
  · rcases Nat.lt_or_ge k w.heap.size with h1 | h1
    · exact h1
    · have := h.cell; rw [Array.getElem?_eq_none h1] at this; cases this
  · exact own_lt h.outer hk
  · exact own_lt (h.rows r hr) rfl
theorem RG.push {w w4 : World} {b : Nat} {hdr hdr' : Value} {R : List Row} {g c : Nat} {zs : List Int} (h : RG w b hdr R) (hk : Kept (fun q => q = b ∨ hdr.ownBlock = some q) w w4)
    (hc : w4.heap[b]? = some (.cells #[hdr'] 124 (0, 0))) (ho : w4.ownsRow 0 54 1 hdr' (R.length + 1) (R.map rowHd ++ [rowHd (g, c, zs)]))
    (hr : w4.ownsRow 0 2 1 (rowHd (g, c, zs)) zs.length (zs.map (Value.int .i64))) (hg : w.heap.size ≤ g)
    (hh : hdr'.ownBlock = hdr.ownBlock ∨ ∃ q, hdr'.ownBlock = some q ∧ w.heap.size ≤ q ∧ q ≠ g) : RG w4 b hdr' (R ++ [(g, c, zs)]) := by
  have hb := h.blt (.inl rfl)
  have hold : ∀ q, hdr.ownBlock = some q → q < w.heap.size := fun q hq => h.blt (.inr (.inl hq))
  have hrow : ∀ r ∈ R, r.1 < w.heap.size := fun r hr => h.blt (.inr (.inr ⟨r, hr, rfl⟩))
  refine ⟨hc, by simpa using ho, ?_, ?_, ?_, ?_⟩
  · intro r hrm
    rcases List.mem_append.1 hrm with h1 | h1
    · exact hk.own (h.rows r h1) (fun q hq e => by
        simp [rowHd, Value.ownBlock] at hq
        rcases e with e | e
        · exact (h.apart2 r h1).1 (by rw [hq, e])
        · exact (h.apart2 r h1).2 (by rw [hq, e]))
    · simp at h1
      subst h1
      exact hr
  · rcases hh with h1 | ⟨q, h1, h2, h3⟩
    · rw [h1]; exact h.apart1
    · rw [h1]; intro e; injection e with e; omega
  · intro r hrm
    rcases List.mem_append.1 hrm with h1 | h1
    · refine ⟨(h.apart2 r h1).1, ?_⟩
      rcases hh with h2 | ⟨q, h2, h3, h4⟩
      · rw [h2]; exact (h.apart2 r h1).2
      · rw [h2]; intro e; injection e with e; have := hrow r h1; omega
    · simp at h1
      subst h1
      refine ⟨by simp only; omega, ?_⟩
      rcases hh with h2 | ⟨q, h2, h3, h4⟩
      · rw [h2]; intro e; have := hold _ e; simp only at this; omega
      · rw [h2]; intro e; injection e with e; exact h4 e
  · rw [List.map_append, List.nodup_append]
    refine ⟨h.nd, by simp, ?_⟩
    intro x hx y hy e
    simp at hy
    subst hy
    subst e
    obtain ⟨r, hr, e⟩ := List.mem_map.1 hx
    have := hrow r hr
    omega
def cl (n : Int) (m : Nat) : Nat := min n.toNat m
end Go.Proofs.YtmdkdjgamhaeoaaGreat.Grd
/- Grids as lists of rows: what Put, Plus, Minus make of them; a row of numbers as a thing. -/
namespace Go.Proofs.YtmdkdjgamhaeoaaGreat.Grd
open Go Go.RowKit Lw
set_option linter.unusedVariables false
structure Dims (m n : Nat) (L : List (List Int)) : Prop where
  len : L.length = m
  m8 : m ≤ 8
  n128 : n ≤ 128
  rows : ∀ r ∈ L, r.length = n ∧ In64 r
def setL (L : List (List Int)) (row col x : Int) : List (List Int) := if in2 L row col = true then L.modify row.toNat (fun r => r.set col.toNat x) else L
def zerosL (m n : Nat) : List (List Int) := List.replicate m (List.replicate n 0)
def rowS (s : Int) (xs ys : List Int) : List Int := List.zipWith (fun x y => x + s * y) xs ys
def gridS (s : Int) (L M : List (List Int)) : List (List Int) := List.zipWith (rowS s) L M
def fitsAll (J : List (List Int)) : Bool := J.all (fun r => r.all Wid.fit64)
theorem in2_dims {m n : Nat} {L : List (List Int)} (h : Dims m n L) (row col : Int) : in2 L row col = decide (0 ≤ row ∧ row < m ∧ 0 ≤ col ∧ col < n) := by
  unfold in2
  rw [h.len]
  by_cases h1 : 0 ≤ row ∧ row < m
  · have h2 : row.toNat < L.length := by rw [h.len]; omega
    have e : (L[row.toNat]?.getD []).length = n := by
      rw [List.getElem?_eq_getElem h2]
      exact (h.rows _ (List.getElem_mem h2)).1
    rw [e]
  · have g1 : ¬ (0 ≤ row ∧ row < (m : Int) ∧ 0 ≤ col ∧ col < ((L[row.toNat]?.getD []).length : Int)) := fun h => h1 ⟨h.1, h.2.1⟩
    have g2 : ¬ (0 ≤ row ∧ row < (m : Int) ∧ 0 ≤ col ∧ col < (n : Int)) := fun h => h1 ⟨h.1, h.2.1⟩
    rw [decide_eq_false g1, decide_eq_false g2]
theorem in64_set {r : List Int} (h : In64 r) (j : Nat) {x : Int} (h0 : -9223372036854775808 ≤ x) (h1 : x ≤ 9223372036854775807) : In64 (r.set j x) := by
  intro v hv
  rcases List.mem_or_eq_of_mem_set hv with h2 | h2
  · exact h v h2
  · subst h2; exact ⟨h0, h1⟩
theorem Dims.set {m n : Nat} {L : List (List Int)} (h : Dims m n L) (row col : Int) {x : Int} (h0 : -9223372036854775808 ≤ x) (h1 : x ≤ 9223372036854775807) : Dims m n (setL L row col x) := by
  unfold setL
  split
  · refine ⟨by rw [List.length_modify]; exact h.len, h.m8, h.n128, fun r hr => ?_⟩
    obtain ⟨i, hi, e⟩ := List.mem_iff_getElem.1 hr
    rw [List.getElem_modify] at e
    rw [List.length_modify] at hi
    have h2 := h.rows _ (List.getElem_mem hi)
    split at e
    · subst e; exact ⟨by rw [List.length_set]; exact h2.1, in64_set h2.2 _ h0 h1⟩
    · subst e; exact h2
  · exact h
theorem dims_zeros {m n : Nat} (h : m ≤ 8) (g : n ≤ 128) : Dims m n (zerosL m n) := by
  refine ⟨by simp [zerosL], h, g, fun r hr => ?_⟩
  have := (List.mem_replicate.1 hr).2
  subst this
  exact ⟨by simp, fun v hv => by have := (List.mem_replicate.1 hv).2; subst this; exact ⟨by omega, by omega⟩⟩
/-- A row of numbers, its memory its own. -/
def Row1 (w : World) (A : Option Addr) (Z : List Int) : Prop := (A = none → Z = []) ∧ ∀ a, A = some a → ∃ g i, a = ⟨g, i, none⟩ ∧ Ord.Mid w g i Z
def rowT (A : Option Addr) (Z : List Int) : Thing where
  I := fun w => Row1 w A Z
  F := fun k => ∃ a, A = some a ∧ a.block = k
  keep := fun w w' H h hk hf => ⟨h.1, fun a ha => by
    obtain ⟨g, i, rfl, hm⟩ := h.2 a ha
    exact ⟨g, i, rfl, hm.keep hk (hf g ⟨_, ha, rfl⟩)⟩⟩
  lt := fun w h k hk => by
    obtain ⟨a, ha, rfl⟩ := hk
    obtain ⟨g, i, rfl, hm⟩ := h.2 a ha
    exact hm.lt
theorem Row1.rd {w : World} {A : Option Addr} {Z : List Int} (h : Row1 w A Z) : Rd .i64 w A Z := by
  intro j v hv
  cases A with
  | none => rw [h.1 rfl] at hv; simp at hv
  | some a =>
    obtain ⟨g, i, rfl, hm⟩ := h.2 a rfl
    exact hm.rd j v hv
theorem mem_zip {α β γ : Type} {f : α → β → γ} : ∀ {xs : List α} {ys : List β} {z : γ}, z ∈ List.zipWith f xs ys → ∃ x ∈ xs, ∃ y ∈ ys, z = f x y
  | [], _, _, h => by simp at h
  | _ :: _, [], _, h => by simp at h
  | x :: xs, y :: ys, z, h => by
    rw [List.zipWith_cons_cons] at h
    rcases List.mem_cons.1 h with h | h
    · exact ⟨x, by simp, y, by simp, h⟩
    · obtain ⟨a, ha, b, hb, e⟩ := mem_zip h
      exact ⟨a, by simp [ha], b, by simp [hb], e⟩
theorem fit64_in {x : Int} (h : Wid.fit64 x = true) : -9223372036854775808 ≤ x ∧ x ≤ 9223372036854775807 := by
  have h2 : -9223372036854775808 ≤ x ∧ x < 9223372036854775808 := by simpa [Wid.fit64] using h
  omega
theorem Dims.join {m n : Nat} {L M : List (List Int)} (h : Dims m n L) (g : Dims m n M) {s : Int} (hf : fitsAll (gridS s L M) = true) : Dims m n (gridS s L M) := by
  refine ⟨by unfold gridS; rw [List.length_zipWith, h.len, g.len]; omega, h.m8, h.n128, fun r hr => ?_⟩
  have h2 : In64 r := fun v hv => fit64_in (List.all_eq_true.1 (List.all_eq_true.1 hf r hr) v hv)
  obtain ⟨a, ha, b, hb, rfl⟩ := mem_zip hr
  exact ⟨by unfold rowS; rw [List.length_zipWith, (h.rows a ha).1, (g.rows b hb).1]; omega, h2⟩
/-- What Plus (s = 1) and Minus (s = -1) answer, and make. -/
def jcode (s : Int) (m n m' n' : Nat) (L M : List (List Int)) : Int := if m = m' ∧ n = n' then (if fitsAll (gridS s L M) = true then 0 else 4) else 5
def jres (s : Int) (m n m' n' : Nat) (L M : List (List Int)) : List (List Int) := if m = m' ∧ n = n' ∧ fitsAll (gridS s L M) = true then gridS s L M else L
/-- The first k of the cells qs are set. -/
def puts (L : List (List Int)) (qs : List (Int × Int × Int)) : List (List Int) := qs.foldl (fun L q => setL L q.1 q.2.1 q.2.2) L
/-- Small enough to be doubled. -/
def in62 (v : Int) : Bool := decide (-4611686018427387904 ≤ v ∧ v < 4611686018427387904)
end Go.Proofs.YtmdkdjgamhaeoaaGreat.Grd
