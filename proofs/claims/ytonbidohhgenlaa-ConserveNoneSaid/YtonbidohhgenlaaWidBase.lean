/- Walks of layer 2, one function each: Base. -/
import Derived.Test.YtonbidohhgenlaaWidMath
import Derived.Test.YtonbidohhgenlaaFldMath
import Derived.Handy
import Derived.Deep.QuietTactic
import Derived.BigQuiet
import Derived.Deep.RegionHeld3
import Derived.Shelf.Spec.BitsCarry
namespace Go.Proofs.Ytonbidohhgenlaa.Wid
open Go.RowKit
set_option linter.unusedVariables false

theorem of_vals (n : Int) (h0 : -9223372036854775808 ≤ n) (h1 : n ≤ 9223372036854775807) : n / 9223372036854775808 = fh n ∧ IntKind.u64.wrap n = fl n := by
  rw [(fit_yes (z := n) (by omega) (by omega)).2.1, (fit_yes (z := n) (by omega) (by omega)).2.2, IntKind.wrap_u64]; omega
theorem u64_bd (x : Int) : 0 ≤ IntKind.u64.wrap x ∧ IntKind.u64.wrap x ≤ 18446744073709551615 := by rw [IntKind.wrap_u64]; omega
theorem hi_bd (x : Int) : -9223372036854775808 ≤ wrap64 x ∧ wrap64 x ≤ 9223372036854775807 ∧ (wrap64 x - x) % 18446744073709551616 = 0 := by unfold wrap64; omega
theorem add_far (p q r s : Int) (p0 : -9223372036854775808 ≤ p) (p1 : p ≤ 9223372036854775807) (q0 : 0 ≤ q) (q1 : q ≤ 18446744073709551615)
    (r0 : -9223372036854775808 ≤ r) (r1 : r ≤ 9223372036854775807) (s0 : 0 ≤ s) (s1 : s ≤ 18446744073709551615)
    (h : bits .and .i64 (bits .xor .i64 p (wrap64 ((IntKind.u64.wrap p + IntKind.u64.wrap r + (q + s) / 18446744073709551616) % 18446744073709551616))) (bits .xor .i64 r (wrap64 ((IntKind.u64.wrap p + IntKind.u64.wrap r + (q + s) / 18446744073709551616) % 18446744073709551616))) < 0) :
    0 = fh (vl p q + vl r s) ∧ 0 = fl (vl p q + vl r s) ∧ false = fit (vl p q + vl r s) := by
  have hh := hi_bd ((IntKind.u64.wrap p + IntKind.u64.wrap r + (q + s) / 18446744073709551616) % 18446744073709551616)
  rw [sgn _ _ _ _ p0 p1 hh.1 hh.2.1 r0 r1 hh.1 hh.2.1] at h
  generalize wrap64 ((IntKind.u64.wrap p + IntKind.u64.wrap r + (q + s) / 18446744073709551616) % 18446744073709551616) = H at *
  rw [IntKind.wrap_u64, IntKind.wrap_u64] at hh
  have := fit_no (z := vl p q + vl r s) (by unfold vl; omega)
  exact ⟨this.2.1.symm, this.2.2.symm, this.1.symm⟩
theorem add_near (p q r s : Int) (p0 : -9223372036854775808 ≤ p) (p1 : p ≤ 9223372036854775807) (q0 : 0 ≤ q) (q1 : q ≤ 18446744073709551615)
    (r0 : -9223372036854775808 ≤ r) (r1 : r ≤ 9223372036854775807) (s0 : 0 ≤ s) (s1 : s ≤ 18446744073709551615)
    (h : 0 ≤ bits .and .i64 (bits .xor .i64 p (wrap64 ((IntKind.u64.wrap p + IntKind.u64.wrap r + (q + s) / 18446744073709551616) % 18446744073709551616))) (bits .xor .i64 r (wrap64 ((IntKind.u64.wrap p + IntKind.u64.wrap r + (q + s) / 18446744073709551616) % 18446744073709551616)))) :
    wrap64 ((IntKind.u64.wrap p + IntKind.u64.wrap r + (q + s) / 18446744073709551616) % 18446744073709551616) = fh (vl p q + vl r s) ∧ (q + s) % 18446744073709551616 = fl (vl p q + vl r s) ∧ true = fit (vl p q + vl r s) := by
  have hh := hi_bd ((IntKind.u64.wrap p + IntKind.u64.wrap r + (q + s) / 18446744073709551616) % 18446744073709551616)
  have hx := sgn p _ r _ p0 p1 hh.1 hh.2.1 r0 r1 hh.1 hh.2.1
  generalize wrap64 ((IntKind.u64.wrap p + IntKind.u64.wrap r + (q + s) / 18446744073709551616) % 18446744073709551616) = H at *
  rw [IntKind.wrap_u64, IntKind.wrap_u64] at hh
  generalize bits .and .i64 (bits .xor .i64 p H) (bits .xor .i64 r H) = X at *
  have := fit_yes (z := vl p q + vl r s) (by unfold vl; omega) (by unfold vl; omega)
  rw [this.1, this.2.1, this.2.2]; unfold vl
  exact ⟨by omega, by omega, rfl⟩
theorem sub_far (p q r s : Int) (p0 : -9223372036854775808 ≤ p) (p1 : p ≤ 9223372036854775807) (q0 : 0 ≤ q) (q1 : q ≤ 18446744073709551615)
    (r0 : -9223372036854775808 ≤ r) (r1 : r ≤ 9223372036854775807) (s0 : 0 ≤ s) (s1 : s ≤ 18446744073709551615)
    (h : bits .and .i64 (bits .xor .i64 p r) (bits .xor .i64 p (wrap64 ((IntKind.u64.wrap p - IntKind.u64.wrap r + (q - s) / 18446744073709551616) % 18446744073709551616))) < 0) :
    0 = fh (vl p q - vl r s) ∧ 0 = fl (vl p q - vl r s) ∧ false = fit (vl p q - vl r s) := by
  have hh := hi_bd ((IntKind.u64.wrap p - IntKind.u64.wrap r + (q - s) / 18446744073709551616) % 18446744073709551616)
  rw [sgn _ _ _ _ p0 p1 r0 r1 p0 p1 hh.1 hh.2.1] at h
  generalize wrap64 ((IntKind.u64.wrap p - IntKind.u64.wrap r + (q - s) / 18446744073709551616) % 18446744073709551616) = H at *
  rw [IntKind.wrap_u64, IntKind.wrap_u64] at hh
  have := fit_no (z := vl p q - vl r s) (by unfold vl; omega)
  exact ⟨this.2.1.symm, this.2.2.symm, this.1.symm⟩
theorem sub_near (p q r s : Int) (p0 : -9223372036854775808 ≤ p) (p1 : p ≤ 9223372036854775807) (q0 : 0 ≤ q) (q1 : q ≤ 18446744073709551615)
    (r0 : -9223372036854775808 ≤ r) (r1 : r ≤ 9223372036854775807) (s0 : 0 ≤ s) (s1 : s ≤ 18446744073709551615)
    (h : 0 ≤ bits .and .i64 (bits .xor .i64 p r) (bits .xor .i64 p (wrap64 ((IntKind.u64.wrap p - IntKind.u64.wrap r + (q - s) / 18446744073709551616) % 18446744073709551616)))) :
    wrap64 ((IntKind.u64.wrap p - IntKind.u64.wrap r + (q - s) / 18446744073709551616) % 18446744073709551616) = fh (vl p q - vl r s) ∧ (q - s) % 18446744073709551616 = fl (vl p q - vl r s) ∧ true = fit (vl p q - vl r s) := by
  have hh := hi_bd ((IntKind.u64.wrap p - IntKind.u64.wrap r + (q - s) / 18446744073709551616) % 18446744073709551616)
  have hx := sgn p r p _ p0 p1 r0 r1 p0 p1 hh.1 hh.2.1
  generalize wrap64 ((IntKind.u64.wrap p - IntKind.u64.wrap r + (q - s) / 18446744073709551616) % 18446744073709551616) = H at *
  rw [IntKind.wrap_u64, IntKind.wrap_u64] at hh
  generalize bits .and .i64 (bits .xor .i64 p r) (bits .xor .i64 p H) = X at *
  have := fit_yes (z := vl p q - vl r s) (by unfold vl; omega) (by unfold vl; omega)
  rw [this.1, this.2.1, this.2.2]; unfold vl
  exact ⟨by omega, by omega, rfl⟩

theorem below_box {w w' : World} {o : Obj} (h : Below (w.heap.size + 1) (w.alloc o) w') : Below w.heap.size w w' :=
  ((Below.refl _ _).alloc (Nat.le_refl _) _).trans (h.mono (by omega))
theorem below_call {B : Nat} {W0 wa w1 : World} (h : Below B W0 wa) (hb : Below wa.heap.size wa w1) (hB : B ≤ W0.heap.size) : Below B W0 w1 :=
  h.trans (hb.mono (Nat.le_trans hB h.size))
theorem int_vals (p q : Int) (p0 : -9223372036854775808 ≤ p) (p1 : p ≤ 9223372036854775807) (q0 : 0 ≤ q) (q1 : q ≤ 18446744073709551615) :
    (fh (wrap64 q) = p ∧ fl (wrap64 q) = q → fit64 (vl p q) = true ∧ f64 (vl p q) = wrap64 q) ∧ (¬ (fh (wrap64 q) = p ∧ fl (wrap64 q) = q) → fit64 (vl p q) = false ∧ f64 (vl p q) = 0) := by
  have hh := hi_bd q
  have hf := fit_yes (z := wrap64 q) (by omega) (by omega)
  rw [hf.2.1, hf.2.2]
  generalize wrap64 q = n at *
  constructor
  · intro h
    have := fit64_yes (z := vl p q) (by unfold vl; omega) (by unfold vl; omega)
    refine ⟨this.1, ?_⟩
    rw [this.2]; unfold vl; omega
  · intro h
    exact fit64_no (by unfold vl; omega)
theorem plus_vals (a b : Int) (a0 : -9223372036854775808 ≤ a) (a1 : a ≤ 9223372036854775807) (b0 : -9223372036854775808 ≤ b) (b1 : b ≤ 9223372036854775807) :
    vl (fh (vl (fh a) (fl a) + vl (fh b) (fl b))) (fl (vl (fh a) (fl a) + vl (fh b) (fl b))) = a + b ∧ vl (fh (vl (fh a) (fl a) - vl (fh b) (fl b))) (fl (vl (fh a) (fl a) - vl (fh b) (fl b))) = a - b := by
  rw [vl_fit a (by omega) (by omega), vl_fit b (by omega) (by omega), vl_fit _ (by omega) (by omega), vl_fit _ (by omega) (by omega)]
  exact ⟨rfl, rfl⟩
theorem below_alloc {w w' : World} (h : Below w.heap.size w w') (o : Obj) : Below w.heap.size w (w'.alloc o) := h.alloc h.size o
theorem prod_i64 (a b : Int) (a0 : -9223372036854775808 ≤ a) (a1 : a ≤ 9223372036854775807) (b0 : -9223372036854775808 ≤ b) (b1 : b ≤ 9223372036854775807) :
    -85070591730234615865843651857942052864 ≤ a * b ∧ a * b ≤ 85070591730234615865843651857942052864 := by
  have h1 : a.natAbs * b.natAbs ≤ 9223372036854775808 * 9223372036854775808 := Nat.mul_le_mul (by omega) (by omega)
  have h2 := Int.natAbs_mul a b
  omega
theorem times_nn (a b : Int) (a0 : -9223372036854775808 ≤ a) (a1 : a < 0) (b0 : -9223372036854775808 ≤ b) (b1 : b < 0) :
    wrap64 (wrap64 (wrap64 (IntKind.u64.wrap a * IntKind.u64.wrap b / 18446744073709551616) - b) - a) = fh (a * b) ∧ IntKind.u64.wrap a * IntKind.u64.wrap b % 18446744073709551616 = fl (a * b) := by
  have hp := prod_i64 a b a0 (by omega) b0 (by omega)
  have hf := fit_yes (z := a * b) (by omega) (by omega)
  rw [hf.2.1, hf.2.2, IntKind.wrap_u64, IntKind.wrap_u64]
  have ea : a % 18446744073709551616 = a + 18446744073709551616 := by omega
  have eb : b % 18446744073709551616 = b + 18446744073709551616 := by omega
  have ep : (a + 18446744073709551616) * (b + 18446744073709551616) = a * b + 18446744073709551616 * a + 18446744073709551616 * b + 18446744073709551616 * 18446744073709551616 := by grind
  rw [ea, eb, ep]
  generalize a * b = P at *
  unfold wrap64; omega
theorem times_np (a b : Int) (a0 : -9223372036854775808 ≤ a) (a1 : a < 0) (b0 : 0 ≤ b) (b1 : b ≤ 9223372036854775807) :
    wrap64 (wrap64 (IntKind.u64.wrap a * b / 18446744073709551616) - b) = fh (a * b) ∧ IntKind.u64.wrap a * b % 18446744073709551616 = fl (a * b) := by
  have hp := prod_i64 a b a0 (by omega) (by omega) b1
  have hf := fit_yes (z := a * b) (by omega) (by omega)
  rw [hf.2.1, hf.2.2, IntKind.wrap_u64]
  have ea : a % 18446744073709551616 = a + 18446744073709551616 := by omega
  have ep : (a + 18446744073709551616) * b = a * b + 18446744073709551616 * b := by grind
  rw [ea, ep]
  generalize a * b = P at *
  unfold wrap64; omega
theorem times_pn (a b : Int) (a0 : 0 ≤ a) (a1 : a ≤ 9223372036854775807) (b0 : -9223372036854775808 ≤ b) (b1 : b < 0) :
    wrap64 (wrap64 (a * IntKind.u64.wrap b / 18446744073709551616) - a) = fh (a * b) ∧ a * IntKind.u64.wrap b % 18446744073709551616 = fl (a * b) := by
  have := times_np b a b0 b1 a0 a1
  rw [Int.mul_comm a (IntKind.u64.wrap b), Int.mul_comm a b]; exact this
theorem times_pp (a b : Int) (a0 : 0 ≤ a) (a1 : a ≤ 9223372036854775807) (b0 : 0 ≤ b) (b1 : b ≤ 9223372036854775807) :
    wrap64 (a * b / 18446744073709551616) = fh (a * b) ∧ a * b % 18446744073709551616 = fl (a * b) := by
  have hp := prod_i64 a b (by omega) a1 (by omega) b1
  have h0 : 0 ≤ a * b := Int.mul_nonneg a0 b0
  have hf := fit_yes (z := a * b) (by omega) (by omega)
  rw [hf.2.1, hf.2.2]
  generalize a * b = P at *
  unfold wrap64; omega
end Go.Proofs.Ytonbidohhgenlaa.Wid
