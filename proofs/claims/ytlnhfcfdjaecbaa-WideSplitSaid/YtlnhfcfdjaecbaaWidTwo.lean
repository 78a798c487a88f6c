/- Walks of layer 2: Int, Plus, Minus, Times. -/
import Derived.Test.YtlnhfcfdjaecbaaWidOne
import Derived.Test.YtlnhfcfdjaecbaaFldMath
namespace Go.Proofs.Ytlnhfcfdjaecbaa.Wid
open Go.RowKit
set_option linter.unusedVariables false

theorem below_box {w w' : World} {o : Obj} (h : Below (w.heap.size + 1) (w.alloc o) w') : Below w.heap.size w w' :=
  ((Below.refl _ _).alloc (Nat.le_refl _) _).trans (h.mono (by omega))
theorem below_call {B : Nat} {W0 wa w1 : World} (h : Below B W0 wa) (hb : Below wa.heap.size wa w1) (hB : B ≤ W0.heap.size) : Below B W0 w1 :=
  h.trans (hb.mono (Nat.le_trans hB h.size))
theorem int_vals (p q : Int) (p0 : -9223372036854775808 ≤ p) (p1 : p ≤ 9223372036854775807) (q0 : 0 ≤ q) (q1 : q ≤ 18446744073709551615) :
    (fh (wrap64 q) = p ∧ fl (wrap64 q) = q → fit64 (vl p q) = true ∧ f64 (vl p q) = wrap64 q) ∧ (¬ (fh (wrap64 q) = p ∧ fl (wrap64 q) = q) → fit64 (vl p q) = false ∧ f64 (vl p q) = 0) := by
  have hh := hi_bd q
  have hf := fit_yes (z := wrap64 q) (by omega) (by omega)
  rw [hf.2.1, hf.2.2]
  generalize wrap64 q = n at *
  constructor
  · intro h
    have := fit64_yes (z := vl p q) (by unfold vl; omega) (by unfold vl; omega)
    refine ⟨this.1, ?_⟩
    rw [this.2]; unfold vl; omega
  · intro h
    exact fit64_no (by unfold vl; omega)
theorem int_any (p q : Int) (w : World) (p0 : -9223372036854775808 ≤ p) (p1 : p ≤ 9223372036854775807) (q0 : 0 ≤ q) (q1 : q ≤ 18446744073709551615) :
    Calls Try.prog 21 #[.agg #[.int .i64 p, .int .u64 q]] w fun e w' => e = .returned (.tuple #[.int .i64 (f64 (vl p q)), .bool (fit64 (vl p q))]) ∧ Below w.heap.size w w' := by
  have hv := int_vals p q p0 p1 q0 q1
  have hc0 : ∀ w', Below (w.heap.size + 1) (w.alloc (.cells #[.int .i64 p, .int .u64 q] 24)) w' → w'.cell? ⟨w.heap.size, 0, none⟩ = some (.int .i64 p) := fun w' h => (h.cell (by simp)).trans (by simp [go_sem])
  have hc1 : ∀ w', Below (w.heap.size + 1) (w.alloc (.cells #[.int .i64 p, .int .u64 q] 24)) w' → w'.cell? ⟨w.heap.size, 1, none⟩ = some (.int .u64 q) := fun w' h => (h.cell (by simp)).trans (by simp [go_sem])
  by_cases h1 : fh (wrap64 q) = p
  · have e1 : (fh (wrap64 q) == p) = true := by simpa using h1
    by_cases h2 : fl (wrap64 q) = q
    · have H := Lib.hid (hv.1 ⟨h1, h2⟩)
      have e2 : (fl (wrap64 q) == q) = true := by simpa using h2
      clear hv h1 h2
      go_enter Try.func21, Try.ntmps21
      go_wp2
      go_region_held3 (fun w' => Below (w.heap.size + 1) (w.alloc (.cells #[.int .i64 p, .int .u64 q] 24)) w') (first | exact (Below.refl _ _).drew | exact below_call (by assumption) hb (by simp))
       (first | (go_at_call 32; refine (of_any _ _ (hi_bd _).1 (hi_bd _).2.1).mono ?_; rintro e w' ⟨rfl, hb⟩))
      go_wp2
      go_ret2
      exact ⟨ret_int_bool H.out.2.symm H.out.1.symm, below_box (by assumption)⟩
    · have H := Lib.hid (hv.2 (fun h => h2 h.2))
      have e2 : (fl (wrap64 q) == q) = false := by simpa using h2
      clear hv h1 h2
      go_enter Try.func21, Try.ntmps21
      go_wp2
      go_region_held3 (fun w' => Below (w.heap.size + 1) (w.alloc (.cells #[.int .i64 p, .int .u64 q] 24)) w') (first | exact (Below.refl _ _).drew | exact below_call (by assumption) hb (by simp))
       (first | (go_at_call 32; refine (of_any _ _ (hi_bd _).1 (hi_bd _).2.1).mono ?_; rintro e w' ⟨rfl, hb⟩))
      go_wp2
      go_ret2
      exact ⟨ret_int_bool H.out.2.symm H.out.1.symm, below_box (by assumption)⟩
  · have H := Lib.hid (hv.2 (fun h => h1 h.1))
    have e1 : (fh (wrap64 q) == p) = false := by simpa using h1
    clear hv h1
    go_enter Try.func21, Try.ntmps21
    go_wp2
    go_region_held3 (fun w' => Below (w.heap.size + 1) (w.alloc (.cells #[.int .i64 p, .int .u64 q] 24)) w') (first | exact (Below.refl _ _).drew | exact below_call (by assumption) hb (by simp))
     (first | (go_at_call 32; refine (of_any _ _ (hi_bd _).1 (hi_bd _).2.1).mono ?_; rintro e w' ⟨rfl, hb⟩))
    go_wp2
    go_ret2
    exact ⟨ret_int_bool H.out.2.symm H.out.1.symm, below_box (by assumption)⟩

theorem plus_vals (a b : Int) (a0 : -9223372036854775808 ≤ a) (a1 : a ≤ 9223372036854775807) (b0 : -9223372036854775808 ≤ b) (b1 : b ≤ 9223372036854775807) :
    vl (fh (vl (fh a) (fl a) + vl (fh b) (fl b))) (fl (vl (fh a) (fl a) + vl (fh b) (fl b))) = a + b ∧ vl (fh (vl (fh a) (fl a) - vl (fh b) (fl b))) (fl (vl (fh a) (fl a) - vl (fh b) (fl b))) = a - b := by
  rw [vl_fit a (by omega) (by omega), vl_fit b (by omega) (by omega), vl_fit _ (by omega) (by omega), vl_fit _ (by omega) (by omega)]
  exact ⟨rfl, rfl⟩
theorem below_alloc {w w' : World} (h : Below w.heap.size w w') (o : Obj) : Below w.heap.size w (w'.alloc o) := h.alloc h.size o
theorem plus_any (a b : Int) (w : World) (a0 : -9223372036854775808 ≤ a) (a1 : a ≤ 9223372036854775807) (b0 : -9223372036854775808 ≤ b) (b1 : b ≤ 9223372036854775807) :
    Calls Try.prog 29 #[.int .i64 a, .int .i64 b] w fun e w' => e = .returned (.tuple #[.int .i64 (f64 (a + b)), .bool (fit64 (a + b))]) ∧ Below w.heap.size w w' := by
  have H := Lib.hid (plus_vals a b a0 a1 b0 b1).1
  go_enter Try.func29, Try.ntmps29
  go_wp2_with (first
    | (go_at_call 32; refine (of_any _ _ (by omega) (by omega)).mono ?_; rintro e w' ⟨rfl, hb⟩)
    | (go_at_call 12; refine (add_any _ _ _ _ _ (fh_bd _).1 (fh_bd _).2 (fl_bd _).1 (fl_bd _).2 (fh_bd _).1 (fh_bd _).2 (fl_bd _).1 (fl_bd _).2).mono ?_; rintro e w' ⟨rfl, hb⟩)
    | (go_at_call 21; refine (int_any _ _ _ (fh_bd _).1 (fh_bd _).2 (fl_bd _).1 (fl_bd _).2).mono ?_; rintro e w' ⟨rfl, hb⟩))
  go_ret2
  refine ⟨ret_int_bool (by rw [H.out]) (by rw [H.out]), ?_⟩
  repeat' (first | (with_reducible exact Below.refl _ _) | (with_reducible refine below_call ?_ (by with_reducible assumption) (Nat.le_refl _)) | (with_reducible refine below_alloc ?_ _) | (with_reducible refine Below.drew ?_) | (with_reducible refine Below.setCell ?_ ?_ _))
theorem minus_any (a b : Int) (w : World) (a0 : -9223372036854775808 ≤ a) (a1 : a ≤ 9223372036854775807) (b0 : -9223372036854775808 ≤ b) (b1 : b ≤ 9223372036854775807) :
    Calls Try.prog 30 #[.int .i64 a, .int .i64 b] w fun e w' => e = .returned (.tuple #[.int .i64 (f64 (a - b)), .bool (fit64 (a - b))]) ∧ Below w.heap.size w w' := by
  have H := Lib.hid (plus_vals a b a0 a1 b0 b1).2
  go_enter Try.func30, Try.ntmps30
  go_wp2_with (first
    | (go_at_call 32; refine (of_any _ _ (by omega) (by omega)).mono ?_; rintro e w' ⟨rfl, hb⟩)
    | (go_at_call 13; refine (sub_any _ _ _ _ _ (fh_bd _).1 (fh_bd _).2 (fl_bd _).1 (fl_bd _).2 (fh_bd _).1 (fh_bd _).2 (fl_bd _).1 (fl_bd _).2).mono ?_; rintro e w' ⟨rfl, hb⟩)
    | (go_at_call 21; refine (int_any _ _ _ (fh_bd _).1 (fh_bd _).2 (fl_bd _).1 (fl_bd _).2).mono ?_; rintro e w' ⟨rfl, hb⟩))
  go_ret2
  refine ⟨ret_int_bool (by rw [H.out]) (by rw [H.out]), ?_⟩
  repeat' (first | (with_reducible exact Below.refl _ _) | (with_reducible refine below_call ?_ (by with_reducible assumption) (Nat.le_refl _)) | (with_reducible refine below_alloc ?_ _) | (with_reducible refine Below.drew ?_) | (with_reducible refine Below.setCell ?_ ?_ _))
theorem mul64_any (a b : Int) (w : World) (h0 : 0 ≤ a) (h1 : a ≤ 18446744073709551615) (g0 : 0 ≤ b) (g1 : b ≤ 18446744073709551615) :
    Calls Try.prog 35 #[.int .u64 a, .int .u64 b] w fun e w' => e = .returned (.tuple #[.int .u64 (a * b / 18446744073709551616), .int .u64 (a * b % 18446744073709551616)]) ∧ w = w' := by
  go_enter Try.func35, Try.ntmps35
  go_wp2
  go_ret2
  exact ⟨Fld.ret_two (Fld.mul64_hi a b h0 h1 g0 g1) (Fld.mul64_lo a b), rfl⟩

theorem prod_i64 (a b : Int) (a0 : -9223372036854775808 ≤ a) (a1 : a ≤ 9223372036854775807) (b0 : -9223372036854775808 ≤ b) (b1 : b ≤ 9223372036854775807) :
    -85070591730234615865843651857942052864 ≤ a * b ∧ a * b ≤ 85070591730234615865843651857942052864 := by
  have h1 : a.natAbs * b.natAbs ≤ 9223372036854775808 * 9223372036854775808 := Nat.mul_le_mul (by omega) (by omega)
  have h2 := Int.natAbs_mul a b
  omega
theorem times_nn (a b : Int) (a0 : -9223372036854775808 ≤ a) (a1 : a < 0) (b0 : -9223372036854775808 ≤ b) (b1 : b < 0) :
    wrap64 (wrap64 (wrap64 (IntKind.u64.wrap a * IntKind.u64.wrap b / 18446744073709551616) - b) - a) = fh (a * b) ∧ IntKind.u64.wrap a * IntKind.u64.wrap b % 18446744073709551616 = fl (a * b) := by
  have hp := prod_i64 a b a0 (by omega) b0 (by omega)
  have hf := fit_yes (z := a * b) (by omega) (by omega)
  rw [hf.2.1, hf.2.2, IntKind.wrap_u64, IntKind.wrap_u64]
  have ea : a % 18446744073709551616 = a + 18446744073709551616 := by omega
  have eb : b % 18446744073709551616 = b + 18446744073709551616 := by omega
  have ep : (a + 18446744073709551616) * (b + 18446744073709551616) = a * b + 18446744073709551616 * a + 18446744073709551616 * b + 18446744073709551616 * 18446744073709551616 := by grind
  rw [ea, eb, ep]
  generalize a * b = P at *
  unfold wrap64; omega
theorem times_np (a b : Int) (a0 : -9223372036854775808 ≤ a) (a1 : a < 0) (b0 : 0 ≤ b) (b1 : b ≤ 9223372036854775807) :
    wrap64 (wrap64 (IntKind.u64.wrap a * b / 18446744073709551616) - b) = fh (a * b) ∧ IntKind.u64.wrap a * b % 18446744073709551616 = fl (a * b) := by
  have hp := prod_i64 a b a0 (by omega) (by omega) b1
  have hf := fit_yes (z := a * b) (by omega) (by omega)
  rw [hf.2.1, hf.2.2, IntKind.wrap_u64]
  have ea : a % 18446744073709551616 = a + 18446744073709551616 := by omega
  have ep : (a + 18446744073709551616) * b = a * b + 18446744073709551616 * b := by grind
  rw [ea, ep]
  generalize a * b = P at *
  unfold wrap64; omega
theorem times_pn (a b : Int) (a0 : 0 ≤ a) (a1 : a ≤ 9223372036854775807) (b0 : -9223372036854775808 ≤ b) (b1 : b < 0) :
    wrap64 (wrap64 (a * IntKind.u64.wrap b / 18446744073709551616) - a) = fh (a * b) ∧ a * IntKind.u64.wrap b % 18446744073709551616 = fl (a * b) := by
  have := times_np b a b0 b1 a0 a1
  rw [Int.mul_comm a (IntKind.u64.wrap b), Int.mul_comm a b]; exact this
theorem times_pp (a b : Int) (a0 : 0 ≤ a) (a1 : a ≤ 9223372036854775807) (b0 : 0 ≤ b) (b1 : b ≤ 9223372036854775807) :
    wrap64 (a * b / 18446744073709551616) = fh (a * b) ∧ a * b % 18446744073709551616 = fl (a * b) := by
  have hp := prod_i64 a b (by omega) a1 (by omega) b1
  have h0 : 0 ≤ a * b := Int.mul_nonneg a0 b0
  have hf := fit_yes (z := a * b) (by omega) (by omega)
  rw [hf.2.1, hf.2.2]
  generalize a * b = P at *
  unfold wrap64; omega
theorem times_any (a b : Int) (w : World) (a0 : -9223372036854775808 ≤ a) (a1 : a ≤ 9223372036854775807) (b0 : -9223372036854775808 ≤ b) (b1 : b ≤ 9223372036854775807) :
    Calls Try.prog 18 #[.int .i64 a, .int .i64 b] w fun e w' => e = .returned (.agg #[.int .i64 (fh (a * b)), .int .u64 (fl (a * b))]) ∧ Below w.heap.size w w' := by
  go_enter Try.func18, Try.ntmps18
  go_wp2_with (go_at_call 35; refine (mul64_any _ _ _ (u64_bd _).1 (u64_bd _).2 (u64_bd _).1 (u64_bd _).2).mono ?_; rintro e w' ⟨rfl, rfl⟩)
  · have h := times_nn a b a0 (by assumption) b0 (by assumption)
    go_returns
    exact ⟨ret_agg h.1 h.2, by go_grown⟩
  · have h := times_np a b a0 (by assumption) (by assumption) b1
    go_returns
    exact ⟨ret_agg h.1 h.2, by go_grown⟩
  · have h := times_pn a b (by assumption) a1 b0 (by assumption)
    go_returns
    exact ⟨ret_agg h.1 h.2, by go_grown⟩
  · have h := times_pp a b (by assumption) a1 (by assumption) b1
    go_returns
    exact ⟨ret_agg h.1 h.2, by go_grown⟩
end Go.Proofs.Ytlnhfcfdjaecbaa.Wid
