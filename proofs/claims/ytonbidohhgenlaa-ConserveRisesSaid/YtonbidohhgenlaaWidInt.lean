/- Walks of layer 2, one function each: Int. -/
import Derived.Test.YtonbidohhgenlaaWidOf
import Derived.Handy
import Derived.Deep.QuietTactic
import Derived.BigQuiet
import Derived.Deep.RegionHeld3
import Derived.Shelf.Spec.BitsCarry
namespace Go.Proofs.Ytonbidohhgenlaa.Wid
open Go.RowKit
set_option linter.unusedVariables false

theorem int_any (p q : Int) (w : World) (p0 : -9223372036854775808 ≤ p) (p1 : p ≤ 9223372036854775807) (q0 : 0 ≤ q) (q1 : q ≤ 18446744073709551615) :
    Calls Try.prog 39 #[.agg #[.int .i64 p, .int .u64 q]] w fun e w' => e = .returned (.tuple #[.int .i64 (f64 (vl p q)), .bool (fit64 (vl p q))]) ∧ Below w.heap.size w w' := by
  have hv := int_vals p q p0 p1 q0 q1
  have hc0 : ∀ w', Below (w.heap.size + 1) (w.alloc (.cells #[.int .i64 p, .int .u64 q] 79)) w' → w'.cell? ⟨w.heap.size, 0, none⟩ = some (.int .i64 p) := fun w' h => (h.cell (by simp)).trans (by simp [go_sem])
  have hc1 : ∀ w', Below (w.heap.size + 1) (w.alloc (.cells #[.int .i64 p, .int .u64 q] 79)) w' → w'.cell? ⟨w.heap.size, 1, none⟩ = some (.int .u64 q) := fun w' h => (h.cell (by simp)).trans (by simp [go_sem])
  by_cases h1 : fh (wrap64 q) = p
  · have e1 : (fh (wrap64 q) == p) = true := by simpa using h1
    by_cases h2 : fl (wrap64 q) = q
    · have H := Lib.hid (hv.1 ⟨h1, h2⟩)
      have e2 : (fl (wrap64 q) == q) = true := by simpa using h2
      clear hv h1 h2
      go_enter Try.func39, Try.ntmps39
      go_wp2
      go_region_held3 (fun w' => Below (w.heap.size + 1) (w.alloc (.cells #[.int .i64 p, .int .u64 q] 79)) w') (first | exact (Below.refl _ _).drew | exact below_call (by assumption) hb (by simp))
       (first | (go_at_call 38; refine (of_any _ _ (hi_bd _).1 (hi_bd _).2.1).mono ?_; rintro e w' ⟨rfl, hb⟩))
      go_wp2
      go_ret2
      exact ⟨ret_int_bool H.out.2.symm H.out.1.symm, below_box (by assumption)⟩
    · have H := Lib.hid (hv.2 (fun h => h2 h.2))
      have e2 : (fl (wrap64 q) == q) = false := by simpa using h2
      clear hv h1 h2
      go_enter Try.func39, Try.ntmps39
      go_wp2
      go_region_held3 (fun w' => Below (w.heap.size + 1) (w.alloc (.cells #[.int .i64 p, .int .u64 q] 79)) w') (first | exact (Below.refl _ _).drew | exact below_call (by assumption) hb (by simp))
       (first | (go_at_call 38; refine (of_any _ _ (hi_bd _).1 (hi_bd _).2.1).mono ?_; rintro e w' ⟨rfl, hb⟩))
      go_wp2
      go_ret2
      exact ⟨ret_int_bool H.out.2.symm H.out.1.symm, below_box (by assumption)⟩
  · have H := Lib.hid (hv.2 (fun h => h1 h.1))
    have e1 : (fh (wrap64 q) == p) = false := by simpa using h1
    clear hv h1
    go_enter Try.func39, Try.ntmps39
    go_wp2
    go_region_held3 (fun w' => Below (w.heap.size + 1) (w.alloc (.cells #[.int .i64 p, .int .u64 q] 79)) w') (first | exact (Below.refl _ _).drew | exact below_call (by assumption) hb (by simp))
     (first | (go_at_call 38; refine (of_any _ _ (hi_bd _).1 (hi_bd _).2.1).mono ?_; rintro e w' ⟨rfl, hb⟩))
    go_wp2
    go_ret2
    exact ⟨ret_int_bool H.out.2.symm H.out.1.symm, below_box (by assumption)⟩
end Go.Proofs.Ytonbidohhgenlaa.Wid
