/- A walk of the document's own answers of layer 2: RInt. Parted by wip/gen/split.py. -/
import Derived.Test.YtonbidohhgenlaaWidBase
import Derived.Test.YtonbidohhgenlaaWidDig
import Derived.Test.YtonbidohhgenlaaWidEq
import Derived.Test.YtonbidohhgenlaaWidROfInt
import Derived.WalkSmall
namespace Go.Proofs.Ytonbidohhgenlaa.Wid
open Go.RowKit
set_option linter.unusedVariables false
set_option maxRecDepth 100000 in
theorem rint_any (z : Int) (x0 x1 x2 x3 x4 x5 x6 x7 x8 x9 : Int) (w : World) (hx : [x0, x1, x2, x3, x4, x5, x6, x7, x8, x9] = dl z) (z0 : -730750818665451459101842416358141509827966271488 ≤ z) (z1 : z < 730750818665451459101842416358141509827966271488) :
    Calls Try.prog 43 #[.agg #[.int .i64 (x0), .int .i64 (x1), .int .i64 (x2), .int .i64 (x3), .int .i64 (x4), .int .i64 (x5), .int .i64 (x6), .int .i64 (x7), .int .i64 (x8), .int .i64 (x9)]] w fun e w' => e = .returned (.tuple #[.int .i64 (f64 z), .bool (fit64 z)]) ∧ Below w.heap.size w w' := by
  simp only [dl, List.cons.injEq, and_true] at hx
  obtain ⟨rfl, rfl, rfl, rfl, rfl, rfl, rfl, rfl, rfl, rfl⟩ := hx
  have b0 := dg_bd z 0
  have b1 := dg_bd z 1
  have b2 := dg_bd z 2
  have b3 := dg_bd z 3
  have el := or_lo z
  have en : IntKind.i64.wrap (z % 18446744073709551616) = nn z := rfl
  have en2 : wrap64 (z % 18446744073709551616) = nn z := by unfold nn wrap64; rw [IntKind.wrap_i64]
  have es := int_same z z0 z1
  have eq := eq_long
  have H := Lib.hid (int_vals2 z)
  clear z0 z1
  cases hf : fit64 z
  · rw [hf] at es
    have HF := Lib.hid hf; clear hf
    go_enter Try.func43, Try.ntmps43
    go_wp2
    go_rounds 5
    go_region_with (go_at_call 45; (with_reducible refine (rofint_any _ _ (nn_bd _).1 (nn_bd _).2).mono ?_); rintro e w' ⟨rfl, hb⟩; obtain ⟨hc, hfr⟩ := bcell hb)
    all_goals go_wp2
    all_goals go_ret2
    all_goals refine ⟨ret_int_bool (H.out.2 HF.out) rfl, ?_⟩
    all_goals (repeat' (first | (with_reducible exact Below.refl _ _) | (with_reducible refine below_call ?_ (by with_reducible assumption) (Nat.le_refl _)) | (with_reducible refine below_alloc ?_ _) | (with_reducible refine Below.drew ?_) | (with_reducible refine below_drewN ?_ _) | (with_reducible refine Below.setCell ?_ ?_ _) | go_size))
  · rw [hf] at es
    have HF := Lib.hid hf; clear hf
    go_enter Try.func43, Try.ntmps43
    go_wp2
    go_rounds 5
    go_region_with (go_at_call 45; (with_reducible refine (rofint_any _ _ (nn_bd _).1 (nn_bd _).2).mono ?_); rintro e w' ⟨rfl, hb⟩; obtain ⟨hc, hfr⟩ := bcell hb)
    all_goals go_wp2
    all_goals go_ret2
    all_goals refine ⟨ret_int_bool (H.out.1 HF.out) rfl, ?_⟩
    all_goals (repeat' (first | (with_reducible exact Below.refl _ _) | (with_reducible refine below_call ?_ (by with_reducible assumption) (Nat.le_refl _)) | (with_reducible refine below_alloc ?_ _) | (with_reducible refine Below.drew ?_) | (with_reducible refine below_drewN ?_ _) | (with_reducible refine Below.setCell ?_ ?_ _) | go_size))
end Go.Proofs.Ytonbidohhgenlaa.Wid
