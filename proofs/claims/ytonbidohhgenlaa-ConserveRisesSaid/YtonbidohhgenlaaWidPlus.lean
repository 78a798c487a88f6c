/- Walks of layer 2, one function each: Plus. -/
import Derived.Test.YtonbidohhgenlaaWidOf
import Derived.Test.YtonbidohhgenlaaWidAdd
import Derived.Test.YtonbidohhgenlaaWidInt
import Derived.Handy
import Derived.Deep.QuietTactic
import Derived.BigQuiet
import Derived.Deep.RegionHeld3
import Derived.Shelf.Spec.BitsCarry
namespace Go.Proofs.Ytonbidohhgenlaa.Wid
open Go.RowKit
set_option linter.unusedVariables false

theorem plus_any (a b : Int) (w : World) (a0 : -9223372036854775808 ≤ a) (a1 : a ≤ 9223372036854775807) (b0 : -9223372036854775808 ≤ b) (b1 : b ≤ 9223372036854775807) :
    Calls Try.prog 26 #[.int .i64 a, .int .i64 b] w fun e w' => e = .returned (.tuple #[.int .i64 (f64 (a + b)), .bool (fit64 (a + b))]) ∧ Below w.heap.size w w' := by
  have H := Lib.hid (plus_vals a b a0 a1 b0 b1).1
  go_enter Try.func26, Try.ntmps26
  go_wp2_with (first
    | (go_at_call 38; refine (of_any _ _ (by omega) (by omega)).mono ?_; rintro e w' ⟨rfl, hb⟩)
    | (go_at_call 37; refine (add_any _ _ _ _ _ (fh_bd _).1 (fh_bd _).2 (fl_bd _).1 (fl_bd _).2 (fh_bd _).1 (fh_bd _).2 (fl_bd _).1 (fl_bd _).2).mono ?_; rintro e w' ⟨rfl, hb⟩)
    | (go_at_call 39; refine (int_any _ _ _ (fh_bd _).1 (fh_bd _).2 (fl_bd _).1 (fl_bd _).2).mono ?_; rintro e w' ⟨rfl, hb⟩))
  go_ret2
  refine ⟨ret_int_bool (by rw [H.out]) (by rw [H.out]), ?_⟩
  repeat' (first | (with_reducible exact Below.refl _ _) | (with_reducible refine below_call ?_ (by with_reducible assumption) (Nat.le_refl _)) | (with_reducible refine below_alloc ?_ _) | (with_reducible refine Below.drew ?_) | (with_reducible refine Below.setCell ?_ ?_ _))
end Go.Proofs.Ytonbidohhgenlaa.Wid
