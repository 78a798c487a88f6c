/- The statements' own head for layer 2: what must be in any case. Printed by wip/gen/wid4.py. -/
import Derived.Test.YtlnhfcfdjaecbaaWidSum
import Derived.Test.YtlnhfcfdjaecbaaWidTxt3
import Derived.OpenShut
import Derived.DataShut
namespace Go.Proofs.Ytlnhfcfdjaecbaa.Wid
open Go.RowKit
set_option linter.unusedVariables false
theorem ds_120 : ds 120 = [48, 50, 49] := by simp [ds_step, ds_zero]
theorem c_of1 (w : World) : Calls Try.prog 32 #[.int .i64 1] w fun e w' => e = .returned (.agg #[.int .i64 0, .int .u64 1]) ∧ Below w.heap.size w w' := by
  refine (of_any 1 w (by decide) (by decide)).mono ?_
  rintro e w' ⟨he, hb⟩
  rw [show fh 1 = 0 from by decide] at he
  rw [show fl 1 = 1 from by decide] at he
  exact ⟨he, hb⟩
theorem c_of120 (w : World) : Calls Try.prog 32 #[.int .i64 (-120)] w fun e w' => e = .returned (.agg #[.int .i64 (-1), .int .u64 18446744073709551496]) ∧ Below w.heap.size w w' := by
  refine (of_any (-120) w (by decide) (by decide)).mono ?_
  rintro e w' ⟨he, hb⟩
  rw [show fh (-120) = -1 from by decide] at he
  rw [show fl (-120) = 18446744073709551496 from by decide] at he
  exact ⟨he, hb⟩
theorem c_ofm1 (w : World) : Calls Try.prog 32 #[.int .i64 (-1)] w fun e w' => e = .returned (.agg #[.int .i64 (-1), .int .u64 18446744073709551615]) ∧ Below w.heap.size w w' := by
  refine (of_any (-1) w (by decide) (by decide)).mono ?_
  rintro e w' ⟨he, hb⟩
  rw [show fh (-1) = -1 from by decide] at he
  rw [show fl (-1) = 18446744073709551615 from by decide] at he
  exact ⟨he, hb⟩
theorem c_of0 (w : World) : Calls Try.prog 32 #[.int .i64 0] w fun e w' => e = .returned (.agg #[.int .i64 0, .int .u64 0]) ∧ Below w.heap.size w w' := by
  refine (of_any 0 w (by decide) (by decide)).mono ?_
  rintro e w' ⟨he, hb⟩
  rw [show fh 0 = 0 from by decide] at he
  rw [show fl 0 = 0 from by decide] at he
  exact ⟨he, hb⟩
theorem c_add1 (w : World) : Calls Try.prog 12 #[.agg #[.int .i64 1, .int .u64 18446744073709551615], .agg #[.int .i64 0, .int .u64 1]] w fun e w' => e = .returned (.tuple #[.agg #[.int .i64 2, .int .u64 0], .bool true]) ∧ Below w.heap.size w w' := by
  refine (add_any 1 18446744073709551615 0 1 w (by decide) (by decide) (by decide) (by decide) (by decide) (by decide) (by decide) (by decide)).mono ?_
  rintro e w' ⟨he, hb⟩
  rw [show fh (vl 1 18446744073709551615 + vl 0 1) = 2 from by decide] at he
  rw [show fl (vl 1 18446744073709551615 + vl 0 1) = 0 from by decide] at he
  rw [show fit (vl 1 18446744073709551615 + vl 0 1) = true from by decide] at he
  exact ⟨he, hb⟩
theorem c_add2 (w : World) : Calls Try.prog 12 #[.agg #[.int .i64 9223372036854775807, .int .u64 0], .agg #[.int .i64 1, .int .u64 0]] w fun e w' => e = .returned (.tuple #[.agg #[.int .i64 0, .int .u64 0], .bool false]) ∧ Below w.heap.size w w' := by
  refine (add_any 9223372036854775807 0 1 0 w (by decide) (by decide) (by decide) (by decide) (by decide) (by decide) (by decide) (by decide)).mono ?_
  rintro e w' ⟨he, hb⟩
  rw [show fh (vl 9223372036854775807 0 + vl 1 0) = 0 from by decide] at he
  rw [show fl (vl 9223372036854775807 0 + vl 1 0) = 0 from by decide] at he
  rw [show fit (vl 9223372036854775807 0 + vl 1 0) = false from by decide] at he
  exact ⟨he, hb⟩
theorem c_plus (w : World) : Calls Try.prog 29 #[.int .i64 9223372036854775807, .int .i64 1] w fun e w' => e = .returned (.tuple #[.int .i64 0, .bool false]) ∧ Below w.heap.size w w' := by
  refine (plus_any 9223372036854775807 1 w (by decide) (by decide) (by decide) (by decide)).mono ?_
  rintro e w' ⟨he, hb⟩
  rw [show f64 (9223372036854775807 + 1) = 0 from by decide] at he
  rw [show fit64 (9223372036854775807 + 1) = false from by decide] at he
  exact ⟨he, hb⟩
theorem c_minus (w : World) : Calls Try.prog 30 #[.int .i64 (-1), .int .i64 9223372036854775807] w fun e w' => e = .returned (.tuple #[.int .i64 (-9223372036854775808), .bool true]) ∧ Below w.heap.size w w' := by
  refine (minus_any (-1) 9223372036854775807 w (by decide) (by decide) (by decide) (by decide)).mono ?_
  rintro e w' ⟨he, hb⟩
  rw [show f64 (-1 - 9223372036854775807) = -9223372036854775808 from by decide] at he
  rw [show fit64 (-1 - 9223372036854775807) = true from by decide] at he
  exact ⟨he, hb⟩
theorem c_times (w : World) : Calls Try.prog 18 #[.int .i64 (-9223372036854775808), .int .i64 (-9223372036854775808)] w fun e w' => e = .returned (.agg #[.int .i64 4611686018427387904, .int .u64 0]) ∧ Below w.heap.size w w' := by
  refine (times_any (-9223372036854775808) (-9223372036854775808) w (by decide) (by decide) (by decide) (by decide)).mono ?_
  rintro e w' ⟨he, hb⟩
  rw [show fh (-9223372036854775808 * -9223372036854775808) = 4611686018427387904 from by decide] at he
  rw [show fl (-9223372036854775808 * -9223372036854775808) = 0 from by decide] at he
  exact ⟨he, hb⟩
theorem c_text (w : World) : Calls Try.prog 24 #[.agg #[.int .i64 (-1), .int .u64 18446744073709551496]] w fun e w' => e = .returned (.string ⟨#[45, 49, 50, 48]⟩) ∧ Below w.heap.size w w' := by
  refine (text_any (-1) 18446744073709551496 w (by decide) (by decide) (by decide) (by decide)).mono ?_
  rintro e w' ⟨he, hb⟩
  rw [show (tx (vl (-1) 18446744073709551496)).toArray = #[45, 49, 50, 48] from by
    have h : vl (-1) 18446744073709551496 = -120 := by decide
    rw [h]; unfold tx; rw [if_pos (by decide), if_neg (by decide), show (-120 : Int).natAbs = 120 from rfl, ds_120]; rfl] at he
  exact ⟨he, hb⟩
theorem c_less (w : World) : Calls Try.prog 26 #[.agg #[.int .i64 (-1), .int .u64 18446744073709551615], .agg #[.int .i64 0, .int .u64 0]] w fun e w' => e = .returned (.bool true) ∧ Below w.heap.size w w' := by
  refine (less_any (-1) 18446744073709551615 0 0 w (by decide) (by decide) (by decide) (by decide) (by decide) (by decide) (by decide) (by decide)).mono ?_
  rintro e w' ⟨he, hb⟩
  rw [show decide (vl (-1) 18446744073709551615 < vl 0 0) = true from by decide] at he
  exact ⟨he, hb⟩
theorem cell_alloc_on {w : World} {a : Addr} {v : Value} (h : w.cell? a = some v) (o : Obj) : (w.alloc o).cell? a = some v := by rw [World.cell?_alloc_lt w o a (cell_lt h)]; exact h
theorem c_sum (g : Nat) (w : World) (h0 : w.cell? ⟨g, 0, none⟩ = some (.int .i64 9223372036854775807)) (h1 : w.cell? ⟨g, 1, none⟩ = some (.int .i64 1)) (h2 : w.cell? ⟨g, 2, none⟩ = some (.int .i64 (-1))) :
    Calls Try.prog 27 #[.slice (some ⟨g, 0, none⟩) 3 3] w fun e w' => e = .returned (.tuple #[.int .i64 9223372036854775807, .bool true]) ∧ Below w.heap.size w w' := by
  refine (sum_any (some ⟨g, 0, none⟩) 3 3 [9223372036854775807, 1, -1] w ?_ rfl (by decide) ?_).mono ?_
  · intro k v hv
    refine ⟨_, rfl, ?_⟩
    rw [add0]
    match k, hv with
    | 0, hv => simp at hv; subst hv; exact h0
    | 1, hv => simp at hv; subst hv; exact h1
    | 2, hv => simp at hv; subst hv; exact h2
    | k + 3, hv => simp at hv
  · intro v hv; simp at hv; omega
  · rintro e w' ⟨he, hb⟩
    rw [show List.sum [9223372036854775807, 1, -1] = (9223372036854775807 : Int) from by decide, show f64 9223372036854775807 = 9223372036854775807 from by decide, show fit64 9223372036854775807 = true from by decide] at he
    exact ⟨he, hb⟩
set_option maxRecDepth 100000 in
theorem shown_any (w : World) : Calls Try.prog 11 #[] w fun e w' => e = .returned (.bool true) ∧ Below w.heap.size w w' := by
  go_enter Try.func11, Try.ntmps11
  go_wp2_with (first
    | (go_at_call 32; (with_reducible refine (c_of1 _).mono ?_); rintro e w' ⟨rfl, hb⟩)
    | (go_at_call 32; (with_reducible refine (c_of120 _).mono ?_); rintro e w' ⟨rfl, hb⟩; have k0 : World.cell? w' ⟨wA.heap.size, 0, none⟩ = some (.int .i64 2) := (by (first | exact cell_on hb k0 | exact cell_on hb (cell_alloc_on k0 _) | exact cell_on hb (cell_alloc_on (cell_alloc_on k0 _) _) | exact cell_on hb (by simp [go_sem]))); have k1 : World.cell? w' ⟨wA.heap.size, 1, none⟩ = some (.int .u64 0) := (by (first | exact cell_on hb k1 | exact cell_on hb (cell_alloc_on k1 _) | exact cell_on hb (cell_alloc_on (cell_alloc_on k1 _) _) | exact cell_on hb (by simp [go_sem]))))
    | (go_at_call 32; (with_reducible refine (c_ofm1 _).mono ?_); rintro e w' ⟨rfl, hb⟩; have k0 : World.cell? w' ⟨wA.heap.size, 0, none⟩ = some (.int .i64 2) := (by (first | exact cell_on hb k0 | exact cell_on hb (cell_alloc_on k0 _) | exact cell_on hb (cell_alloc_on (cell_alloc_on k0 _) _) | exact cell_on hb (by simp [go_sem]))); have k1 : World.cell? w' ⟨wA.heap.size, 1, none⟩ = some (.int .u64 0) := (by (first | exact cell_on hb k1 | exact cell_on hb (cell_alloc_on k1 _) | exact cell_on hb (cell_alloc_on (cell_alloc_on k1 _) _) | exact cell_on hb (by simp [go_sem]))))
    | (go_at_call 32; (with_reducible refine (c_of0 _).mono ?_); rintro e w' ⟨rfl, hb⟩; have k0 : World.cell? w' ⟨wA.heap.size, 0, none⟩ = some (.int .i64 2) := (by (first | exact cell_on hb k0 | exact cell_on hb (cell_alloc_on k0 _) | exact cell_on hb (cell_alloc_on (cell_alloc_on k0 _) _) | exact cell_on hb (by simp [go_sem]))); have k1 : World.cell? w' ⟨wA.heap.size, 1, none⟩ = some (.int .u64 0) := (by (first | exact cell_on hb k1 | exact cell_on hb (cell_alloc_on k1 _) | exact cell_on hb (cell_alloc_on (cell_alloc_on k1 _) _) | exact cell_on hb (by simp [go_sem]))))
    | (go_at_call 12; (with_reducible refine (c_add1 _).mono ?_); rintro e wA ⟨rfl, hb⟩)
    | (go_at_call 12; (with_reducible refine (c_add2 _).mono ?_); rintro e w' ⟨rfl, hb⟩; have k0 : World.cell? w' ⟨wA.heap.size, 0, none⟩ = some (.int .i64 2) := (by (first | exact cell_on hb k0 | exact cell_on hb (cell_alloc_on k0 _) | exact cell_on hb (cell_alloc_on (cell_alloc_on k0 _) _) | exact cell_on hb (by simp [go_sem]))); have k1 : World.cell? w' ⟨wA.heap.size, 1, none⟩ = some (.int .u64 0) := (by (first | exact cell_on hb k1 | exact cell_on hb (cell_alloc_on k1 _) | exact cell_on hb (cell_alloc_on (cell_alloc_on k1 _) _) | exact cell_on hb (by simp [go_sem]))))
    | (go_at_call 29; (with_reducible refine (c_plus _).mono ?_); rintro e w' ⟨rfl, hb⟩; have k0 : World.cell? w' ⟨wA.heap.size, 0, none⟩ = some (.int .i64 2) := (by (first | exact cell_on hb k0 | exact cell_on hb (cell_alloc_on k0 _) | exact cell_on hb (cell_alloc_on (cell_alloc_on k0 _) _) | exact cell_on hb (by simp [go_sem]))); have k1 : World.cell? w' ⟨wA.heap.size, 1, none⟩ = some (.int .u64 0) := (by (first | exact cell_on hb k1 | exact cell_on hb (cell_alloc_on k1 _) | exact cell_on hb (cell_alloc_on (cell_alloc_on k1 _) _) | exact cell_on hb (by simp [go_sem]))))
    | (go_at_call 30; (with_reducible refine (c_minus _).mono ?_); rintro e w' ⟨rfl, hb⟩; have k0 : World.cell? w' ⟨wA.heap.size, 0, none⟩ = some (.int .i64 2) := (by (first | exact cell_on hb k0 | exact cell_on hb (cell_alloc_on k0 _) | exact cell_on hb (cell_alloc_on (cell_alloc_on k0 _) _) | exact cell_on hb (by simp [go_sem]))); have k1 : World.cell? w' ⟨wA.heap.size, 1, none⟩ = some (.int .u64 0) := (by (first | exact cell_on hb k1 | exact cell_on hb (cell_alloc_on k1 _) | exact cell_on hb (cell_alloc_on (cell_alloc_on k1 _) _) | exact cell_on hb (by simp [go_sem]))))
    | (go_at_call 18; (with_reducible refine (c_times _).mono ?_); rintro e w' ⟨rfl, hb⟩; have k0 : World.cell? w' ⟨wA.heap.size, 0, none⟩ = some (.int .i64 2) := (by (first | exact cell_on hb k0 | exact cell_on hb (cell_alloc_on k0 _) | exact cell_on hb (cell_alloc_on (cell_alloc_on k0 _) _) | exact cell_on hb (by simp [go_sem]))); have k1 : World.cell? w' ⟨wA.heap.size, 1, none⟩ = some (.int .u64 0) := (by (first | exact cell_on hb k1 | exact cell_on hb (cell_alloc_on k1 _) | exact cell_on hb (cell_alloc_on (cell_alloc_on k1 _) _) | exact cell_on hb (by simp [go_sem]))))
    | (go_at_call 24; (with_reducible refine (c_text _).mono ?_); rintro e w' ⟨rfl, hb⟩; have k0 : World.cell? w' ⟨wA.heap.size, 0, none⟩ = some (.int .i64 2) := (by (first | exact cell_on hb k0 | exact cell_on hb (cell_alloc_on k0 _) | exact cell_on hb (cell_alloc_on (cell_alloc_on k0 _) _) | exact cell_on hb (by simp [go_sem]))); have k1 : World.cell? w' ⟨wA.heap.size, 1, none⟩ = some (.int .u64 0) := (by (first | exact cell_on hb k1 | exact cell_on hb (cell_alloc_on k1 _) | exact cell_on hb (cell_alloc_on (cell_alloc_on k1 _) _) | exact cell_on hb (by simp [go_sem]))))
    | (go_at_call 26; (with_reducible refine (c_less _).mono ?_); rintro e w' ⟨rfl, hb⟩; have k0 : World.cell? w' ⟨wA.heap.size, 0, none⟩ = some (.int .i64 2) := (by (first | exact cell_on hb k0 | exact cell_on hb (cell_alloc_on k0 _) | exact cell_on hb (cell_alloc_on (cell_alloc_on k0 _) _) | exact cell_on hb (by simp [go_sem]))); have k1 : World.cell? w' ⟨wA.heap.size, 1, none⟩ = some (.int .u64 0) := (by (first | exact cell_on hb k1 | exact cell_on hb (cell_alloc_on k1 _) | exact cell_on hb (cell_alloc_on (cell_alloc_on k1 _) _) | exact cell_on hb (by simp [go_sem]))))
    | (go_at_call 27; refine (c_sum _ _ (by simp [go_sem]) (by simp [go_sem]) (by simp [go_sem])).mono ?_; rintro e w' ⟨rfl, hb⟩; have k0 : World.cell? w' ⟨wA.heap.size, 0, none⟩ = some (.int .i64 2) := (by (first | exact cell_on hb k0 | exact cell_on hb (cell_alloc_on k0 _) | exact cell_on hb (cell_alloc_on (cell_alloc_on k0 _) _) | exact cell_on hb (by simp [go_sem]))); have k1 : World.cell? w' ⟨wA.heap.size, 1, none⟩ = some (.int .u64 0) := (by (first | exact cell_on hb k1 | exact cell_on hb (cell_alloc_on k1 _) | exact cell_on hb (cell_alloc_on (cell_alloc_on k1 _) _) | exact cell_on hb (by simp [go_sem])))))
  go_ret
  refine ⟨rfl, ?_⟩
  repeat' (first | (with_reducible exact Below.refl _ _) | (with_reducible refine below_call ?_ (by with_reducible assumption) (Nat.le_refl _)) | (with_reducible refine below_alloc ?_ _) | (with_reducible refine Below.drew ?_) | (with_reducible refine below_drewN ?_ _) | (with_reducible refine Below.setCell ?_ ?_ _) | go_size)
end Go.Proofs.Ytlnhfcfdjaecbaa.Wid
