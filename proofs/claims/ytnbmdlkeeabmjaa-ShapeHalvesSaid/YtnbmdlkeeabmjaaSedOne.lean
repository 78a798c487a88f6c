/- The walks of Mix, Unmix, Draw. -/
import Derived.Test.YtnbmdlkeeabmjaaSedMath
import Derived.Test.YtnbmdlkeeabmjaaGrow
import Derived.Test.YtnbmdlkeeabmjaaLaw
import Derived.Test.YtnbmdlkeeabmjaaFldFold
namespace Go.Proofs.Ytnbmdlkeeabmjaa.Sed
open Go.RowKit Lw Fld

theorem steps_any (w : World) :
    Calls Try.prog 43 #[] w fun e w' => e = .returned (.agg #[.int .u64 30, .int .u64 13787848793156543929, .int .u64 10871156337175269513, .int .u64 27, .int .u64 10723151780598845931, .int .u64 3573116690164977347, .int .u64 31, .int .u64 1, .int .u64 1]) ∧ Below w.heap.size w w' := by
  go_enter Try.func43, Try.ntmps43
  go_wp2
  go_returns
  exact ⟨rfl, (Below.refl _ _).alloc (Nat.le_refl _) _⟩
theorem steps0 (w : World) : (Instr.index 59 (.agg #[.int .u64 30, .int .u64 13787848793156543929, .int .u64 10871156337175269513, .int .u64 27, .int .u64 10723151780598845931, .int .u64 3573116690164977347, .int .u64 31, .int .u64 1, .int .u64 1]) (.int .i64 0)).run Try.prog w = .ok (.agg #[.int .u64 30, .int .u64 13787848793156543929, .int .u64 10871156337175269513]) w := by kernel_rfl
theorem steps1 (w : World) : (Instr.index 59 (.agg #[.int .u64 30, .int .u64 13787848793156543929, .int .u64 10871156337175269513, .int .u64 27, .int .u64 10723151780598845931, .int .u64 3573116690164977347, .int .u64 31, .int .u64 1, .int .u64 1]) (.int .i64 1)).run Try.prog w = .ok (.agg #[.int .u64 27, .int .u64 10723151780598845931, .int .u64 3573116690164977347]) w := by kernel_rfl
theorem steps2 (w : World) : (Instr.index 59 (.agg #[.int .u64 30, .int .u64 13787848793156543929, .int .u64 10871156337175269513, .int .u64 27, .int .u64 10723151780598845931, .int .u64 3573116690164977347, .int .u64 31, .int .u64 1, .int .u64 1]) (.int .i64 2)).run Try.prog w = .ok (.agg #[.int .u64 31, .int .u64 1, .int .u64 1]) w := by kernel_rfl
theorem mix_any (x : Int) (w : World) (h0 : 0 ≤ x) (h1 : x ≤ 18446744073709551615) :
    Calls Try.prog 36 #[.int .u64 x] w fun e w' => e = .returned (.int .u64 (mix x)) ∧ Below w.heap.size w w' := by
  have i0 := steps0
  have i1 := steps1
  have i2 := steps2
  go_enter Try.func36, Try.ntmps36
  go_wp2_with (go_at_call 43; ((with_reducible refine (steps_any _).mono ?_)); rintro e w' ⟨rfl, hb⟩; obtain ⟨bs, d, rfl⟩ := below_grow hb; clear hb)
  refine wp_loop_rounds 4 ?_
  iterate 3 (rw [rounds_succ]; go_wp2)
  rw [rounds_succ]; go_wp2
  go_ret
  refine ⟨ret_int ?_, ?_⟩
  · exact mix_eq x h0 h1
  · repeat' (first | (with_reducible exact Below.refl _ _) | (with_reducible refine below_over ?_ _ _) | (with_reducible refine Lw.below_alloc ?_ _) | (with_reducible refine Below.drew ?_) | (with_reducible refine below_drewN ?_ _) | (with_reducible refine Below.setCell ?_ ?_ _) | go_size)
theorem setCell_twice (w : World) (a : Addr) (u v : Value) : (w.setCell a u).setCell a v = w.setCell a v := by
  simp only [World.setCell, World.mk.injEq, and_true]
  apply Array.ext_getElem?
  intro j
  simp only [Array.getElem?_modify]
  split
  · cases w.heap[j]? with
    | none => rfl
    | some o => cases o <;> by_cases h : a.spot.isSome <;> simp [h]
  · rfl
def zAt (x : Int) : Nat → Int
  | 0 => undo 30 (IntKind.u64.wrap (undo 27 (IntKind.u64.wrap (undo 31 x * 3573116690164977347)) * 10871156337175269513))
  | 1 => undo 27 (IntKind.u64.wrap (undo 31 x * 3573116690164977347))
  | 2 => undo 31 x
  | _ => x
def unW (w : World) (bs : Array Obj) (d : Nat) (x : Int) (k : Nat) : World :=
  (grow (w.alloc (.cells #[.int .u64 (zAt x k)] 22)) bs d).alloc (.cells #[.int .u64 30, .int .u64 13787848793156543929, .int .u64 10871156337175269513, .int .u64 27, .int .u64 10723151780598845931, .int .u64 3573116690164977347, .int .u64 31, .int .u64 1, .int .u64 1] 59)
theorem unW0 (w : World) (bs : Array Obj) (d : Nat) (x : Int) : unW w bs d x 0 = (grow (w.alloc (.cells #[.int .u64 (zAt x 0)] 22)) bs d).alloc (.cells #[.int .u64 30, .int .u64 13787848793156543929, .int .u64 10871156337175269513, .int .u64 27, .int .u64 10723151780598845931, .int .u64 3573116690164977347, .int .u64 31, .int .u64 1, .int .u64 1] 59) := rfl
theorem unW1 (w : World) (bs : Array Obj) (d : Nat) (x : Int) : unW w bs d x 1 = (grow (w.alloc (.cells #[.int .u64 (zAt x 1)] 22)) bs d).alloc (.cells #[.int .u64 30, .int .u64 13787848793156543929, .int .u64 10871156337175269513, .int .u64 27, .int .u64 10723151780598845931, .int .u64 3573116690164977347, .int .u64 31, .int .u64 1, .int .u64 1] 59) := rfl
theorem unW2 (w : World) (bs : Array Obj) (d : Nat) (x : Int) : unW w bs d x 2 = (grow (w.alloc (.cells #[.int .u64 (zAt x 2)] 22)) bs d).alloc (.cells #[.int .u64 30, .int .u64 13787848793156543929, .int .u64 10871156337175269513, .int .u64 27, .int .u64 10723151780598845931, .int .u64 3573116690164977347, .int .u64 31, .int .u64 1, .int .u64 1] 59) := rfl
theorem unW3 (w : World) (bs : Array Obj) (d : Nat) (x : Int) : unW w bs d x 3 = (grow (w.alloc (.cells #[.int .u64 (zAt x 3)] 22)) bs d).alloc (.cells #[.int .u64 30, .int .u64 13787848793156543929, .int .u64 10871156337175269513, .int .u64 27, .int .u64 10723151780598845931, .int .u64 3573116690164977347, .int .u64 31, .int .u64 1, .int .u64 1] 59) := rfl
theorem draw_any (s i : Int) (w : World) :
    Calls Try.prog 30 #[.int .u64 s, .int .u64 i] w fun e w' => e = .returned (.int .u64 (draw s i)) ∧ Below w.heap.size w w' := by
  go_enter Try.func30, Try.ntmps30
  go_wp2_with (go_at_call 36; ((with_reducible refine (mix_any _ _ (u64_bd _).1 (u64_bd _).2).mono ?_)); rintro e w' ⟨rfl, hb⟩; obtain ⟨bs, d, rfl⟩ := below_grow hb; clear hb)
  go_ret
  exact ⟨rfl, grow_below _ _ _⟩
theorem pair_any (s l r : Int) (w : World) (l0 : -9223372036854775808 ≤ l) (l1 : l ≤ 9223372036854775807) (r0 : -9223372036854775808 ≤ r) (r1 : r ≤ 9223372036854775807) :
    Calls Try.prog 22 #[.int .u64 s, .int .i64 l, .int .i64 r] w fun e w' => e = .returned (.tuple #[.int .u64 (pairA s l r), .int .u64 (pairB s l r)]) ∧ Below w.heap.size w w' := by
  by_cases hk : 0 ≤ l ∧ l ≤ 59 ∧ 0 ≤ r ∧ r ≤ 7
  · obtain ⟨a0, a1, a2, a3⟩ := hk
    go_enter Try.func22, Try.ntmps22
    go_wp2_with (first
      | (go_at_call 30; ((with_reducible refine (draw_any _ _ _).mono ?_)); rintro e w' ⟨rfl, hb⟩; obtain ⟨bs, d, rfl⟩ := below_grow hb; clear hb)
      | (go_at_call 31; ((with_reducible refine (fold_any _ _ (draw_bd _ _).1 (draw_bd _ _).2).mono ?_)); rintro e w' ⟨rfl, rfl⟩))
    go_ret2
    refine ⟨ret_two ?_ ?_, ?_⟩
    · exact pairA_eq s l r ⟨a0, a1, a2, a3⟩
    · exact pairB_eq s l r ⟨a0, a1, a2, a3⟩
    · exact grow_below _ _ _
  · have e1 : pairA s l r = 0 := if_neg hk
    have e2 : pairB s l r = 0 := if_neg hk
    go_enter Try.func22, Try.ntmps22
    go_wp2
    all_goals go_ret2
    all_goals exact ⟨ret_two (by first | rfl | exact e1.symm) (by first | rfl | exact e2.symm), Below.refl _ _⟩
end Go.Proofs.Ytnbmdlkeeabmjaa.Sed
