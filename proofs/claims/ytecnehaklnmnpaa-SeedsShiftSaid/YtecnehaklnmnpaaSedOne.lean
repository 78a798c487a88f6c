/- The walks of Mix, Unmix, Draw. -/
import Derived.Test.YtecnehaklnmnpaaSedMath
import Derived.Test.YtecnehaklnmnpaaGrow
import Derived.Test.YtecnehaklnmnpaaLaw
import Derived.Test.YtecnehaklnmnpaaFldFold
namespace Go.Proofs.Ytecnehaklnmnpaa.Sed
open Go.RowKit Lw Fld

theorem steps_any (w : World) :
    Calls Try.prog 19 #[] w fun e w' => e = .returned (.agg #[.int .u64 30, .int .u64 13787848793156543929, .int .u64 10871156337175269513, .int .u64 27, .int .u64 10723151780598845931, .int .u64 3573116690164977347, .int .u64 31, .int .u64 1, .int .u64 1]) ∧ Below w.heap.size w w' := by
  go_enter Try.func19, Try.ntmps19
  go_wp2
  go_returns
  exact ⟨rfl, (Below.refl _ _).alloc (Nat.le_refl _) _⟩
theorem steps0 (w : World) : (Instr.index 35 (.agg #[.int .u64 30, .int .u64 13787848793156543929, .int .u64 10871156337175269513, .int .u64 27, .int .u64 10723151780598845931, .int .u64 3573116690164977347, .int .u64 31, .int .u64 1, .int .u64 1]) (.int .i64 0)).run Try.prog w = .ok (.agg #[.int .u64 30, .int .u64 13787848793156543929, .int .u64 10871156337175269513]) w := by kernel_rfl
theorem steps1 (w : World) : (Instr.index 35 (.agg #[.int .u64 30, .int .u64 13787848793156543929, .int .u64 10871156337175269513, .int .u64 27, .int .u64 10723151780598845931, .int .u64 3573116690164977347, .int .u64 31, .int .u64 1, .int .u64 1]) (.int .i64 1)).run Try.prog w = .ok (.agg #[.int .u64 27, .int .u64 10723151780598845931, .int .u64 3573116690164977347]) w := by kernel_rfl
theorem steps2 (w : World) : (Instr.index 35 (.agg #[.int .u64 30, .int .u64 13787848793156543929, .int .u64 10871156337175269513, .int .u64 27, .int .u64 10723151780598845931, .int .u64 3573116690164977347, .int .u64 31, .int .u64 1, .int .u64 1]) (.int .i64 2)).run Try.prog w = .ok (.agg #[.int .u64 31, .int .u64 1, .int .u64 1]) w := by kernel_rfl
theorem mix_any (x : Int) (w : World) (h0 : 0 ≤ x) (h1 : x ≤ 18446744073709551615) :
    Calls Try.prog 11 #[.int .u64 x] w fun e w' => e = .returned (.int .u64 (mix x)) ∧ Below w.heap.size w w' := by
  have i0 := steps0
  have i1 := steps1
  have i2 := steps2
  go_enter Try.func11, Try.ntmps11
  go_wp2_with (go_at_call 19; ((with_reducible refine (steps_any _).mono ?_)); rintro e w' ⟨rfl, hb⟩; obtain ⟨bs, d, rfl⟩ := below_grow hb; clear hb)
  refine wp_loop_rounds 4 ?_
  iterate 3 (rw [rounds_succ]; go_wp2)
  rw [rounds_succ]; go_wp2
  go_ret
  refine ⟨ret_int ?_, ?_⟩
  · exact mix_eq x h0 h1
  · repeat' (first | (with_reducible exact Below.refl _ _) | (with_reducible refine below_over ?_ _ _) | (with_reducible refine Lw.below_alloc ?_ _) | (with_reducible refine Below.drew ?_) | (with_reducible refine below_drewN ?_ _) | (with_reducible refine Below.setCell ?_ ?_ _) | go_size)
theorem setCell_twice (w : World) (a : Addr) (u v : Value) : (w.setCell a u).setCell a v = w.setCell a v := by
  simp only [World.setCell, World.mk.injEq, and_true]
  apply Array.ext_getElem?
  intro j
  simp only [Array.getElem?_modify]
  split
  · cases w.heap[j]? with
    | none => rfl
    | some o => cases o <;> by_cases h : a.spot.isSome <;> simp [h]
  · rfl
theorem undo_any (k : Int) (n : Nat) (x : Int) (w : World) (hk : k = 30 ∨ k = 27 ∨ k = 31) (h0 : 0 ≤ x) (h1 : x ≤ 18446744073709551615) (_hn : n < w.heap.size) (hx : w.cell? ⟨n, 0, none⟩ = some (.int .u64 x)) (hf : w.frozen? ⟨n, 0, none⟩ = false) :
    Calls Try.prog 22 #[.int .u64 k, .pointer (some ⟨n, 0, none⟩)] w fun e w' => e = .returned (.tuple #[]) ∧ w' = w.setCell ⟨n, 0, none⟩ (.int .u64 (undo k.toNat x)) := by
  rcases hk with rfl | rfl | rfl
  · go_enter Try.func22, Try.ntmps22
    go_wp2
    refine wp_loop_rounds 3 ?_
    iterate 2 (rw [rounds_succ]; go_wp2)
    rw [rounds_succ]; go_wp2
    go_end0
    exact ⟨rfl, by rw [setCell_twice, undo_30 x h0 h1]⟩
  · go_enter Try.func22, Try.ntmps22
    go_wp2
    refine wp_loop_rounds 3 ?_
    iterate 2 (rw [rounds_succ]; go_wp2)
    rw [rounds_succ]; go_wp2
    go_end0
    exact ⟨rfl, by rw [setCell_twice, undo_27 x h0 h1]⟩
  · go_enter Try.func22, Try.ntmps22
    go_wp2
    refine wp_loop_rounds 3 ?_
    iterate 2 (rw [rounds_succ]; go_wp2)
    rw [rounds_succ]; go_wp2
    go_end0
    exact ⟨rfl, by rw [setCell_twice, undo_31 x h0 h1]⟩
def zAt (x : Int) : Nat → Int
  | 0 => undo 30 (IntKind.u64.wrap (undo 27 (IntKind.u64.wrap (undo 31 x * 3573116690164977347)) * 10871156337175269513))
  | 1 => undo 27 (IntKind.u64.wrap (undo 31 x * 3573116690164977347))
  | 2 => undo 31 x
  | _ => x
def unW (w : World) (bs : Array Obj) (d : Nat) (x : Int) (k : Nat) : World :=
  (grow (w.alloc (.cells #[.int .u64 (zAt x k)] 22)) bs d).alloc (.cells #[.int .u64 30, .int .u64 13787848793156543929, .int .u64 10871156337175269513, .int .u64 27, .int .u64 10723151780598845931, .int .u64 3573116690164977347, .int .u64 31, .int .u64 1, .int .u64 1] 35)
theorem unW0 (w : World) (bs : Array Obj) (d : Nat) (x : Int) : unW w bs d x 0 = (grow (w.alloc (.cells #[.int .u64 (zAt x 0)] 22)) bs d).alloc (.cells #[.int .u64 30, .int .u64 13787848793156543929, .int .u64 10871156337175269513, .int .u64 27, .int .u64 10723151780598845931, .int .u64 3573116690164977347, .int .u64 31, .int .u64 1, .int .u64 1] 35) := rfl
theorem unW1 (w : World) (bs : Array Obj) (d : Nat) (x : Int) : unW w bs d x 1 = (grow (w.alloc (.cells #[.int .u64 (zAt x 1)] 22)) bs d).alloc (.cells #[.int .u64 30, .int .u64 13787848793156543929, .int .u64 10871156337175269513, .int .u64 27, .int .u64 10723151780598845931, .int .u64 3573116690164977347, .int .u64 31, .int .u64 1, .int .u64 1] 35) := rfl
theorem unW2 (w : World) (bs : Array Obj) (d : Nat) (x : Int) : unW w bs d x 2 = (grow (w.alloc (.cells #[.int .u64 (zAt x 2)] 22)) bs d).alloc (.cells #[.int .u64 30, .int .u64 13787848793156543929, .int .u64 10871156337175269513, .int .u64 27, .int .u64 10723151780598845931, .int .u64 3573116690164977347, .int .u64 31, .int .u64 1, .int .u64 1] 35) := rfl
theorem unW3 (w : World) (bs : Array Obj) (d : Nat) (x : Int) : unW w bs d x 3 = (grow (w.alloc (.cells #[.int .u64 (zAt x 3)] 22)) bs d).alloc (.cells #[.int .u64 30, .int .u64 13787848793156543929, .int .u64 10871156337175269513, .int .u64 27, .int .u64 10723151780598845931, .int .u64 3573116690164977347, .int .u64 31, .int .u64 1, .int .u64 1] 35) := rfl
set_option maxHeartbeats 4000000 in
theorem unmix_any (x : Int) (w : World) (h0 : 0 ≤ x) (h1 : x ≤ 18446744073709551615) :
    Calls Try.prog 13 #[.int .u64 x] w fun e w' => e = .returned (.int .u64 (unmix x)) ∧ Below w.heap.size w w' := by
  have he : zAt x 0 = unmix x := unmix_eq x h0 h1
  go_enter Try.func13, Try.ntmps13
  go_wp2_with (go_at_call 19; ((with_reducible refine (steps_any _).mono ?_)); rintro e w' ⟨rfl, hb⟩; obtain ⟨bs, d, rfl⟩ := below_grow hb; clear hb)
  go_loopw [5] (fun i wr => ∃ k m : Nat, k ≤ 3 ∧ i = .int .i64 ((k : Int) - 1) ∧ wr = (unW w bs d x k).drewN m) (fun i _ => (intOf i + 1).toNat)
  case atStart => exact ⟨3, 0, by omega, rfl, rfl⟩
  case round =>
    obtain ⟨k, m, hk, rfl, rfl⟩ := hrel
    obtain rfl | rfl | rfl | rfl : k = 0 ∨ k = 1 ∨ k = 2 ∨ k = 3 := by omega
    · rw [unW0]
      go_wp2
      go_returns
      refine ⟨rfl, ?_⟩
      repeat' (first | (with_reducible exact Below.refl _ _) | (with_reducible refine below_over ?_ _ _) | (with_reducible refine Lw.below_alloc ?_ _) | (with_reducible refine Below.drew ?_) | (with_reducible refine below_drewN ?_ _) | (with_reducible refine Below.setCell ?_ ?_ _) | go_size)
    · rw [unW1]
      go_wp2
      go_region
      go_wp2_with (go_at_call 22; ((with_reducible refine (undo_any 30 _ (IntKind.u64.wrap (zAt x 1 * 10871156337175269513)) _ (Or.inl rfl) (u64_bd _).1 (u64_bd _).2 (by simp [go_sem]) (by simp [go_sem]) (by simp [go_sem])).mono ?_)); rintro e w' ⟨rfl, rfl⟩)
      go_roundw
      case rel => exact ⟨0, m + 1, by omega, rfl, rfl⟩
      case measure => simp [intOf]
    · rw [unW2]
      go_wp2
      go_region
      go_wp2_with (go_at_call 22; ((with_reducible refine (undo_any 27 _ (IntKind.u64.wrap (zAt x 2 * 3573116690164977347)) _ (Or.inr (Or.inl rfl)) (u64_bd _).1 (u64_bd _).2 (by simp [go_sem]) (by simp [go_sem]) (by simp [go_sem])).mono ?_)); rintro e w' ⟨rfl, rfl⟩)
      go_roundw
      case rel => exact ⟨1, m + 1, by omega, rfl, rfl⟩
      case measure => simp [intOf]
    · have e3 : IntKind.u64.wrap (zAt x 3) = zAt x 3 := IntWalk.u64_in x ⟨h0, by omega⟩
      have f3 : 0 ≤ zAt x 3 ∧ zAt x 3 ≤ 18446744073709551615 := ⟨h0, h1⟩
      rw [unW3]
      go_wp2
      go_region
      go_wp2_with (go_at_call 22; ((with_reducible refine (undo_any 31 _ (zAt x 3) _ (Or.inr (Or.inr rfl)) f3.1 f3.2 (by simp [go_sem]) (by simp [go_sem]) (by simp [go_sem])).mono ?_)); rintro e w' ⟨rfl, rfl⟩)
      go_roundw
      case rel => exact ⟨2, m + 1, by omega, rfl, rfl⟩
      case measure => simp [intOf]
theorem draw_any (s i : Int) (w : World) :
    Calls Try.prog 15 #[.int .u64 s, .int .u64 i] w fun e w' => e = .returned (.int .u64 (draw s i)) ∧ Below w.heap.size w w' := by
  go_enter Try.func15, Try.ntmps15
  go_wp2_with (go_at_call 11; ((with_reducible refine (mix_any _ _ (u64_bd _).1 (u64_bd _).2).mono ?_)); rintro e w' ⟨rfl, hb⟩; obtain ⟨bs, d, rfl⟩ := below_grow hb; clear hb)
  go_ret
  exact ⟨rfl, grow_below _ _ _⟩
theorem pair_any (s l r : Int) (w : World) (l0 : -9223372036854775808 ≤ l) (l1 : l ≤ 9223372036854775807) (r0 : -9223372036854775808 ≤ r) (r1 : r ≤ 9223372036854775807) :
    Calls Try.prog 17 #[.int .u64 s, .int .i64 l, .int .i64 r] w fun e w' => e = .returned (.tuple #[.int .u64 (pairA s l r), .int .u64 (pairB s l r)]) ∧ Below w.heap.size w w' := by
  by_cases hk : 0 ≤ l ∧ l ≤ 59 ∧ 0 ≤ r ∧ r ≤ 7
  · obtain ⟨a0, a1, a2, a3⟩ := hk
    go_enter Try.func17, Try.ntmps17
    go_wp2_with (first
      | (go_at_call 15; ((with_reducible refine (draw_any _ _ _).mono ?_)); rintro e w' ⟨rfl, hb⟩; obtain ⟨bs, d, rfl⟩ := below_grow hb; clear hb)
      | (go_at_call 25; ((with_reducible refine (fold_any _ _ (draw_bd _ _).1 (draw_bd _ _).2).mono ?_)); rintro e w' ⟨rfl, rfl⟩))
    go_ret2
    refine ⟨ret_two ?_ ?_, ?_⟩
    · exact pairA_eq s l r ⟨a0, a1, a2, a3⟩
    · exact pairB_eq s l r ⟨a0, a1, a2, a3⟩
    · exact grow_below _ _ _
  · have e1 : pairA s l r = 0 := if_neg hk
    have e2 : pairB s l r = 0 := if_neg hk
    go_enter Try.func17, Try.ntmps17
    go_wp2
    all_goals go_ret2
    all_goals exact ⟨ret_two (by first | rfl | exact e1.symm) (by first | rfl | exact e2.symm), Below.refl _ _⟩
end Go.Proofs.Ytecnehaklnmnpaa.Sed
