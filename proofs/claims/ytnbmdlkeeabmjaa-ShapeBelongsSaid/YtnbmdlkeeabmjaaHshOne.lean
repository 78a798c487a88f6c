/- The walks of layer 4: a line's value, what is left of it, and the line through two points. -/
import Derived.Test.YtnbmdlkeeabmjaaFldPow
import Derived.Test.YtnbmdlkeeabmjaaFldAlg
import Derived.Test.YtnbmdlkeeabmjaaGrow
import Derived.Deep.RegionHeld3
import Derived.WalkSpells
namespace Go.Proofs.Ytnbmdlkeeabmjaa.Hsh
open Go.RowKit Fld Lw
set_option linter.unusedVariables false
def lin (a b x : Int) : Int := add (mul a x) b
def buck (a b x n : Int) : Int := if n < 1 then -1 else lin a b x % n
def thrA (x u y v : Int) : Int := mul (sub u v) (inv (sub x y))
def thrB (x u y v : Int) : Int := sub u (lin (thrA x u y v) 0 x)
theorem lin_bd (a b x : Int) : 0 ≤ lin a b x ∧ lin a b x ≤ 2305843009213693950 := add_bd _ _
theorem mod_le (x n : Int) (h : 0 ≤ x) (hn : 1 ≤ n) : x % n ≤ x := by
  have e := Int.ediv_mul_add_emod x n
  have b := Int.mul_nonneg (Int.ediv_nonneg h (show 0 ≤ n by omega)) (show 0 ≤ n by omega)
  omega
theorem buck_bd (a b x n : Int) : -1 ≤ buck a b x n ∧ buck a b x n ≤ 2305843009213693950 := by
  have h := lin_bd a b x
  unfold buck
  split
  · omega
  · have h1 := Int.emod_nonneg (lin a b x) (show n ≠ 0 by omega)
    have h2 := mod_le _ n h.1 (by omega)
    omega
theorem at_any (a b x : Int) (w : World) (a0 : 0 ≤ a) (a1 : a ≤ 18446744073709551615) (b0 : 0 ≤ b) (b1 : b ≤ 18446744073709551615) (x0 : 0 ≤ x) (x1 : x ≤ 18446744073709551615) :
    Calls Try.prog 33 #[.agg #[.int .u64 a, .int .u64 b], .int .u64 x] w fun e w' => e = .returned (.int .u64 (lin a b x)) ∧ Below w.heap.size w w' := by
  have m := mul_bd a x
  go_enter Try.func33, Try.ntmps33
  go_wp2
  go_region_held3 (fun w' => w'.cell? ⟨w.heap.size, 0, none⟩ = some (.int .u64 a) ∧ w'.cell? ⟨w.heap.size, 1, none⟩ = some (.int .u64 b)) (simp [go_sem, *])
    (first
    | (go_at_call 38; (with_reducible refine (mul_any _ _ _ a0 a1 x0 x1).mono ?_); rintro e w' ⟨rfl, rfl⟩)
    | (go_at_call 37; (with_reducible refine (add_any _ _ _ m.1 (by omega) b0 b1).mono ?_); rintro e w' ⟨rfl, rfl⟩))
  all_goals go_wp2
  all_goals go_ret
  all_goals refine ⟨rfl, ?_⟩
  all_goals (repeat' (first | (with_reducible exact Below.refl _ _) | (with_reducible assumption) | (with_reducible refine below_over ?_ _ _) | (with_reducible refine Lw.below_alloc ?_ _) | (with_reducible refine Below.drew ?_) | (with_reducible refine below_drewN ?_ _) | (with_reducible refine Below.setCell ?_ ?_ _) | go_size))
theorem left_no (f : Fn) (c1 c2 : Array Value) (x n : Int) (w : World) (h : n < 1) :
    Calls Try.prog 32 #[.func f c1 c2, .int .u64 x, .int .i64 n] w fun e w' => e = .returned (.int .i64 (-1)) ∧ w = w' := by
  go_enter Try.func32, Try.ntmps32
  go_wp2
  go_ret
  exact ⟨rfl, rfl⟩
theorem left_yes (a b x n : Int) (w : World) (h : 1 ≤ n) (n1 : n ≤ 9223372036854775807) (a0 : 0 ≤ a) (a1 : a ≤ 18446744073709551615) (b0 : 0 ≤ b) (b1 : b ≤ 18446744073709551615) (x0 : 0 ≤ x) (x1 : x ≤ 18446744073709551615) :
    Calls Try.prog 32 #[.func (.func 33) #[.agg #[.int .u64 a, .int .u64 b]] #[], .int .u64 x, .int .i64 n] w fun e w' => e = .returned (.int .i64 (lin a b x % n)) ∧ Below w.heap.size w w' := by
  have l := lin_bd a b x
  have m0 := Int.emod_nonneg (lin a b x) (show n ≠ 0 by omega)
  have m1 := mod_le (lin a b x) n l.1 h
  have hn : IntKind.u64.wrap n = n := IntWalk.u64_in n ⟨by omega, by omega⟩
  have hn0 : ¬ n = 0 := by omega
  go_enter Try.func32, Try.ntmps32
  go_wp2_with (go_at_call 33; ((with_reducible refine (at_any a b x _ a0 a1 b0 b1 x0 x1).mono ?_)); rintro e w' ⟨rfl, hb⟩; obtain ⟨bs, d, rfl⟩ := below_grow hb; clear hb)
  go_ret
  refine ⟨rfl, ?_⟩
  repeat' (first | (with_reducible exact Below.refl _ _) | (with_reducible assumption) | (with_reducible refine below_over ?_ _ _) | (with_reducible refine Lw.below_alloc ?_ _) | (with_reducible refine Below.drew ?_) | (with_reducible refine below_drewN ?_ _) | (with_reducible refine Below.setCell ?_ ?_ _) | go_size)
theorem bucket_any (a b x n : Int) (w : World) (a0 : 0 ≤ a) (a1 : a ≤ 18446744073709551615) (b0 : 0 ≤ b) (b1 : b ≤ 18446744073709551615) (x0 : 0 ≤ x) (x1 : x ≤ 18446744073709551615) (n0 : -9223372036854775808 ≤ n) (n1 : n ≤ 9223372036854775807) :
    Calls Try.prog 23 #[.int .u64 a, .int .u64 b, .int .u64 x, .int .i64 n] w fun e w' => e = .returned (.int .i64 (buck a b x n)) ∧ Below w.heap.size w w' := by
  have hmf : ∀ (fn : Fn) (first cap : Array Value) (w : World), (Instr.makeFunc fn first cap).run Try.prog w = .ok (.func fn first cap) w := fun _ _ _ _ => rfl
  by_cases h : n < 1
  · have e : buck a b x n = -1 := if_pos h
    go_enter Try.func23, Try.ntmps23
    go_wp2_with (go_at_call 32; ((with_reducible refine (left_no _ _ _ x n _ h).mono ?_)); rintro e w' ⟨rfl, rfl⟩)
    go_ret
    exact ⟨ret_int e.symm, Below.refl _ _⟩
  · have e : buck a b x n = lin a b x % n := if_neg h
    go_enter Try.func23, Try.ntmps23
    go_wp2_with (go_at_call 32; ((with_reducible refine (left_yes a b x n _ (by omega) n1 a0 a1 b0 b1 x0 x1).mono ?_)); rintro e w' ⟨rfl, hb⟩; obtain ⟨bs, d, rfl⟩ := below_grow hb; clear hb)
    go_ret
    refine ⟨ret_int e.symm, ?_⟩
    repeat' (first | (with_reducible exact Below.refl _ _) | (with_reducible assumption) | (with_reducible refine below_over ?_ _ _) | (with_reducible refine Lw.below_alloc ?_ _) | (with_reducible refine Below.drew ?_) | (with_reducible refine below_drewN ?_ _) | (with_reducible refine Below.setCell ?_ ?_ _) | go_size)
end Go.Proofs.Ytnbmdlkeeabmjaa.Hsh
