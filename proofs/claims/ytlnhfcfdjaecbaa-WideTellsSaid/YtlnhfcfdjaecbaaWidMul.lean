/- The walk of the document's product of layer 2. Printed by wip/gen/wid3.py. -/
import Derived.Test.YtlnhfcfdjaecbaaWidRef
import Derived.Test.YtlnhfcfdjaecbaaWidMulMath
namespace Go.Proofs.Ytlnhfcfdjaecbaa.Wid
open Go.RowKit
set_option linter.unusedVariables false
theorem drewN_add (w : World) (n m : Nat) : (w.drewN n).drewN m = w.drewN (n + m) := by
  simp [World.drewN, Nat.add_assoc]
set_option maxRecDepth 100000 in
set_option maxHeartbeats 40000000 in
theorem rmul_any (x y : Int) (x0 y0 x1 y1 x2 y2 x3 y3 x4 y4 x5 y5 x6 y6 x7 y7 x8 y8 x9 y9 : Int) (w : World) (hx : [x0, x1, x2, x3, x4, x5, x6, x7, x8, x9] = dl x) (hy : [y0, y1, y2, y3, y4, y5, y6, y7, y8, y9] = dl y) :
    Calls Try.prog 19 #[.agg #[.int .i64 (x0), .int .i64 (x1), .int .i64 (x2), .int .i64 (x3), .int .i64 (x4), .int .i64 (x5), .int .i64 (x6), .int .i64 (x7), .int .i64 (x8), .int .i64 (x9)], .agg #[.int .i64 (y0), .int .i64 (y1), .int .i64 (y2), .int .i64 (y3), .int .i64 (y4), .int .i64 (y5), .int .i64 (y6), .int .i64 (y7), .int .i64 (y8), .int .i64 (y9)]] w fun e w' => e = .returned (.agg #[.int .i64 (dg (x * y) 0), .int .i64 (dg (x * y) 1), .int .i64 (dg (x * y) 2), .int .i64 (dg (x * y) 3), .int .i64 (dg (x * y) 4), .int .i64 (dg (x * y) 5), .int .i64 (dg (x * y) 6), .int .i64 (dg (x * y) 7), .int .i64 (dg (x * y) 8), .int .i64 (dg (x * y) 9)]) ∧ Below w.heap.size w w' := by
  simp only [dl, List.cons.injEq, and_true] at hx hy
  obtain ⟨rfl, rfl, rfl, rfl, rfl, rfl, rfl, rfl, rfl, rfl⟩ := hx
  obtain ⟨rfl, rfl, rfl, rfl, rfl, rfl, rfl, rfl, rfl, rfl⟩ := hy
  have hd1 : ∀ (w : World) (n : Nat) (a : Addr) (v : Value), (w.drewN n).setCell a v = (w.setCell a v).drewN n := fun _ _ _ _ => rfl
  have hd2 : ∀ (w : World) (n m : Nat), (w.drewN n).drewN m = w.drewN (n + m) := fun w n m => drewN_add w n m
  have w2 : IntKind.i64.wrap 2 = 2 := by decide
  have w3 : IntKind.i64.wrap 3 = 3 := by decide
  have w4 : IntKind.i64.wrap 4 = 4 := by decide
  have w5 : IntKind.i64.wrap 5 = 5 := by decide
  have w6 : IntKind.i64.wrap 6 = 6 := by decide
  have w7 : IntKind.i64.wrap 7 = 7 := by decide
  have w8 : IntKind.i64.wrap 8 = 8 := by decide
  have w9 : IntKind.i64.wrap 9 = 9 := by decide
  go_enter Try.func19, Try.ntmps19
  go_wp2
  refine wp_loop_rounds 11 ?_
  have m0 := mul_bd x y 0 0
  have p0 := step_mod x y 0 0
  have q0 := step_div x y 0 0
  have m1 := mul_bd x y 0 1
  have c1 := cy_bd x y 0 1
  have p1 := step_mod x y 0 1
  have q1 := step_div x y 0 1
  have m2 := mul_bd x y 0 2
  have c2 := cy_bd x y 0 2
  have p2 := step_mod x y 0 2
  have q2 := step_div x y 0 2
  have m3 := mul_bd x y 0 3
  have c3 := cy_bd x y 0 3
  have p3 := step_mod x y 0 3
  have q3 := step_div x y 0 3
  have m4 := mul_bd x y 0 4
  have c4 := cy_bd x y 0 4
  have p4 := step_mod x y 0 4
  have q4 := step_div x y 0 4
  have m5 := mul_bd x y 0 5
  have c5 := cy_bd x y 0 5
  have p5 := step_mod x y 0 5
  have q5 := step_div x y 0 5
  have m6 := mul_bd x y 0 6
  have c6 := cy_bd x y 0 6
  have p6 := step_mod x y 0 6
  have q6 := step_div x y 0 6
  have m7 := mul_bd x y 0 7
  have c7 := cy_bd x y 0 7
  have p7 := step_mod x y 0 7
  have q7 := step_div x y 0 7
  have m8 := mul_bd x y 0 8
  have c8 := cy_bd x y 0 8
  have p8 := step_mod x y 0 8
  have q8 := step_div x y 0 8
  have m9 := mul_bd x y 0 9
  have c9 := cy_bd x y 0 9
  have p9 := step_mod x y 0 9
  rw [cy_0, Int.add_zero] at p0 q0
  simp only [Nat.reduceAdd, pp_0, dg_zero, Int.zero_add] at p0 q0 p1 q1 p2 q2 p3 q3 p4 q4 p5 q5 p6 q6 p7 q7 p8 q8 p9
  rw [rounds_succ]; go_wp2
  refine wp_loop_rounds 11 ?_
  iterate 10 (rw [rounds_succ]; go_wp2; go_quiet (fail); go_wp2)
  rw [rounds_succ]; go_wp2
  clear m0 p0 q0 m1 c1 p1 q1 m2 c2 p2 q2 m3 c3 p3 q3 m4 c4 p4 q4 m5 c5 p5 q5 m6 c6 p6 q6 m7 c7 p7 q7 m8 c8 p8 q8 m9 c9 p9
  have m0 := mul_bd x y 1 0
  have b0 := dg_bd (pp x y 1) 1
  have p0 := step_mod x y 1 0
  have q0 := step_div x y 1 0
  have m1 := mul_bd x y 1 1
  have b1 := dg_bd (pp x y 1) 2
  have c1 := cy_bd x y 1 1
  have p1 := step_mod x y 1 1
  have q1 := step_div x y 1 1
  have m2 := mul_bd x y 1 2
  have b2 := dg_bd (pp x y 1) 3
  have c2 := cy_bd x y 1 2
  have p2 := step_mod x y 1 2
  have q2 := step_div x y 1 2
  have m3 := mul_bd x y 1 3
  have b3 := dg_bd (pp x y 1) 4
  have c3 := cy_bd x y 1 3
  have p3 := step_mod x y 1 3
  have q3 := step_div x y 1 3
  have m4 := mul_bd x y 1 4
  have b4 := dg_bd (pp x y 1) 5
  have c4 := cy_bd x y 1 4
  have p4 := step_mod x y 1 4
  have q4 := step_div x y 1 4
  have m5 := mul_bd x y 1 5
  have b5 := dg_bd (pp x y 1) 6
  have c5 := cy_bd x y 1 5
  have p5 := step_mod x y 1 5
  have q5 := step_div x y 1 5
  have m6 := mul_bd x y 1 6
  have b6 := dg_bd (pp x y 1) 7
  have c6 := cy_bd x y 1 6
  have p6 := step_mod x y 1 6
  have q6 := step_div x y 1 6
  have m7 := mul_bd x y 1 7
  have b7 := dg_bd (pp x y 1) 8
  have c7 := cy_bd x y 1 7
  have p7 := step_mod x y 1 7
  have q7 := step_div x y 1 7
  have m8 := mul_bd x y 1 8
  have b8 := dg_bd (pp x y 1) 9
  have c8 := cy_bd x y 1 8
  have p8 := step_mod x y 1 8
  rw [cy_0, Int.add_zero] at p0 q0
  simp only [Nat.reduceAdd] at p0 q0 p1 q1 p2 q2 p3 q3 p4 q4 p5 q5 p6 q6 p7 q7 p8
  rw [rounds_succ]; go_wp2
  refine wp_loop_rounds 10 ?_
  iterate 9 (rw [rounds_succ]; go_wp2; go_quiet (fail); go_wp2)
  rw [rounds_succ]; go_wp2
  clear m0 b0 p0 q0 m1 b1 c1 p1 q1 m2 b2 c2 p2 q2 m3 b3 c3 p3 q3 m4 b4 c4 p4 q4 m5 b5 c5 p5 q5 m6 b6 c6 p6 q6 m7 b7 c7 p7 q7 m8 b8 c8 p8
  have m0 := mul_bd x y 2 0
  have b0 := dg_bd (pp x y 2) 2
  have p0 := step_mod x y 2 0
  have q0 := step_div x y 2 0
  have m1 := mul_bd x y 2 1
  have b1 := dg_bd (pp x y 2) 3
  have c1 := cy_bd x y 2 1
  have p1 := step_mod x y 2 1
  have q1 := step_div x y 2 1
  have m2 := mul_bd x y 2 2
  have b2 := dg_bd (pp x y 2) 4
  have c2 := cy_bd x y 2 2
  have p2 := step_mod x y 2 2
  have q2 := step_div x y 2 2
  have m3 := mul_bd x y 2 3
  have b3 := dg_bd (pp x y 2) 5
  have c3 := cy_bd x y 2 3
  have p3 := step_mod x y 2 3
  have q3 := step_div x y 2 3
  have m4 := mul_bd x y 2 4
  have b4 := dg_bd (pp x y 2) 6
  have c4 := cy_bd x y 2 4
  have p4 := step_mod x y 2 4
  have q4 := step_div x y 2 4
  have m5 := mul_bd x y 2 5
  have b5 := dg_bd (pp x y 2) 7
  have c5 := cy_bd x y 2 5
  have p5 := step_mod x y 2 5
  have q5 := step_div x y 2 5
  have m6 := mul_bd x y 2 6
  have b6 := dg_bd (pp x y 2) 8
  have c6 := cy_bd x y 2 6
  have p6 := step_mod x y 2 6
  have q6 := step_div x y 2 6
  have m7 := mul_bd x y 2 7
  have b7 := dg_bd (pp x y 2) 9
  have c7 := cy_bd x y 2 7
  have p7 := step_mod x y 2 7
  rw [cy_0, Int.add_zero] at p0 q0
  simp only [Nat.reduceAdd] at p0 q0 p1 q1 p2 q2 p3 q3 p4 q4 p5 q5 p6 q6 p7
  rw [rounds_succ]; go_wp2
  refine wp_loop_rounds 9 ?_
  iterate 8 (rw [rounds_succ]; go_wp2; go_quiet (fail); go_wp2)
  rw [rounds_succ]; go_wp2
  clear m0 b0 p0 q0 m1 b1 c1 p1 q1 m2 b2 c2 p2 q2 m3 b3 c3 p3 q3 m4 b4 c4 p4 q4 m5 b5 c5 p5 q5 m6 b6 c6 p6 q6 m7 b7 c7 p7
  have m0 := mul_bd x y 3 0
  have b0 := dg_bd (pp x y 3) 3
  have p0 := step_mod x y 3 0
  have q0 := step_div x y 3 0
  have m1 := mul_bd x y 3 1
  have b1 := dg_bd (pp x y 3) 4
  have c1 := cy_bd x y 3 1
  have p1 := step_mod x y 3 1
  have q1 := step_div x y 3 1
  have m2 := mul_bd x y 3 2
  have b2 := dg_bd (pp x y 3) 5
  have c2 := cy_bd x y 3 2
  have p2 := step_mod x y 3 2
  have q2 := step_div x y 3 2
  have m3 := mul_bd x y 3 3
  have b3 := dg_bd (pp x y 3) 6
  have c3 := cy_bd x y 3 3
  have p3 := step_mod x y 3 3
  have q3 := step_div x y 3 3
  have m4 := mul_bd x y 3 4
  have b4 := dg_bd (pp x y 3) 7
  have c4 := cy_bd x y 3 4
  have p4 := step_mod x y 3 4
  have q4 := step_div x y 3 4
  have m5 := mul_bd x y 3 5
  have b5 := dg_bd (pp x y 3) 8
  have c5 := cy_bd x y 3 5
  have p5 := step_mod x y 3 5
  have q5 := step_div x y 3 5
  have m6 := mul_bd x y 3 6
  have b6 := dg_bd (pp x y 3) 9
  have c6 := cy_bd x y 3 6
  have p6 := step_mod x y 3 6
  rw [cy_0, Int.add_zero] at p0 q0
  simp only [Nat.reduceAdd] at p0 q0 p1 q1 p2 q2 p3 q3 p4 q4 p5 q5 p6
  rw [rounds_succ]; go_wp2
  refine wp_loop_rounds 8 ?_
  iterate 7 (rw [rounds_succ]; go_wp2; go_quiet (fail); go_wp2)
  rw [rounds_succ]; go_wp2
  clear m0 b0 p0 q0 m1 b1 c1 p1 q1 m2 b2 c2 p2 q2 m3 b3 c3 p3 q3 m4 b4 c4 p4 q4 m5 b5 c5 p5 q5 m6 b6 c6 p6
  have m0 := mul_bd x y 4 0
  have b0 := dg_bd (pp x y 4) 4
  have p0 := step_mod x y 4 0
  have q0 := step_div x y 4 0
  have m1 := mul_bd x y 4 1
  have b1 := dg_bd (pp x y 4) 5
  have c1 := cy_bd x y 4 1
  have p1 := step_mod x y 4 1
  have q1 := step_div x y 4 1
  have m2 := mul_bd x y 4 2
  have b2 := dg_bd (pp x y 4) 6
  have c2 := cy_bd x y 4 2
  have p2 := step_mod x y 4 2
  have q2 := step_div x y 4 2
  have m3 := mul_bd x y 4 3
  have b3 := dg_bd (pp x y 4) 7
  have c3 := cy_bd x y 4 3
  have p3 := step_mod x y 4 3
  have q3 := step_div x y 4 3
  have m4 := mul_bd x y 4 4
  have b4 := dg_bd (pp x y 4) 8
  have c4 := cy_bd x y 4 4
  have p4 := step_mod x y 4 4
  have q4 := step_div x y 4 4
  have m5 := mul_bd x y 4 5
  have b5 := dg_bd (pp x y 4) 9
  have c5 := cy_bd x y 4 5
  have p5 := step_mod x y 4 5
  rw [cy_0, Int.add_zero] at p0 q0
  simp only [Nat.reduceAdd] at p0 q0 p1 q1 p2 q2 p3 q3 p4 q4 p5
  rw [rounds_succ]; go_wp2
  refine wp_loop_rounds 7 ?_
  iterate 6 (rw [rounds_succ]; go_wp2; go_quiet (fail); go_wp2)
  rw [rounds_succ]; go_wp2
  clear m0 b0 p0 q0 m1 b1 c1 p1 q1 m2 b2 c2 p2 q2 m3 b3 c3 p3 q3 m4 b4 c4 p4 q4 m5 b5 c5 p5
  have m0 := mul_bd x y 5 0
  have b0 := dg_bd (pp x y 5) 5
  have p0 := step_mod x y 5 0
  have q0 := step_div x y 5 0
  have m1 := mul_bd x y 5 1
  have b1 := dg_bd (pp x y 5) 6
  have c1 := cy_bd x y 5 1
  have p1 := step_mod x y 5 1
  have q1 := step_div x y 5 1
  have m2 := mul_bd x y 5 2
  have b2 := dg_bd (pp x y 5) 7
  have c2 := cy_bd x y 5 2
  have p2 := step_mod x y 5 2
  have q2 := step_div x y 5 2
  have m3 := mul_bd x y 5 3
  have b3 := dg_bd (pp x y 5) 8
  have c3 := cy_bd x y 5 3
  have p3 := step_mod x y 5 3
  have q3 := step_div x y 5 3
  have m4 := mul_bd x y 5 4
  have b4 := dg_bd (pp x y 5) 9
  have c4 := cy_bd x y 5 4
  have p4 := step_mod x y 5 4
  rw [cy_0, Int.add_zero] at p0 q0
  simp only [Nat.reduceAdd] at p0 q0 p1 q1 p2 q2 p3 q3 p4
  rw [rounds_succ]; go_wp2
  refine wp_loop_rounds 6 ?_
  iterate 5 (rw [rounds_succ]; go_wp2; go_quiet (fail); go_wp2)
  rw [rounds_succ]; go_wp2
  clear m0 b0 p0 q0 m1 b1 c1 p1 q1 m2 b2 c2 p2 q2 m3 b3 c3 p3 q3 m4 b4 c4 p4
  have m0 := mul_bd x y 6 0
  have b0 := dg_bd (pp x y 6) 6
  have p0 := step_mod x y 6 0
  have q0 := step_div x y 6 0
  have m1 := mul_bd x y 6 1
  have b1 := dg_bd (pp x y 6) 7
  have c1 := cy_bd x y 6 1
  have p1 := step_mod x y 6 1
  have q1 := step_div x y 6 1
  have m2 := mul_bd x y 6 2
  have b2 := dg_bd (pp x y 6) 8
  have c2 := cy_bd x y 6 2
  have p2 := step_mod x y 6 2
  have q2 := step_div x y 6 2
  have m3 := mul_bd x y 6 3
  have b3 := dg_bd (pp x y 6) 9
  have c3 := cy_bd x y 6 3
  have p3 := step_mod x y 6 3
  rw [cy_0, Int.add_zero] at p0 q0
  simp only [Nat.reduceAdd] at p0 q0 p1 q1 p2 q2 p3
  rw [rounds_succ]; go_wp2
  refine wp_loop_rounds 5 ?_
  iterate 4 (rw [rounds_succ]; go_wp2; go_quiet (fail); go_wp2)
  rw [rounds_succ]; go_wp2
  clear m0 b0 p0 q0 m1 b1 c1 p1 q1 m2 b2 c2 p2 q2 m3 b3 c3 p3
  have m0 := mul_bd x y 7 0
  have b0 := dg_bd (pp x y 7) 7
  have p0 := step_mod x y 7 0
  have q0 := step_div x y 7 0
  have m1 := mul_bd x y 7 1
  have b1 := dg_bd (pp x y 7) 8
  have c1 := cy_bd x y 7 1
  have p1 := step_mod x y 7 1
  have q1 := step_div x y 7 1
  have m2 := mul_bd x y 7 2
  have b2 := dg_bd (pp x y 7) 9
  have c2 := cy_bd x y 7 2
  have p2 := step_mod x y 7 2
  rw [cy_0, Int.add_zero] at p0 q0
  simp only [Nat.reduceAdd] at p0 q0 p1 q1 p2
  rw [rounds_succ]; go_wp2
  refine wp_loop_rounds 4 ?_
  iterate 3 (rw [rounds_succ]; go_wp2; go_quiet (fail); go_wp2)
  rw [rounds_succ]; go_wp2
  clear m0 b0 p0 q0 m1 b1 c1 p1 q1 m2 b2 c2 p2
  have m0 := mul_bd x y 8 0
  have b0 := dg_bd (pp x y 8) 8
  have p0 := step_mod x y 8 0
  have q0 := step_div x y 8 0
  have m1 := mul_bd x y 8 1
  have b1 := dg_bd (pp x y 8) 9
  have c1 := cy_bd x y 8 1
  have p1 := step_mod x y 8 1
  rw [cy_0, Int.add_zero] at p0 q0
  simp only [Nat.reduceAdd] at p0 q0 p1
  rw [rounds_succ]; go_wp2
  refine wp_loop_rounds 3 ?_
  iterate 2 (rw [rounds_succ]; go_wp2; go_quiet (fail); go_wp2)
  rw [rounds_succ]; go_wp2
  clear m0 b0 p0 q0 m1 b1 c1 p1
  have m0 := mul_bd x y 9 0
  have b0 := dg_bd (pp x y 9) 9
  have p0 := step_mod x y 9 0
  rw [cy_0, Int.add_zero] at p0
  simp only [Nat.reduceAdd] at p0
  rw [rounds_succ]; go_wp2
  refine wp_loop_rounds 2 ?_
  iterate 1 (rw [rounds_succ]; go_wp2; go_quiet (fail); go_wp2)
  rw [rounds_succ]; go_wp2
  clear m0 b0 p0
  rw [rounds_succ]; go_wp2
  go_returns
  refine ⟨by rw [last_dg x y 0, last_dg x y 1, last_dg x y 2, last_dg x y 3, last_dg x y 4, last_dg x y 5, last_dg x y 6, last_dg x y 7, last_dg x y 8, last_dg x y 9], ?_⟩
  repeat' (first | (with_reducible exact Below.refl _ _) | (with_reducible refine below_call ?_ (by with_reducible assumption) (Nat.le_refl _)) | (with_reducible refine below_alloc ?_ _) | (with_reducible refine Below.drew ?_) | (with_reducible refine below_drewN ?_ _) | (with_reducible refine Below.setCell ?_ ?_ _) | go_size)
end Go.Proofs.Ytlnhfcfdjaecbaa.Wid
