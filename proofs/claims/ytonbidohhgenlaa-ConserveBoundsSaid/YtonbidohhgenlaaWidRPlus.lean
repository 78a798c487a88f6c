/- A walk of the document's own answers of layer 2: RPlus. Parted by wip/gen/split.py. -/
import Derived.Test.YtonbidohhgenlaaWidBase
import Derived.Test.YtonbidohhgenlaaWidDig
import Derived.Test.YtonbidohhgenlaaWidEq
import Derived.WalkSmall
namespace Go.Proofs.Ytonbidohhgenlaa.Wid
open Go.RowKit
set_option linter.unusedVariables false
set_option maxRecDepth 100000 in
set_option maxHeartbeats 2000000 in
theorem rplus_any (x y : Int) (x0 y0 x1 y1 x2 y2 x3 y3 x4 y4 x5 y5 x6 y6 x7 y7 x8 y8 x9 y9 : Int) (w : World) (hx : [x0, x1, x2, x3, x4, x5, x6, x7, x8, x9] = dl x) (hy : [y0, y1, y2, y3, y4, y5, y6, y7, y8, y9] = dl y) :
    Calls Try.prog 44 #[.agg #[.int .i64 (x0), .int .i64 (x1), .int .i64 (x2), .int .i64 (x3), .int .i64 (x4), .int .i64 (x5), .int .i64 (x6), .int .i64 (x7), .int .i64 (x8), .int .i64 (x9)], .agg #[.int .i64 (y0), .int .i64 (y1), .int .i64 (y2), .int .i64 (y3), .int .i64 (y4), .int .i64 (y5), .int .i64 (y6), .int .i64 (y7), .int .i64 (y8), .int .i64 (y9)]] w fun e w' => e = .returned (.agg #[.int .i64 (dg (x + y) 0), .int .i64 (dg (x + y) 1), .int .i64 (dg (x + y) 2), .int .i64 (dg (x + y) 3), .int .i64 (dg (x + y) 4), .int .i64 (dg (x + y) 5), .int .i64 (dg (x + y) 6), .int .i64 (dg (x + y) 7), .int .i64 (dg (x + y) 8), .int .i64 (dg (x + y) 9)]) ∧ Below w.heap.size w w' := by
  simp only [dl, List.cons.injEq, and_true] at hx hy
  obtain ⟨rfl, rfl, rfl, rfl, rfl, rfl, rfl, rfl, rfl, rfl⟩ := hx
  obtain ⟨rfl, rfl, rfl, rfl, rfl, rfl, rfl, rfl, rfl, rfl⟩ := hy
  have b0 := dg_bd x 0
  have c0 := dg_bd y 0
  have p0 := plus_dg x y 0
  have q0 := plus_cr x y 0
  have r1 := cr_bd x y 1
  have b1 := dg_bd x 1
  have c1 := dg_bd y 1
  have p1 := plus_dg x y 1
  have q1 := plus_cr x y 1
  have r2 := cr_bd x y 2
  have b2 := dg_bd x 2
  have c2 := dg_bd y 2
  have p2 := plus_dg x y 2
  have q2 := plus_cr x y 2
  have r3 := cr_bd x y 3
  have b3 := dg_bd x 3
  have c3 := dg_bd y 3
  have p3 := plus_dg x y 3
  have q3 := plus_cr x y 3
  have r4 := cr_bd x y 4
  have b4 := dg_bd x 4
  have c4 := dg_bd y 4
  have p4 := plus_dg x y 4
  have q4 := plus_cr x y 4
  have r5 := cr_bd x y 5
  have b5 := dg_bd x 5
  have c5 := dg_bd y 5
  have p5 := plus_dg x y 5
  have q5 := plus_cr x y 5
  have r6 := cr_bd x y 6
  have b6 := dg_bd x 6
  have c6 := dg_bd y 6
  have p6 := plus_dg x y 6
  have q6 := plus_cr x y 6
  have r7 := cr_bd x y 7
  have b7 := dg_bd x 7
  have c7 := dg_bd y 7
  have p7 := plus_dg x y 7
  have q7 := plus_cr x y 7
  have r8 := cr_bd x y 8
  have b8 := dg_bd x 8
  have c8 := dg_bd y 8
  have p8 := plus_dg x y 8
  have q8 := plus_cr x y 8
  have r9 := cr_bd x y 9
  have b9 := dg_bd x 9
  have c9 := dg_bd y 9
  have p9 := plus_dg x y 9
  rw [cr_0, Int.add_zero] at p0 q0
  simp only [Nat.reduceAdd] at q0 q1 q2 q3 q4 q5 q6 q7 q8
  go_enter Try.func44, Try.ntmps44
  go_wp2
  refine wp_loop_rounds 11 ?_
  iterate 10 (rw [rounds_succ]; go_wp2; go_quiet (fail); go_wp2)
  rw [rounds_succ]; go_wp2
  go_returns
  refine ⟨rfl, ?_⟩
  repeat' (first | (with_reducible exact Below.refl _ _) | (with_reducible refine below_call ?_ (by with_reducible assumption) (Nat.le_refl _)) | (with_reducible refine below_alloc ?_ _) | (with_reducible refine Below.drew ?_) | (with_reducible refine below_drewN ?_ _) | (with_reducible refine Below.setCell ?_ ?_ _) | go_size)
end Go.Proofs.Ytonbidohhgenlaa.Wid
