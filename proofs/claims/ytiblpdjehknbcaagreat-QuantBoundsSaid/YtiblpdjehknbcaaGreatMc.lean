/- Texts that the statements of this seat lean on, put together: WidOf, WidInt, WidPlus, WidROfInt, WidRInt, WidRPlus, WidRAdd, WidRMinus, WidSub, WidLess, WidMinus, WidTimes, SlcClone, SedMath, SedBits, SedOne, SedRef, HshOne, HshRef, GrdRef, GrdDef, GrdNew. -/
import Derived.Test.YtiblpdjehknbcaaGreatMa
import Derived.Test.YtiblpdjehknbcaaGreatMb
import Derived.Handy
import Derived.Deep.QuietTactic
import Derived.BigQuiet
import Derived.Deep.RegionHeld3
import Derived.Shelf.Spec.BitsCarry
import Derived.WalkSmall
import Derived.Deep.LoopGhost
import Derived.Laws.Cover3
import Derived.WalkMore
import Derived.WalkKit
import Derived.Laws.BitsAllLaws
import Derived.WalkSpells
import Derived.Test.YtiblpdjehknbcaaGreatRows
/- Walks of layer 2, one function each: Of. -/
namespace Go.Proofs.YtiblpdjehknbcaaGreat.Wid
open Go.RowKit
set_option linter.unusedVariables false

theorem of_any (n : Int) (w : World) (h0 : -9223372036854775808 ≤ n) (h1 : n ≤ 9223372036854775807) :
    Calls Tryz.prog 86 #[.int .i64 n] w fun e w' => e = .returned (.agg #[.int .i64 (fh n), .int .u64 (fl n)]) ∧ Below w.heap.size w w' := by
  have H := Lib.hid (of_vals n h0 h1)
  go_enter Tryz.func86, Tryz.ntmps86
  go_wp2
  go_returns
  exact ⟨ret_agg H.out.1 H.out.2, by go_grown⟩
end Go.Proofs.YtiblpdjehknbcaaGreat.Wid
/- Walks of layer 2, one function each: Int. -/
namespace Go.Proofs.YtiblpdjehknbcaaGreat.Wid
open Go.RowKit
set_option linter.unusedVariables false

theorem int_any (p q : Int) (w : World) (p0 : -9223372036854775808 ≤ p) (p1 : p ≤ 9223372036854775807) (q0 : 0 ≤ q) (q1 : q ≤ 18446744073709551615) :
    Calls Tryz.prog 87 #[.agg #[.int .i64 p, .int .u64 q]] w fun e w' => e = .returned (.tuple #[.int .i64 (f64 (vl p q)), .bool (fit64 (vl p q))]) ∧ Below w.heap.size w w' := by
  have hv := int_vals p q p0 p1 q0 q1
  have hc0 : ∀ w', Below (w.heap.size + 1) (w.alloc (.cells #[.int .i64 p, .int .u64 q] 157)) w' → w'.cell? ⟨w.heap.size, 0, none⟩ = some (.int .i64 p) := fun w' h => (h.cell (by simp)).trans (by simp [go_sem])
  have hc1 : ∀ w', Below (w.heap.size + 1) (w.alloc (.cells #[.int .i64 p, .int .u64 q] 157)) w' → w'.cell? ⟨w.heap.size, 1, none⟩ = some (.int .u64 q) := fun w' h => (h.cell (by simp)).trans (by simp [go_sem])
  by_cases h1 : fh (wrap64 q) = p
  · have e1 : (fh (wrap64 q) == p) = true := by simpa using h1
    by_cases h2 : fl (wrap64 q) = q
    · have H := Lib.hid (hv.1 ⟨h1, h2⟩)
      have e2 : (fl (wrap64 q) == q) = true := by simpa using h2
      clear hv h1 h2
      go_enter Tryz.func87, Tryz.ntmps87
      go_wp2
      go_region_held3 (fun w' => Below (w.heap.size + 1) (w.alloc (.cells #[.int .i64 p, .int .u64 q] 157)) w') (first | exact (Below.refl _ _).drew | exact below_call (by assumption) hb (by simp))
       (first | (go_at_call 86; refine (of_any _ _ (hi_bd _).1 (hi_bd _).2.1).mono ?_; rintro e w' ⟨rfl, hb⟩))
      go_wp2
      go_ret2
      exact ⟨ret_int_bool H.out.2.symm H.out.1.symm, below_box (by assumption)⟩
    · have H := Lib.hid (hv.2 (fun h => h2 h.2))
      have e2 : (fl (wrap64 q) == q) = false := by simpa using h2
      clear hv h1 h2
      go_enter Tryz.func87, Tryz.ntmps87
      go_wp2
      go_region_held3 (fun w' => Below (w.heap.size + 1) (w.alloc (.cells #[.int .i64 p, .int .u64 q] 157)) w') (first | exact (Below.refl _ _).drew | exact below_call (by assumption) hb (by simp))
       (first | (go_at_call 86; refine (of_any _ _ (hi_bd _).1 (hi_bd _).2.1).mono ?_; rintro e w' ⟨rfl, hb⟩))
      go_wp2
      go_ret2
      exact ⟨ret_int_bool H.out.2.symm H.out.1.symm, below_box (by assumption)⟩
  · have H := Lib.hid (hv.2 (fun h => h1 h.1))
    have e1 : (fh (wrap64 q) == p) = false := by simpa using h1
    clear hv h1
    go_enter Tryz.func87, Tryz.ntmps87
    go_wp2
    go_region_held3 (fun w' => Below (w.heap.size + 1) (w.alloc (.cells #[.int .i64 p, .int .u64 q] 157)) w') (first | exact (Below.refl _ _).drew | exact below_call (by assumption) hb (by simp))
     (first | (go_at_call 86; refine (of_any _ _ (hi_bd _).1 (hi_bd _).2.1).mono ?_; rintro e w' ⟨rfl, hb⟩))
    go_wp2
    go_ret2
    exact ⟨ret_int_bool H.out.2.symm H.out.1.symm, below_box (by assumption)⟩
end Go.Proofs.YtiblpdjehknbcaaGreat.Wid
/- Walks of layer 2, one function each: Plus. -/
namespace Go.Proofs.YtiblpdjehknbcaaGreat.Wid
open Go.RowKit
set_option linter.unusedVariables false

theorem plus_any (a b : Int) (w : World) (a0 : -9223372036854775808 ≤ a) (a1 : a ≤ 9223372036854775807) (b0 : -9223372036854775808 ≤ b) (b1 : b ≤ 9223372036854775807) :
    Calls Tryz.prog 130 #[.int .i64 a, .int .i64 b] w fun e w' => e = .returned (.tuple #[.int .i64 (f64 (a + b)), .bool (fit64 (a + b))]) ∧ Below w.heap.size w w' := by
  have H := Lib.hid (plus_vals a b a0 a1 b0 b1).1
  go_enter Tryz.func130, Tryz.ntmps130
  go_wp2_with (first
    | (go_at_call 86; refine (of_any _ _ (by omega) (by omega)).mono ?_; rintro e w' ⟨rfl, hb⟩)
    | (go_at_call 132; refine (add_any _ _ _ _ _ (fh_bd _).1 (fh_bd _).2 (fl_bd _).1 (fl_bd _).2 (fh_bd _).1 (fh_bd _).2 (fl_bd _).1 (fl_bd _).2).mono ?_; rintro e w' ⟨rfl, hb⟩)
    | (go_at_call 87; refine (int_any _ _ _ (fh_bd _).1 (fh_bd _).2 (fl_bd _).1 (fl_bd _).2).mono ?_; rintro e w' ⟨rfl, hb⟩))
  go_ret2
  refine ⟨ret_int_bool (by rw [H.out]) (by rw [H.out]), ?_⟩
  repeat' (first | (with_reducible exact Below.refl _ _) | (with_reducible refine below_call ?_ (by with_reducible assumption) (Nat.le_refl _)) | (with_reducible refine below_alloc ?_ _) | (with_reducible refine Below.drew ?_) | (with_reducible refine Below.setCell ?_ ?_ _))
end Go.Proofs.YtiblpdjehknbcaaGreat.Wid
/- A walk of the document's own answers of layer 2: ROfInt. Parted by wip/gen/split.py. -/
namespace Go.Proofs.YtiblpdjehknbcaaGreat.Wid
open Go.RowKit
set_option linter.unusedVariables false
set_option maxRecDepth 100000 in
theorem rofint_any (n : Int) (w : World) (n0 : -9223372036854775808 ≤ n) (n1 : n ≤ 9223372036854775807) :
    Calls Tryz.prog 46 #[.int .i64 n] w fun e w' => e = .returned (.agg #[.int .i64 (dg n 0), .int .i64 (dg n 1), .int .i64 (dg n 2), .int .i64 (dg n 3), .int .i64 (dg n 4), .int .i64 (dg n 5), .int .i64 (dg n 6), .int .i64 (dg n 7), .int .i64 (dg n 8), .int .i64 (dg n 9)]) ∧ Below w.heap.size w w' := by
  by_cases h : n < 0
  · go_enter Tryz.func46, Tryz.ntmps46
    go_wp2
    go_rounds 11
    go_returns; exact ⟨ret10 (ofint_dl_neg n n0 n1 (by omega)), by go_grown⟩
  · go_enter Tryz.func46, Tryz.ntmps46
    go_wp2
    go_rounds 11
    go_returns; exact ⟨ret10 (ofint_dl_pos n n0 n1 (by omega)), by go_grown⟩
end Go.Proofs.YtiblpdjehknbcaaGreat.Wid
/- A walk of the document's own answers of layer 2: RInt. Parted by wip/gen/split.py. -/
namespace Go.Proofs.YtiblpdjehknbcaaGreat.Wid
open Go.RowKit
set_option linter.unusedVariables false
set_option maxRecDepth 100000 in
theorem rint_any (z : Int) (x0 x1 x2 x3 x4 x5 x6 x7 x8 x9 : Int) (w : World) (hx : [x0, x1, x2, x3, x4, x5, x6, x7, x8, x9] = dl z) (z0 : -730750818665451459101842416358141509827966271488 ≤ z) (z1 : z < 730750818665451459101842416358141509827966271488) :
    Calls Tryz.prog 44 #[.agg #[.int .i64 (x0), .int .i64 (x1), .int .i64 (x2), .int .i64 (x3), .int .i64 (x4), .int .i64 (x5), .int .i64 (x6), .int .i64 (x7), .int .i64 (x8), .int .i64 (x9)]] w fun e w' => e = .returned (.tuple #[.int .i64 (f64 z), .bool (fit64 z)]) ∧ Below w.heap.size w w' := by
  simp only [dl, List.cons.injEq, and_true] at hx
  obtain ⟨rfl, rfl, rfl, rfl, rfl, rfl, rfl, rfl, rfl, rfl⟩ := hx
  have b0 := dg_bd z 0
  have b1 := dg_bd z 1
  have b2 := dg_bd z 2
  have b3 := dg_bd z 3
  have el := or_lo z
  have en : IntKind.i64.wrap (z % 18446744073709551616) = nn z := rfl
  have en2 : wrap64 (z % 18446744073709551616) = nn z := by unfold nn wrap64; rw [IntKind.wrap_i64]
  have es := int_same z z0 z1
  have eq := eq_long
  have H := Lib.hid (int_vals2 z)
  clear z0 z1
  cases hf : fit64 z
  · rw [hf] at es
    have HF := Lib.hid hf; clear hf
    go_enter Tryz.func44, Tryz.ntmps44
    go_wp2
    go_rounds 5
    go_region_with (go_at_call 46; (with_reducible refine (rofint_any _ _ (nn_bd _).1 (nn_bd _).2).mono ?_); rintro e w' ⟨rfl, hb⟩; obtain ⟨hc, hfr⟩ := bcell hb)
    all_goals go_wp2
    all_goals go_ret2
    all_goals refine ⟨ret_int_bool (H.out.2 HF.out) rfl, ?_⟩
    all_goals (repeat' (first | (with_reducible exact Below.refl _ _) | (with_reducible refine below_call ?_ (by with_reducible assumption) (Nat.le_refl _)) | (with_reducible refine below_alloc ?_ _) | (with_reducible refine Below.drew ?_) | (with_reducible refine below_drewN ?_ _) | (with_reducible refine Below.setCell ?_ ?_ _) | go_size))
  · rw [hf] at es
    have HF := Lib.hid hf; clear hf
    go_enter Tryz.func44, Tryz.ntmps44
    go_wp2
    go_rounds 5
    go_region_with (go_at_call 46; (with_reducible refine (rofint_any _ _ (nn_bd _).1 (nn_bd _).2).mono ?_); rintro e w' ⟨rfl, hb⟩; obtain ⟨hc, hfr⟩ := bcell hb)
    all_goals go_wp2
    all_goals go_ret2
    all_goals refine ⟨ret_int_bool (H.out.1 HF.out) rfl, ?_⟩
    all_goals (repeat' (first | (with_reducible exact Below.refl _ _) | (with_reducible refine below_call ?_ (by with_reducible assumption) (Nat.le_refl _)) | (with_reducible refine below_alloc ?_ _) | (with_reducible refine Below.drew ?_) | (with_reducible refine below_drewN ?_ _) | (with_reducible refine Below.setCell ?_ ?_ _) | go_size))
end Go.Proofs.YtiblpdjehknbcaaGreat.Wid
/- A walk of the document's own answers of layer 2: RPlus. Parted by wip/gen/split.py. -/
namespace Go.Proofs.YtiblpdjehknbcaaGreat.Wid
open Go.RowKit
set_option linter.unusedVariables false
set_option maxRecDepth 100000 in
set_option maxHeartbeats 2000000 in
theorem rplus_any (x y : Int) (x0 y0 x1 y1 x2 y2 x3 y3 x4 y4 x5 y5 x6 y6 x7 y7 x8 y8 x9 y9 : Int) (w : World) (hx : [x0, x1, x2, x3, x4, x5, x6, x7, x8, x9] = dl x) (hy : [y0, y1, y2, y3, y4, y5, y6, y7, y8, y9] = dl y) :
    Calls Tryz.prog 45 #[.agg #[.int .i64 (x0), .int .i64 (x1), .int .i64 (x2), .int .i64 (x3), .int .i64 (x4), .int .i64 (x5), .int .i64 (x6), .int .i64 (x7), .int .i64 (x8), .int .i64 (x9)], .agg #[.int .i64 (y0), .int .i64 (y1), .int .i64 (y2), .int .i64 (y3), .int .i64 (y4), .int .i64 (y5), .int .i64 (y6), .int .i64 (y7), .int .i64 (y8), .int .i64 (y9)]] w fun e w' => e = .returned (.agg #[.int .i64 (dg (x + y) 0), .int .i64 (dg (x + y) 1), .int .i64 (dg (x + y) 2), .int .i64 (dg (x + y) 3), .int .i64 (dg (x + y) 4), .int .i64 (dg (x + y) 5), .int .i64 (dg (x + y) 6), .int .i64 (dg (x + y) 7), .int .i64 (dg (x + y) 8), .int .i64 (dg (x + y) 9)]) ∧ Below w.heap.size w w' := by
  simp only [dl, List.cons.injEq, and_true] at hx hy
  obtain ⟨rfl, rfl, rfl, rfl, rfl, rfl, rfl, rfl, rfl, rfl⟩ := hx
  obtain ⟨rfl, rfl, rfl, rfl, rfl, rfl, rfl, rfl, rfl, rfl⟩ := hy
  have b0 := dg_bd x 0
  have c0 := dg_bd y 0
  have p0 := plus_dg x y 0
  have q0 := plus_cr x y 0
  have r1 := cr_bd x y 1
  have b1 := dg_bd x 1
  have c1 := dg_bd y 1
  have p1 := plus_dg x y 1
  have q1 := plus_cr x y 1
  have r2 := cr_bd x y 2
  have b2 := dg_bd x 2
  have c2 := dg_bd y 2
  have p2 := plus_dg x y 2
  have q2 := plus_cr x y 2
  have r3 := cr_bd x y 3
  have b3 := dg_bd x 3
  have c3 := dg_bd y 3
  have p3 := plus_dg x y 3
  have q3 := plus_cr x y 3
  have r4 := cr_bd x y 4
  have b4 := dg_bd x 4
  have c4 := dg_bd y 4
  have p4 := plus_dg x y 4
  have q4 := plus_cr x y 4
  have r5 := cr_bd x y 5
  have b5 := dg_bd x 5
  have c5 := dg_bd y 5
  have p5 := plus_dg x y 5
  have q5 := plus_cr x y 5
  have r6 := cr_bd x y 6
  have b6 := dg_bd x 6
  have c6 := dg_bd y 6
  have p6 := plus_dg x y 6
  have q6 := plus_cr x y 6
  have r7 := cr_bd x y 7
  have b7 := dg_bd x 7
  have c7 := dg_bd y 7
  have p7 := plus_dg x y 7
  have q7 := plus_cr x y 7
  have r8 := cr_bd x y 8
  have b8 := dg_bd x 8
  have c8 := dg_bd y 8
  have p8 := plus_dg x y 8
  have q8 := plus_cr x y 8
  have r9 := cr_bd x y 9
  have b9 := dg_bd x 9
  have c9 := dg_bd y 9
  have p9 := plus_dg x y 9
  rw [cr_0, Int.add_zero] at p0 q0
  simp only [Nat.reduceAdd] at q0 q1 q2 q3 q4 q5 q6 q7 q8
  go_enter Tryz.func45, Tryz.ntmps45
  go_wp2
  refine wp_loop_rounds 11 ?_
  iterate 10 (rw [rounds_succ]; go_wp2; go_quiet (fail); go_wp2)
  rw [rounds_succ]; go_wp2
  go_returns
  refine ⟨rfl, ?_⟩
  repeat' (first | (with_reducible exact Below.refl _ _) | (with_reducible refine below_call ?_ (by with_reducible assumption) (Nat.le_refl _)) | (with_reducible refine below_alloc ?_ _) | (with_reducible refine Below.drew ?_) | (with_reducible refine below_drewN ?_ _) | (with_reducible refine Below.setCell ?_ ?_ _) | go_size)
end Go.Proofs.YtiblpdjehknbcaaGreat.Wid
/- A walk of the document's own answers of layer 2: RAdd. Parted by wip/gen/split.py. -/
namespace Go.Proofs.YtiblpdjehknbcaaGreat.Wid
open Go.RowKit
set_option linter.unusedVariables false
theorem radd_any (a b : Int) (w : World) (a0 : -9223372036854775808 ≤ a) (a1 : a ≤ 9223372036854775807) (b0 : -9223372036854775808 ≤ b) (b1 : b ≤ 9223372036854775807) :
    Calls Tryz.prog 71 #[.int .i64 a, .int .i64 b] w fun e w' => e = .returned (.tuple #[.int .i64 (f64 (a + b)), .bool (fit64 (a + b))]) ∧ Below w.heap.size w w' := by
  go_enter Tryz.func71, Tryz.ntmps71
  go_wp2_with (first
    | (go_at_call 46; (with_reducible refine (rofint_any _ _ (by omega) (by omega)).mono ?_); rintro e w' ⟨rfl, hb⟩)
    | (go_at_call 45; (with_reducible refine (rplus_any a b _ _ _ _ _ _ _ _ _ _ _ _ _ _ _ _ _ _ _ _ _ rfl rfl).mono ?_); rintro e w' ⟨rfl, hb⟩)
    | (go_at_call 44; (with_reducible refine (rint_any (a + b) _ _ _ _ _ _ _ _ _ _ _ rfl (by omega) (by omega)).mono ?_); rintro e w' ⟨rfl, hb⟩))
  go_ret2
  refine ⟨rfl, ?_⟩
  repeat' (first | (with_reducible exact Below.refl _ _) | (with_reducible refine below_call ?_ (by with_reducible assumption) (Nat.le_refl _)) | (with_reducible refine below_alloc ?_ _) | (with_reducible refine Below.drew ?_) | (with_reducible refine below_drewN ?_ _) | (with_reducible refine Below.setCell ?_ ?_ _) | go_size)
end Go.Proofs.YtiblpdjehknbcaaGreat.Wid
/- A walk of the document's own answers of layer 2: RMinus. Parted by wip/gen/split.py. -/
namespace Go.Proofs.YtiblpdjehknbcaaGreat.Wid
open Go.RowKit
set_option linter.unusedVariables false
set_option maxRecDepth 100000 in
theorem rminus_any (z : Int) (x0 x1 x2 x3 x4 x5 x6 x7 x8 x9 : Int) (w : World) (hx : [x0, x1, x2, x3, x4, x5, x6, x7, x8, x9] = dl z) :
    Calls Tryz.prog 47 #[.agg #[.int .i64 (x0), .int .i64 (x1), .int .i64 (x2), .int .i64 (x3), .int .i64 (x4), .int .i64 (x5), .int .i64 (x6), .int .i64 (x7), .int .i64 (x8), .int .i64 (x9)]] w fun e w' => e = .returned (.agg #[.int .i64 (dg (-z) 0), .int .i64 (dg (-z) 1), .int .i64 (dg (-z) 2), .int .i64 (dg (-z) 3), .int .i64 (dg (-z) 4), .int .i64 (dg (-z) 5), .int .i64 (dg (-z) 6), .int .i64 (dg (-z) 7), .int .i64 (dg (-z) 8), .int .i64 (dg (-z) 9)]) ∧ Below w.heap.size w w' := by
  simp only [dl, List.cons.injEq, and_true] at hx
  obtain ⟨rfl, rfl, rfl, rfl, rfl, rfl, rfl, rfl, rfl, rfl⟩ := hx
  have b0 := dg_bd z 0
  have b1 := dg_bd z 1
  have b2 := dg_bd z 2
  have b3 := dg_bd z 3
  have b4 := dg_bd z 4
  have b5 := dg_bd z 5
  have b6 := dg_bd z 6
  have b7 := dg_bd z 7
  have b8 := dg_bd z 8
  have b9 := dg_bd z 9
  have e : -1 - z + 1 = -z := by omega
  have E := Lib.hid e; clear e
  go_enter Tryz.func47, Tryz.ntmps47
  go_wp2_with fail
  refine wp_loop_rounds 11 ?_
  iterate 11 (rw [rounds_succ]; go_wp2_with fail)
  (with_reducible refine (rplus_any (-1 - z) 1 _ _ _ _ _ _ _ _ _ _ _ _ _ _ _ _ _ _ _ _ _ (minus_dl z) one_dl).mono ?_)
  rintro e w' ⟨rfl, hb⟩
  obtain ⟨hc, hfr⟩ := bcell hb
  have k0 : w'.cell? ⟨w.heap.size + 1, 0, none⟩ = some (.int .i64 0) := (hc _ _ (by simp)).trans (by simp [go_sem])
  have k1 : w'.cell? ⟨w.heap.size + 1, 1, none⟩ = some (.int .i64 0) := (hc _ _ (by simp)).trans (by simp [go_sem])
  have k2 : w'.cell? ⟨w.heap.size + 1, 2, none⟩ = some (.int .i64 0) := (hc _ _ (by simp)).trans (by simp [go_sem])
  have k3 : w'.cell? ⟨w.heap.size + 1, 3, none⟩ = some (.int .i64 0) := (hc _ _ (by simp)).trans (by simp [go_sem])
  have k4 : w'.cell? ⟨w.heap.size + 1, 4, none⟩ = some (.int .i64 0) := (hc _ _ (by simp)).trans (by simp [go_sem])
  have k5 : w'.cell? ⟨w.heap.size + 1, 5, none⟩ = some (.int .i64 0) := (hc _ _ (by simp)).trans (by simp [go_sem])
  have k6 : w'.cell? ⟨w.heap.size + 1, 6, none⟩ = some (.int .i64 0) := (hc _ _ (by simp)).trans (by simp [go_sem])
  have k7 : w'.cell? ⟨w.heap.size + 1, 7, none⟩ = some (.int .i64 0) := (hc _ _ (by simp)).trans (by simp [go_sem])
  have k8 : w'.cell? ⟨w.heap.size + 1, 8, none⟩ = some (.int .i64 0) := (hc _ _ (by simp)).trans (by simp [go_sem])
  have k9 : w'.cell? ⟨w.heap.size + 1, 9, none⟩ = some (.int .i64 0) := (hc _ _ (by simp)).trans (by simp [go_sem])
  clear hc
  go_wp2
  rw [← E.out]
  refine bodyPost_ret (v := .agg #[.int .i64 (dg (-1 - z + 1) 0), .int .i64 (dg (-1 - z + 1) 1), .int .i64 (dg (-1 - z + 1) 2), .int .i64 (dg (-1 - z + 1) 3), .int .i64 (dg (-1 - z + 1) 4), .int .i64 (dg (-1 - z + 1) 5), .int .i64 (dg (-1 - z + 1) 6), .int .i64 (dg (-1 - z + 1) 7), .int .i64 (dg (-1 - z + 1) 8), .int .i64 (dg (-1 - z + 1) 9)]) (by simp [results, Tryz.results47, go_sem, k0, k1, k2, k3, k4, k5, k6, k7, k8, k9]) rfl ?_
  refine ⟨rfl, ?_⟩
  repeat' (first | (with_reducible exact Below.refl _ _) | (with_reducible refine below_call ?_ (by with_reducible assumption) (Nat.le_refl _)) | (with_reducible refine below_alloc ?_ _) | (with_reducible refine Below.drew ?_) | (with_reducible refine below_drewN ?_ _) | (with_reducible refine Below.setCell ?_ ?_ _) | go_size)
end Go.Proofs.YtiblpdjehknbcaaGreat.Wid
/- Walks of layer 2, one function each: Sub. -/
namespace Go.Proofs.YtiblpdjehknbcaaGreat.Wid
open Go.RowKit
set_option linter.unusedVariables false

theorem run_sub64 (x y c : Int) (w : World) (x0 : 0 ≤ x) (x1 : x ≤ 18446744073709551615) (y0 : 0 ≤ y) (y1 : y ≤ 18446744073709551615) (c0 : 0 ≤ c) (c1 : c ≤ 1) :
    (callFunc 93 #[.int .u64 x, .int .u64 y, .int .u64 c]).run Tryz.prog w =
      .ok (.value (.tuple #[.int .u64 ((x - y - c) % 18446744073709551616), .int .u64 (-((x - y - c) / 18446744073709551616))])) w := by
  obtain ⟨X, rfl⟩ := Int.eq_ofNat_of_zero_le x0
  obtain ⟨Y, rfl⟩ := Int.eq_ofNat_of_zero_le y0
  obtain ⟨C, rfl⟩ := Int.eq_ofNat_of_zero_le c0
  rw [run_callFunc_extern Tryz.func93 (by kernel_rfl) (by kernel_rfl) (by kernel_rfl) (e := Go.Proofs.sub64Entry) (by kernel_rfl), Go.Proofs.run_sub64 X Y C (by omega)]
  simp only [Result.andThen]
  have e1 : (((X + 18446744073709551616 - Y - C) % 18446744073709551616 : Nat) : Int) = ((X : Int) - Y - C) % 18446744073709551616 := by omega
  have e2 : ((if X < Y + C then 1 else 0 : Nat) : Int) = -(((X : Int) - Y - C) / 18446744073709551616) := by split <;> omega
  rw [e1, e2]
theorem run_sub64_0 (x y : Int) (w : World) (x0 : 0 ≤ x) (x1 : x ≤ 18446744073709551615) (y0 : 0 ≤ y) (y1 : y ≤ 18446744073709551615) :
    (callFunc 93 #[.int .u64 x, .int .u64 y, .int .u64 0]).run Tryz.prog w =
      .ok (.value (.tuple #[.int .u64 ((x - y) % 18446744073709551616), .int .u64 (-((x - y) / 18446744073709551616))])) w := by
  rw [run_sub64 x y 0 w x0 x1 y0 y1 (by omega) (by omega), Int.sub_zero]

theorem sub_any (p q r s : Int) (w : World) (p0 : -9223372036854775808 ≤ p) (p1 : p ≤ 9223372036854775807) (q0 : 0 ≤ q) (q1 : q ≤ 18446744073709551615)
    (r0 : -9223372036854775808 ≤ r) (r1 : r ≤ 9223372036854775807) (s0 : 0 ≤ s) (s1 : s ≤ 18446744073709551615) :
    Calls Tryz.prog 85 #[.agg #[.int .i64 p, .int .u64 q], .agg #[.int .i64 r, .int .u64 s]] w fun e w' => e = .returned (.tuple #[.agg #[.int .i64 (fh (vl p q - vl r s)), .int .u64 (fl (vl p q - vl r s))], .bool (fit (vl p q - vl r s))]) ∧ Below w.heap.size w w' := by
  have k0 : 0 ≤ -((q - s) / 18446744073709551616) := by omega
  have k1 : -((q - s) / 18446744073709551616) ≤ 1 := by omega
  go_enter Tryz.func85, Tryz.ntmps85
  go_wp2_with (first | simp only [run_sub64_0 q s _ q0 q1 s0 s1] | simp only [run_sub64 _ _ _ _ (u64_bd p).1 (u64_bd p).2 (u64_bd r).1 (u64_bd r).2 k0 k1])
  · have h := sub_far p q r s p0 p1 q0 q1 r0 r1 s0 s1 (by assumption)
    go_returns
    exact ⟨ret_wide h.1 h.2.1 h.2.2, by go_grown⟩
  · have h := sub_near p q r s p0 p1 q0 q1 r0 r1 s0 s1 (by assumption)
    go_returns
    exact ⟨ret_wide h.1 h.2.1 h.2.2, by go_grown⟩
end Go.Proofs.YtiblpdjehknbcaaGreat.Wid
/- Walks of layer 2, one function each: Less. -/
namespace Go.Proofs.YtiblpdjehknbcaaGreat.Wid
open Go.RowKit
set_option linter.unusedVariables false

end Go.Proofs.YtiblpdjehknbcaaGreat.Wid
/- Walks of layer 2, one function each: Minus. -/
namespace Go.Proofs.YtiblpdjehknbcaaGreat.Wid
open Go.RowKit
set_option linter.unusedVariables false

theorem minus_any (a b : Int) (w : World) (a0 : -9223372036854775808 ≤ a) (a1 : a ≤ 9223372036854775807) (b0 : -9223372036854775808 ≤ b) (b1 : b ≤ 9223372036854775807) :
    Calls Tryz.prog 76 #[.int .i64 a, .int .i64 b] w fun e w' => e = .returned (.tuple #[.int .i64 (f64 (a - b)), .bool (fit64 (a - b))]) ∧ Below w.heap.size w w' := by
  have H := Lib.hid (plus_vals a b a0 a1 b0 b1).2
  go_enter Tryz.func76, Tryz.ntmps76
  go_wp2_with (first
    | (go_at_call 86; refine (of_any _ _ (by omega) (by omega)).mono ?_; rintro e w' ⟨rfl, hb⟩)
    | (go_at_call 85; refine (sub_any _ _ _ _ _ (fh_bd _).1 (fh_bd _).2 (fl_bd _).1 (fl_bd _).2 (fh_bd _).1 (fh_bd _).2 (fl_bd _).1 (fl_bd _).2).mono ?_; rintro e w' ⟨rfl, hb⟩)
    | (go_at_call 87; refine (int_any _ _ _ (fh_bd _).1 (fh_bd _).2 (fl_bd _).1 (fl_bd _).2).mono ?_; rintro e w' ⟨rfl, hb⟩))
  go_ret2
  refine ⟨ret_int_bool (by rw [H.out]) (by rw [H.out]), ?_⟩
  repeat' (first | (with_reducible exact Below.refl _ _) | (with_reducible refine below_call ?_ (by with_reducible assumption) (Nat.le_refl _)) | (with_reducible refine below_alloc ?_ _) | (with_reducible refine Below.drew ?_) | (with_reducible refine Below.setCell ?_ ?_ _))
end Go.Proofs.YtiblpdjehknbcaaGreat.Wid
/- Walks of layer 2, one function each: Times. -/
namespace Go.Proofs.YtiblpdjehknbcaaGreat.Wid
open Go.RowKit
set_option linter.unusedVariables false

theorem mul64_any (a b : Int) (w : World) (h0 : 0 ≤ a) (h1 : a ≤ 18446744073709551615) (g0 : 0 ≤ b) (g1 : b ≤ 18446744073709551615) :
    Calls Tryz.prog 168 #[.int .u64 a, .int .u64 b] w fun e w' => e = .returned (.tuple #[.int .u64 (a * b / 18446744073709551616), .int .u64 (a * b % 18446744073709551616)]) ∧ w = w' := by
  go_enter Tryz.func168, Tryz.ntmps168
  go_wp2
  go_ret2
  exact ⟨Fld.ret_two (Fld.mul64_hi a b h0 h1 g0 g1) (Fld.mul64_lo a b), rfl⟩

end Go.Proofs.YtiblpdjehknbcaaGreat.Wid
/- slices.Clone of a row of whole numbers, nil or not: a row of one's own. -/
namespace Go.Proofs.YtiblpdjehknbcaaGreat.Slc
open Go Go.RowKit Lw
set_option linter.unusedVariables false
set_option linter.unusedSimpArgs false
theorem i64_inf : (Tryz.prog.info? 2).map (fun i => (i.zero, i.size, i.bytes)) = some (some (.int .i64 0), 1, 8) := by kernel_rfl
theorem i64s_und : Tryz.prog.underlying 48 = some (.slice 2) := by kernel_rfl
theorem eql_nil {P : Program} (w : World) (t e : TypeId) (a : Option Addr) (l c : Nat) (h : P.underlying t = some (.slice e)) : (binOp .eql t (.slice a l c) (.slice none 0 0)).run P w = .ok (.bool a.isNone) w := by
  simp only [binOp]
  simp [run_equal_slice_nil w t e a l c h]
theorem clone_some (ad : Addr) (n cap : Nat) (zs : List Int) (w : World) (hn : n ≤ cap) (hcap : cap ≤ maxLen) (hr : Rd .i64 w (some ad) zs) (hl : zs.length = n) (hs : n ≤ 1048576) :
    Calls Tryz.prog 170 #[.slice (some ad) n cap] w fun e w' => ∃ (g cap2 : Nat), e = .returned (.slice (some ⟨g, 0, none⟩) n cap2) ∧ Ord.Mid w' g 0 zs ∧ w.heap.size ≤ g ∧ n ≤ cap2 ∧ cap2 ≤ maxLen ∧ Below w.heap.size w w' := by
  obtain ⟨i0, hi, hz0, hz1, hz2⟩ := info_parts i64_inf
  have HR := Lib.hid hr
  have HL := Lib.hid hl
  unfold maxLen at hcap
  have hq : ∀ w', (binOp .eql 48 (.slice (some ad) n cap) (.slice none 0 0)).run Tryz.prog w' = .ok (.bool false) w' := fun w' => eql_nil w' _ _ (some ad) n cap i64s_und
  clear hr hl
  go_enter Tryz.func170, Tryz.ntmps170
  go_wp2_with (at_builtin; refine app_any .i64 rfl _ _ 48 rfl w.heap.size 2 i0 8 i64s_und hi hz0 hz1 hz2 (.slice (some ⟨w.heap.size, 0, none⟩) 0 0) 0 [] rfl (own_empty w _ _ _ (Nat.le_refl _)) (fun h => by cases h) (some ad) n cap zs rfl (by simp) HL.out (HR.out.up (Lw.below_alloc (Below.refl _ _) _)) (by unfold maxLen; omega) (by omega) (by simp) ?_; intro A6 cap6 w6 own6 grow6 rd6 c6 d6; have hb6 : Below w.heap.size w w6 := app_below grow6 (Nat.le_refl _); (simp only [Nat.zero_add, List.nil_append] at own6 c6); (simp only [Nat.zero_add]); clear grow6 rd6)
  go_ret
  obtain ⟨g, rfl, hg, hm⟩ := Ord.mid_own own6
  exact ⟨g, cap6, rfl, hm, hg, c6, d6, hb6⟩
theorem clone_none (w : World) :
    Calls Tryz.prog 170 #[.slice none 0 0] w fun e w' => e = .returned (.slice none 0 0) ∧ w' = w := by
  have hq : ∀ w', (binOp .eql 48 (.slice none 0 0) (.slice none 0 0)).run Tryz.prog w' = .ok (.bool true) w' := fun w' => eql_nil w' _ _ none 0 0 i64s_und
  go_enter Tryz.func170, Tryz.ntmps170
  go_wp2
  go_ret
  exact ⟨rfl, rfl⟩
end Go.Proofs.YtiblpdjehknbcaaGreat.Slc
/- The plain arithmetic of layer 3: numbers of sixty-four bits. No dump is imported. -/
namespace Go.Proofs.YtiblpdjehknbcaaGreat.Sed
open Go Go.RowKit

def val (b : BitVec 64) : Int := (b.toNat : Int)
def bv (x : Int) : BitVec 64 := BitVec.ofInt 64 x
theorem val_bd (b : BitVec 64) : 0 ≤ val b ∧ val b ≤ 18446744073709551615 := by
  have := b.isLt
  unfold val
  omega
theorem val_bv (x : Int) (h0 : 0 ≤ x) (h1 : x ≤ 18446744073709551615) : val (bv x) = x := by
  unfold val bv
  rw [BitVec.toNat_ofInt]
  omega
theorem bv_val (b : BitVec 64) : bv (val b) = b := by
  unfold val bv
  simp
theorem val_inj {a b : BitVec 64} (h : val a = val b) : a = b := by
  rw [← bv_val a, ← bv_val b, h]
theorem val_iff (a b : BitVec 64) : (val a = val b) ↔ a = b := ⟨val_inj, fun h => by rw [h]⟩
theorem wrap_bv (x : Int) : IntKind.u64.wrap x = val (bv x) := by
  unfold val bv
  rw [IntKind.wrap_u64, BitVec.toNat_ofInt]
  omega
theorem bv_add (x y : Int) : bv (x + y) = bv x + bv y := by unfold bv; exact BitVec.ofInt_add x y
theorem bv_mul (x y : Int) : bv (x * y) = bv x * bv y := by unfold bv; exact BitVec.ofInt_mul x y
theorem val_xor (a b : BitVec 64) : bits .xor .u64 (val a) (val b) = val (a ^^^ b) := by
  unfold val
  rw [u64_xor_nat _ _ a.isLt b.isLt, BitVec.toNat_xor]
theorem val_or (a b : BitVec 64) : bits .or .u64 (val a) (val b) = val (a ||| b) := by
  unfold val
  rw [u64_or_nat _ _ a.isLt b.isLt, BitVec.toNat_or]
theorem val_shr (a : BitVec 64) (k : Nat) : val a / 2 ^ k = val (a >>> k) := by
  unfold val
  rw [BitVec.toNat_ushiftRight, Nat.shiftRight_eq_div_pow]
  simp
theorem wrap_mul (a b : BitVec 64) : IntKind.u64.wrap (val a * val b) = val (a * b) := by rw [wrap_bv, bv_mul, bv_val, bv_val]
theorem wrap_add (a b : BitVec 64) : IntKind.u64.wrap (val a + val b) = val (a + b) := by rw [wrap_bv, bv_add, bv_val, bv_val]

def sh (k : Nat) (b : BitVec 64) : BitVec 64 := b ^^^ b >>> k
def ush (k : Nat) (b : BitVec 64) : BitVec 64 := sh (2 * k) (sh k b)
def c1 : BitVec 64 := 13787848793156543929#64
def c2 : BitVec 64 := 10723151780598845931#64
def d1 : BitVec 64 := 10871156337175269513#64
def d2 : BitVec 64 := 3573116690164977347#64
def mixB (b : BitVec 64) : BitVec 64 := sh 31 (sh 27 (sh 30 b * c1) * c2)
def unmixB (b : BitVec 64) : BitVec 64 := ush 30 (ush 27 (ush 31 b * d2) * d1)
theorem sh_sh (j k : Nat) (b : BitVec 64) : sh j (sh k b) = b ^^^ b >>> k ^^^ b >>> j ^^^ b >>> (j + k) := by
  unfold sh
  rw [BitVec.ushiftRight_xor_distrib, Nat.add_comm j k, BitVec.shiftRight_add, ← BitVec.xor_assoc]
theorem shr_big (b : BitVec 64) (k : Nat) (h : 64 ≤ k) : b >>> k = 0#64 := by
  apply BitVec.eq_of_toNat_eq
  rw [BitVec.toNat_ushiftRight, Nat.shiftRight_eq_div_pow]
  have := b.isLt
  have h2 : 2 ^ 64 ≤ 2 ^ k := Nat.pow_le_pow_right (by omega) h
  simp
  omega
theorem sh_twice (k : Nat) (b : BitVec 64) : sh k (sh k b) = sh (2 * k) b := by
  rw [sh_sh]
  unfold sh
  rw [BitVec.xor_assoc b, BitVec.xor_self, show k + k = 2 * k from by omega]
  simp
theorem sh_big (k : Nat) (h : 64 ≤ k) (b : BitVec 64) : sh k b = b := by
  unfold sh
  rw [shr_big b k h]
  simp
theorem sh_comm (j k : Nat) (b : BitVec 64) : sh j (sh k b) = sh k (sh j b) := by
  rw [sh_sh, sh_sh, Nat.add_comm j k, BitVec.xor_assoc b, BitVec.xor_comm (b >>> k), ← BitVec.xor_assoc]
theorem ush_sh (k : Nat) (h : 16 ≤ k) (b : BitVec 64) : ush k (sh k b) = b := by
  unfold ush
  rw [sh_twice, sh_twice, sh_big _ (by omega)]
theorem sh_ush (k : Nat) (h : 16 ≤ k) (b : BitVec 64) : sh k (ush k b) = b := by
  unfold ush
  rw [sh_comm, sh_twice, sh_twice, sh_big _ (by omega)]
theorem c1d1 : c1 * d1 = 1#64 := by decide
theorem c2d2 : c2 * d2 = 1#64 := by decide
theorem unmix_mix (b : BitVec 64) : unmixB (mixB b) = b := by
  unfold unmixB mixB
  rw [ush_sh 31 (by omega), BitVec.mul_assoc, c2d2, BitVec.mul_one, ush_sh 27 (by omega), BitVec.mul_assoc, c1d1, BitVec.mul_one, ush_sh 30 (by omega)]
theorem mix_unmix (b : BitVec 64) : mixB (unmixB b) = b := by
  unfold unmixB mixB
  rw [sh_ush 30 (by omega), BitVec.mul_assoc, BitVec.mul_comm d1, c1d1, BitVec.mul_one, sh_ush 27 (by omega), BitVec.mul_assoc, BitVec.mul_comm d2, c2d2, BitVec.mul_one, sh_ush 31 (by omega)]
theorem mix_inj {a b : BitVec 64} (h : mixB a = mixB b) : a = b := by rw [← unmix_mix a, ← unmix_mix b, h]

/-! ### What the calls tell, of plain numbers -/
def mix (x : Int) : Int := val (mixB (bv x))
def unmix (x : Int) : Int := val (unmixB (bv x))
def draw (s i : Int) : Int := mix (IntKind.u64.wrap (s + IntKind.u64.wrap (IntKind.u64.wrap (i + 1) * 11400714819323198485)))
theorem mix_bd (x : Int) : 0 ≤ mix x ∧ mix x ≤ 18446744073709551615 := val_bd _
theorem unmix_bd (x : Int) : 0 ≤ unmix x ∧ unmix x ≤ 18446744073709551615 := val_bd _
theorem draw_bd (s i : Int) : 0 ≤ draw s i ∧ draw s i ≤ 18446744073709551615 := val_bd _
theorem val_of (x : Int) (h0 : 0 ≤ x) (h1 : x ≤ 18446744073709551615) : ∃ b : BitVec 64, x = val b := ⟨bv x, (val_bv x h0 h1).symm⟩
theorem shI (k : Nat) (m : Int) (hm : m = 2 ^ k) (b : BitVec 64) : bits .xor .u64 (val b) (val b / m) = val (sh k b) := by
  rw [hm, val_shr, val_xor]
  rfl
theorem mulI (a b : BitVec 64) (c : Int) (h : bv c = b) : IntKind.u64.wrap (val a * c) = val (a * b) := by
  rw [wrap_bv, bv_mul, bv_val, h]
theorem mix_eq (x : Int) (h0 : 0 ≤ x) (h1 : x ≤ 18446744073709551615) :
    IntKind.u64.wrap (bits .xor .u64
      (IntKind.u64.wrap (bits .xor .u64 (IntKind.u64.wrap (bits .xor .u64 x (x / 1073741824) * 13787848793156543929)) (IntKind.u64.wrap (bits .xor .u64 x (x / 1073741824) * 13787848793156543929) / 134217728) * 10723151780598845931))
      (IntKind.u64.wrap (bits .xor .u64 (IntKind.u64.wrap (bits .xor .u64 x (x / 1073741824) * 13787848793156543929)) (IntKind.u64.wrap (bits .xor .u64 x (x / 1073741824) * 13787848793156543929) / 134217728) * 10723151780598845931) / 2147483648)) = mix x := by
  obtain ⟨b, rfl⟩ := val_of x h0 h1
  rw [shI 30 1073741824 (by decide), mulI _ c1 _ rfl, shI 27 134217728 (by decide), mulI _ c2 _ rfl, shI 31 2147483648 (by decide), wrap_bv, bv_val, mix, bv_val]
  rfl
def undo (k : Nat) (x : Int) : Int := val (ush k (bv x))
theorem undo_bd (k : Nat) (x : Int) : 0 ≤ undo k x ∧ undo k x ≤ 18446744073709551615 := val_bd _
theorem undo_30 (x : Int) (h0 : 0 ≤ x) (h1 : x ≤ 18446744073709551615) : undo (Int.toNat 30) x = bits .xor .u64 (bits .xor .u64 x (x / 1073741824)) (bits .xor .u64 x (x / 1073741824) / 1152921504606846976) := by
  obtain ⟨b, rfl⟩ := val_of x h0 h1
  rw [shI 30 1073741824 (by decide), shI 60 1152921504606846976 (by decide), undo, bv_val]
  rfl
theorem undo_27 (x : Int) (h0 : 0 ≤ x) (h1 : x ≤ 18446744073709551615) : undo (Int.toNat 27) x = bits .xor .u64 (bits .xor .u64 x (x / 134217728)) (bits .xor .u64 x (x / 134217728) / 18014398509481984) := by
  obtain ⟨b, rfl⟩ := val_of x h0 h1
  rw [shI 27 134217728 (by decide), shI 54 18014398509481984 (by decide), undo, bv_val]
  rfl
theorem undo_31 (x : Int) (h0 : 0 ≤ x) (h1 : x ≤ 18446744073709551615) : undo (Int.toNat 31) x = bits .xor .u64 (bits .xor .u64 x (x / 2147483648)) (bits .xor .u64 x (x / 2147483648) / 4611686018427387904) := by
  obtain ⟨b, rfl⟩ := val_of x h0 h1
  rw [shI 31 2147483648 (by decide), shI 62 4611686018427387904 (by decide), undo, bv_val]
  rfl
theorem unmix_eq (x : Int) (h0 : 0 ≤ x) (h1 : x ≤ 18446744073709551615) :
    undo 30 (IntKind.u64.wrap (undo 27 (IntKind.u64.wrap (undo 31 x * 3573116690164977347)) * 10871156337175269513)) = unmix x := by
  obtain ⟨b, rfl⟩ := val_of x h0 h1
  unfold undo unmix
  rw [bv_val, mulI _ d2 3573116690164977347 rfl, bv_val, mulI _ d1 10871156337175269513 rfl, bv_val]
  rfl
def okRow (l r : Int) : Prop := 0 ≤ l ∧ l ≤ 59 ∧ 0 ≤ r ∧ r ≤ 7
instance (l r : Int) : Decidable (okRow l r) := by unfold okRow; infer_instance
def pairA (s l r : Int) : Int := if okRow l r then 1 + draw s (2 * (8 * l + r)) % 2305843009213693950 else 0
def pairB (s l r : Int) : Int := if okRow l r then draw s (2 * (8 * l + r) + 1) % 2305843009213693951 else 0
theorem pairA_eq (s l r : Int) (h : okRow l r) : IntKind.u64.wrap (1 + (draw s (2 * (8 * l + r))).tmod 2305843009213693950) = pairA s l r := by
  have b := draw_bd s (2 * (8 * l + r))
  unfold pairA
  rw [if_pos h, Int.tmod_eq_emod_of_nonneg b.1, IntWalk.u64_in _ (by omega)]
theorem pairB_eq (s l r : Int) (h : okRow l r) : draw s (2 * (8 * l + r) + 1) % 2305843009213693951 = pairB s l r := by
  unfold pairB
  rw [if_pos h]
theorem pairA_bd (s l r : Int) (h : okRow l r) : 1 ≤ pairA s l r ∧ pairA s l r ≤ 2305843009213693950 := by
  unfold pairA
  rw [if_pos h]
  omega
theorem pairB_bd (s l r : Int) (h : okRow l r) : 0 ≤ pairB s l r ∧ pairB s l r ≤ 2305843009213693950 := by
  unfold pairB
  rw [if_pos h]
  omega
theorem back1 (x : Int) (h0 : 0 ≤ x) (h1 : x ≤ 18446744073709551615) : unmix (mix x) = x := by
  unfold unmix mix
  rw [bv_val, unmix_mix, val_bv x h0 h1]
theorem back2 (x : Int) (h0 : 0 ≤ x) (h1 : x ≤ 18446744073709551615) : mix (unmix x) = x := by
  unfold unmix mix
  rw [bv_val, mix_unmix, val_bv x h0 h1]
theorem mix_one (x y : Int) (h0 : 0 ≤ x) (h1 : x ≤ 18446744073709551615) (g0 : 0 ≤ y) (g1 : y ≤ 18446744073709551615) (h : mix x = mix y) : x = y := by
  rw [← back1 x h0 h1, ← back1 y g0 g1, h]
theorem draw_bv (s i : Int) : draw s i = val (mixB (bv s + (bv i + 1#64) * 11400714819323198485#64)) := by
  unfold draw mix
  rw [wrap_bv, bv_val, bv_add, wrap_bv, bv_val, bv_mul, wrap_bv, bv_val, bv_add]
  rfl
theorem stride_odd : 11400714819323198485#64 * 17428512612931826493#64 = 1#64 := by decide
theorem draw_one (s x y : Int) (h0 : 0 ≤ x) (h1 : x ≤ 18446744073709551615) (g0 : 0 ≤ y) (g1 : y ≤ 18446744073709551615) (h : draw s x = draw s y) : x = y := by
  rw [draw_bv, draw_bv] at h
  have e := (BitVec.add_right_inj _).1 (mix_inj (val_inj h))
  have e2 : (bv x + 1#64) * 11400714819323198485#64 * 17428512612931826493#64 = (bv y + 1#64) * 11400714819323198485#64 * 17428512612931826493#64 := by rw [e]
  rw [BitVec.mul_assoc, BitVec.mul_assoc, stride_odd, BitVec.mul_one, BitVec.mul_one] at e2
  have e3 := (BitVec.add_left_inj _).1 e2
  rw [← val_bv x h0 h1, ← val_bv y g0 g1, e3]
theorem draw_two (s t x : Int) (h0 : 0 ≤ s) (h1 : s ≤ 18446744073709551615) (g0 : 0 ≤ t) (g1 : t ≤ 18446744073709551615) (h : draw s x = draw t x) : s = t := by
  rw [draw_bv, draw_bv] at h
  have e := (BitVec.add_left_inj _).1 (mix_inj (val_inj h))
  rw [← val_bv s h0 h1, ← val_bv t g0 g1, e]
theorem draw_shift (s i n : Int) : draw (IntKind.u64.wrap (s + IntKind.u64.wrap (n * 11400714819323198485))) i = draw s (IntKind.u64.wrap (i + n)) := by
  rw [draw_bv, draw_bv, wrap_bv, wrap_bv, wrap_bv, bv_val, bv_val, bv_add, bv_val, bv_mul, bv_add]
  congr 2
  rw [show bv 11400714819323198485 = 11400714819323198485#64 from rfl, BitVec.add_assoc, ← BitVec.add_mul]
  congr 2
  ac_rfl
end Go.Proofs.YtiblpdjehknbcaaGreat.Sed
/- Bit by bit: what the document's own answers of layer 3 do, told of numbers of sixty-four bits. No dump is imported. -/
namespace Go.Proofs.YtiblpdjehknbcaaGreat.Sed
open Go Go.RowKit Fld

theorem bv_wrap (x : Int) : bv (IntKind.u64.wrap x) = bv x := by rw [wrap_bv, bv_val]
theorem wrap_bd (x : Int) : 0 ≤ IntKind.u64.wrap x ∧ IntKind.u64.wrap x ≤ 18446744073709551615 := u64_bd x

/-! ### Products by doubling -/
theorem times_odd (o x y T : Int) (hy : y % 2 = 1) (h : bv (o + x * y) = bv T) : bv (IntKind.u64.wrap (o + x) + IntKind.u64.wrap (x + x) * (y / 2)) = bv T := by
  rw [bv_add, bv_wrap, bv_mul, bv_wrap, ← bv_mul, ← bv_add, ← h]
  congr 1
  have e : y = 2 * (y / 2) + 1 := by omega
  generalize y / 2 = q at e ⊢
  subst e
  rw [Int.mul_add, Int.add_mul, Int.mul_left_comm]
  omega
theorem times_even (o x y T : Int) (hy : y % 2 = 0) (h : bv (o + x * y) = bv T) : bv (o + IntKind.u64.wrap (x + x) * (y / 2)) = bv T := by
  rw [bv_add, bv_mul, bv_wrap, ← bv_mul, ← bv_add, ← h]
  congr 1
  have e : y = 2 * (y / 2) := by omega
  generalize y / 2 = q at e ⊢
  subst e
  rw [Int.add_mul, Int.mul_left_comm]
  omega
theorem times_end (o x T : Int) (h0 : 0 ≤ o) (h1 : o ≤ 18446744073709551615) (h : bv (o + x * 0) = bv T) : o = IntKind.u64.wrap T := by
  rw [Int.mul_zero, Int.add_zero] at h
  rw [wrap_bv, ← h, val_bv o h0 h1]

/-! ### Bits -/
def bt (b : BitVec 64) (i : Nat) : Int := if b.getLsbD i then 1 else 0
def lw (b : BitVec 64) (i : Nat) : Int := val b % 2 ^ i
def hg (b : BitVec 64) (i : Nat) : Int := val b / 2 ^ i * 2 ^ i
theorem bt_cases (b : BitVec 64) (i : Nat) : bt b i = 0 ∨ bt b i = 1 := by unfold bt; split <;> simp
theorem bt_val (b : BitVec 64) (i : Nat) : val b / 2 ^ i % 2 = bt b i := by
  unfold val bt
  rw [show b.getLsbD i = b.toNat.testBit i from rfl, Nat.testBit_eq_decide_div_mod_eq]
  have e : (b.toNat : Int) / 2 ^ i % 2 = ((b.toNat / 2 ^ i % 2 : Nat) : Int) := by simp
  rw [e]
  have : b.toNat / 2 ^ i % 2 < 2 := Nat.mod_lt _ (by omega)
  by_cases h : b.toNat / 2 ^ i % 2 = 1
  · simp [h]
  · simp [h]; omega
theorem div_bd (b : BitVec 64) (i : Nat) : 0 ≤ val b / 2 ^ i ∧ val b / 2 ^ i ≤ 18446744073709551615 := by
  rw [val_shr]
  exact val_bd _
theorem and_bt (b : BitVec 64) (i : Nat) : bits .and .u64 (val b / 2 ^ i) 1 = bt b i := by
  rw [and1 _ (div_bd b i).1 (div_bd b i).2, bt_val]
theorem bt_shr (b : BitVec 64) (i k : Nat) : bt (b >>> k) i = bt b (i + k) := by
  unfold bt
  rw [BitVec.getLsbD_ushiftRight, Nat.add_comm]
theorem xor_bt (a b : BitVec 64) (i j : Nat) : bits .xor .u64 (bt a i) (bt b j) = bt (a >>> i ^^^ b >>> j) 0 := by
  have e : bt (a >>> i ^^^ b >>> j) 0 = if a.getLsbD i ^^ b.getLsbD j then 1 else 0 := by
    unfold bt
    rw [BitVec.getLsbD_xor, BitVec.getLsbD_ushiftRight, BitVec.getLsbD_ushiftRight, Nat.add_zero, Nat.add_zero]
  rw [e]
  unfold bt
  cases a.getLsbD i <;> cases b.getLsbD j <;> decide
theorem sh_bt (k : Nat) (b : BitVec 64) (i : Nat) : bt (b >>> i ^^^ b >>> (i + k)) 0 = bt (sh k b) i := by
  unfold bt sh
  rw [BitVec.getLsbD_xor, BitVec.getLsbD_xor, BitVec.getLsbD_ushiftRight, BitVec.getLsbD_ushiftRight, BitVec.getLsbD_ushiftRight, Nat.add_zero, Nat.add_zero, Nat.add_comm i k]
theorem sh_top (k : Nat) (b : BitVec 64) (i : Nat) (h : 64 ≤ i + k) : bt b i = bt (sh k b) i := by
  unfold bt sh
  rw [BitVec.getLsbD_xor, BitVec.getLsbD_ushiftRight, BitVec.getLsbD_of_ge b (k + i) (by omega), Bool.xor_false]
theorem unsh_bt (k : Nat) (b : BitVec 64) (i : Nat) : bt (sh k b >>> i ^^^ b >>> (i + k)) 0 = bt b i := by
  unfold bt sh
  rw [BitVec.getLsbD_xor, BitVec.getLsbD_ushiftRight, BitVec.getLsbD_ushiftRight, BitVec.getLsbD_xor, BitVec.getLsbD_ushiftRight, Nat.add_zero, Nat.add_zero, Nat.add_comm i k, Bool.xor_assoc, Bool.xor_self, Bool.xor_false]

theorem pow_le (i : Nat) (h : i < 64) : (0 : Int) < 2 ^ i ∧ (2 : Int) ^ i ≤ 9223372036854775808 := by
  have h1 : (2 : Nat) ^ i ≤ 2 ^ 63 := Nat.pow_le_pow_right (by omega) (by omega)
  have h0 : (0 : Nat) < 2 ^ i := Nat.pow_pos (by omega)
  have e : ((2 : Int) ^ i) = ((2 ^ i : Nat) : Int) := by simp
  rw [e]
  have e2 : (2 : Nat) ^ 63 = 9223372036854775808 := by decide
  omega
theorem bt_pow (b : BitVec 64) (i : Nat) (h : i < 64) : IntKind.u64.wrap (bt b i * 2 ^ i) = bt b i * 2 ^ i := by
  have := pow_le i h
  apply IntWalk.u64_in
  rcases bt_cases b i with e | e <;> rw [e] <;> omega
theorem lw_bd (b : BitVec 64) (i : Nat) : 0 ≤ lw b i ∧ lw b i ≤ 18446744073709551615 := by
  have hb := val_bd b
  unfold lw
  have h0 : (0 : Int) < 2 ^ i := Int.pow_pos (by omega)
  have h1 := Int.emod_nonneg (val b) (by omega : (2 : Int) ^ i ≠ 0)
  have h2 : val b % 2 ^ i ≤ val b := by
    have := Int.mul_ediv_add_emod (val b) (2 ^ i)
    have h3 : 0 ≤ val b / 2 ^ i := Int.ediv_nonneg hb.1 (by omega)
    have h4 : 0 ≤ 2 ^ i * (val b / 2 ^ i) := Int.mul_nonneg (by omega) h3
    omega
  omega
theorem lw_zero (b : BitVec 64) : lw b 0 = 0 := by unfold lw; simp
theorem lw_all (b : BitVec 64) : lw b 64 = val b := by
  have hb := val_bd b
  unfold lw
  rw [show (2 : Int) ^ 64 = 18446744073709551616 from by decide]
  omega
theorem lw_succ (b : BitVec 64) (i : Nat) : lw b (i + 1) = lw b i + bt b i * 2 ^ i := by
  rw [← bt_val]
  unfold lw val
  have e := Nat.mod_pow_succ (b := 2) (k := i) (x := b.toNat)
  have e2 : ((b.toNat : Int) % 2 ^ (i + 1)) = ((b.toNat % 2 ^ (i + 1) : Nat) : Int) := by simp
  rw [e2, e]
  simp only [Int.natCast_add, Int.natCast_mul, Int.natCast_emod, Int.natCast_ediv, Int.natCast_pow]
  rw [Int.mul_comm]
  rfl
theorem or_lw (b : BitVec 64) (i : Nat) (h : i < 64) : bits .or .u64 (lw b i) (IntKind.u64.wrap (bt b i * 2 ^ i)) = lw b (i + 1) := by
  rw [bt_pow b i h, lw_succ]
  have hl := lw_bd b i
  have hp := pow_le i h
  rcases bt_cases b i with e | e
  · rw [e, Int.zero_mul, u64_or _ 0 hl.1 (by omega) (by omega) (by omega)]
    simp
    omega
  · rw [e, Int.one_mul, u64_or _ _ hl.1 (by omega) (by omega) (by omega), Nat.or_comm]
    have ep : ((2 : Int) ^ i).toNat = 2 ^ i := by
      have : ((2 : Int) ^ i) = ((2 ^ i : Nat) : Int) := by simp
      rw [this]; rfl
    rw [nat_join i, ep]
    · have : ((2 ^ i : Nat) : Int) = 2 ^ i := by simp
      omega
    · rw [ep]; simp
    · have : lw b i < 2 ^ i := by
        unfold lw
        exact Int.emod_lt_of_pos _ hp.1
      have e3 : ((2 : Int) ^ i) = ((2 ^ i : Nat) : Int) := by simp
      omega
theorem hg_zero (b : BitVec 64) : hg b 0 = val b := by unfold hg; simp
theorem hg_all (b : BitVec 64) : hg b 64 = 0 := by
  have hb := val_bd b
  unfold hg
  rw [show (2 : Int) ^ 64 = 18446744073709551616 from by decide]
  omega
theorem hg_lw (b : BitVec 64) (i : Nat) : hg b i + lw b i = val b := by
  unfold hg lw
  have := Int.mul_ediv_add_emod (val b) (2 ^ i)
  rw [Int.mul_comm] at this
  omega
theorem hg_succ (b : BitVec 64) (i : Nat) : hg b i = hg b (i + 1) + bt b i * 2 ^ i := by
  have h1 := hg_lw b i
  have h2 := hg_lw b (i + 1)
  have h3 := lw_succ b i
  omega
theorem hg_bd (b : BitVec 64) (i : Nat) : 0 ≤ hg b i ∧ hg b i ≤ 18446744073709551615 := by
  have h1 := hg_lw b i
  have h2 := lw_bd b i
  have h3 := val_bd b
  have h0 : (0 : Int) < 2 ^ i := Int.pow_pos (by omega)
  have h4 : 0 ≤ hg b i := by
    unfold hg
    exact Int.mul_nonneg (Int.ediv_nonneg h3.1 (by omega)) (by omega)
  omega
theorem hg_div (b : BitVec 64) (i m : Nat) (h : i ≤ m) : hg b i / 2 ^ m = val b / 2 ^ m := by
  have h0 : (0 : Int) < 2 ^ i := Int.pow_pos (by omega)
  unfold hg
  obtain ⟨j, rfl⟩ := Nat.exists_eq_add_of_le h
  rw [Int.pow_add, ← Int.ediv_ediv_of_nonneg (by omega), ← Int.ediv_ediv_of_nonneg (by omega), Int.mul_ediv_cancel _ (by omega)]
theorem and_hg (b : BitVec 64) (i m : Nat) (h : i ≤ m) : bits .and .u64 (hg b i / 2 ^ m) 1 = bt b m := by
  rw [hg_div b i m h, and_bt]
theorem or_hg (b : BitVec 64) (i : Nat) (h : i < 64) : bits .or .u64 (hg b (i + 1)) (IntKind.u64.wrap (bt b i * 2 ^ i)) = hg b i := by
  rw [bt_pow b i h, hg_succ b i]
  have hl := hg_bd b (i + 1)
  have hp := pow_le i h
  rcases bt_cases b i with e | e
  · rw [e, Int.zero_mul, u64_or _ 0 hl.1 (by omega) (by omega) (by omega)]
    simp
    omega
  · rw [e, Int.one_mul, u64_or _ _ hl.1 (by omega) (by omega) (by omega)]
    have ep : ((2 : Int) ^ i).toNat = 2 ^ i := by
      have : ((2 : Int) ^ i) = ((2 ^ i : Nat) : Int) := by simp
      rw [this]; rfl
    have eh : (hg b (i + 1)).toNat = b.toNat / 2 ^ (i + 1) * 2 ^ (i + 1) := by
      have : hg b (i + 1) = ((b.toNat / 2 ^ (i + 1) * 2 ^ (i + 1) : Nat) : Int) := by unfold hg val; simp
      rw [this]; rfl
    rw [nat_join (i + 1), ep]
    · have : ((2 ^ i : Nat) : Int) = 2 ^ i := by simp
      omega
    · rw [eh]; simp
    · rw [ep]; exact Nat.pow_lt_pow_right (by omega) (by omega)

/-! ### Division by an odd number -/
theorem bt_bv (x i : Nat) (h : i < 64) : bt (bv (x : Int)) i = ((x / 2 ^ i % 2 : Nat) : Int) := by
  unfold bt bv
  rw [BitVec.ofInt_natCast, BitVec.getLsbD_ofNat, Nat.testBit_eq_decide_div_mod_eq]
  have : x / 2 ^ i % 2 < 2 := Nat.mod_lt _ (by omega)
  by_cases h1 : x / 2 ^ i % 2 = 1
  · simp [h, h1]
  · have h2 : x / 2 ^ i % 2 = 0 := by omega
    simp [h2]
theorem hg_bit (D : BitVec 64) (i : Nat) (h : i < 64) (c : Nat) (hc : c % 2 = 1) : bt (bv (hg D i * (c : Int))) i = bt D i := by
  have e : hg D i * (c : Int) = ((D.toNat / 2 ^ i * 2 ^ i * c : Nat) : Int) := by unfold hg val; simp
  rw [e, bt_bv _ i h, Nat.mul_assoc, Nat.mul_left_comm, Nat.mul_div_cancel_left _ (Nat.pow_pos (by omega)), Nat.mul_mod, hc, Nat.mul_one, Nat.mod_mod, ← bt_val]
  unfold val
  simp
theorem and_rest (D : BitVec 64) (i : Nat) (h : i < 64) (c : Nat) (hc : c % 2 = 1) : bits .and .u64 (IntKind.u64.wrap (hg D i * (c : Int)) / 2 ^ i) 1 = bt D i := by
  rw [wrap_bv, and_bt, hg_bit D i h c hc]
theorem rest_one (D : BitVec 64) (i : Nat) (c : Int) (h : bt D i = 1) : IntKind.u64.wrap (IntKind.u64.wrap (hg D i * c) - IntKind.u64.wrap (c * 2 ^ i)) = IntKind.u64.wrap (hg D (i + 1) * c) := by
  have e : hg D (i + 1) * c = hg D i * c - c * 2 ^ i := by
    have := hg_succ D i
    rw [h, Int.one_mul] at this
    rw [this, Int.add_mul, Int.mul_comm c]
    omega
  rw [e]
  generalize hg D i * c = A
  generalize c * 2 ^ i = B
  simp only [IntKind.wrap_u64]
  omega
theorem rest_zero (D : BitVec 64) (i : Nat) (h : bt D i = 0) : hg D i = hg D (i + 1) := by
  have := hg_succ D i
  rw [h, Int.zero_mul] at this
  omega
theorem low_zero (D : BitVec 64) (i : Nat) (h : bt D i = 0) : lw D i = lw D (i + 1) := by
  have := lw_succ D i
  rw [h, Int.zero_mul] at this
  omega
theorem low_one (D : BitVec 64) (i : Nat) (hi : i < 64) (h : bt D i = 1) : bits .or .u64 (lw D i) (IntKind.u64.wrap (2 ^ i)) = lw D (i + 1) := by
  have e := or_lw D i hi
  rw [h, Int.one_mul] at e
  exact e
theorem rest_start (z : BitVec 64) (c d : BitVec 64) (h : d * c = 1#64) : IntKind.u64.wrap (hg (z * d) 0 * val c) = val z := by
  rw [hg_zero, wrap_mul, BitVec.mul_assoc, h, BitVec.mul_one]
end Go.Proofs.YtiblpdjehknbcaaGreat.Sed
/- The walks of Mix, Unmix, Draw. -/
namespace Go.Proofs.YtiblpdjehknbcaaGreat.Sed
open Go.RowKit Lw Fld

theorem steps_any (w : World) :
    Calls Tryz.prog 167 #[] w fun e w' => e = .returned (.agg #[.int .u64 30, .int .u64 13787848793156543929, .int .u64 10871156337175269513, .int .u64 27, .int .u64 10723151780598845931, .int .u64 3573116690164977347, .int .u64 31, .int .u64 1, .int .u64 1]) ∧ Below w.heap.size w w' := by
  go_enter Tryz.func167, Tryz.ntmps167
  go_wp2
  go_returns
  exact ⟨rfl, (Below.refl _ _).alloc (Nat.le_refl _) _⟩
theorem steps0 (w : World) : (Instr.index 216 (.agg #[.int .u64 30, .int .u64 13787848793156543929, .int .u64 10871156337175269513, .int .u64 27, .int .u64 10723151780598845931, .int .u64 3573116690164977347, .int .u64 31, .int .u64 1, .int .u64 1]) (.int .i64 0)).run Tryz.prog w = .ok (.agg #[.int .u64 30, .int .u64 13787848793156543929, .int .u64 10871156337175269513]) w := by kernel_rfl
theorem steps1 (w : World) : (Instr.index 216 (.agg #[.int .u64 30, .int .u64 13787848793156543929, .int .u64 10871156337175269513, .int .u64 27, .int .u64 10723151780598845931, .int .u64 3573116690164977347, .int .u64 31, .int .u64 1, .int .u64 1]) (.int .i64 1)).run Tryz.prog w = .ok (.agg #[.int .u64 27, .int .u64 10723151780598845931, .int .u64 3573116690164977347]) w := by kernel_rfl
theorem steps2 (w : World) : (Instr.index 216 (.agg #[.int .u64 30, .int .u64 13787848793156543929, .int .u64 10871156337175269513, .int .u64 27, .int .u64 10723151780598845931, .int .u64 3573116690164977347, .int .u64 31, .int .u64 1, .int .u64 1]) (.int .i64 2)).run Tryz.prog w = .ok (.agg #[.int .u64 31, .int .u64 1, .int .u64 1]) w := by kernel_rfl
theorem mix_any (x : Int) (w : World) (h0 : 0 ≤ x) (h1 : x ≤ 18446744073709551615) :
    Calls Tryz.prog 162 #[.int .u64 x] w fun e w' => e = .returned (.int .u64 (mix x)) ∧ Below w.heap.size w w' := by
  have i0 := steps0
  have i1 := steps1
  have i2 := steps2
  go_enter Tryz.func162, Tryz.ntmps162
  go_wp2_with (go_at_call 167; ((with_reducible refine (steps_any _).mono ?_)); rintro e w' ⟨rfl, hb⟩; obtain ⟨bs, d, rfl⟩ := below_grow hb; clear hb)
  refine wp_loop_rounds 4 ?_
  iterate 3 (rw [rounds_succ]; go_wp2)
  rw [rounds_succ]; go_wp2
  go_ret
  refine ⟨ret_int ?_, ?_⟩
  · exact mix_eq x h0 h1
  · repeat' (first | (with_reducible exact Below.refl _ _) | (with_reducible refine below_over ?_ _ _) | (with_reducible refine Lw.below_alloc ?_ _) | (with_reducible refine Below.drew ?_) | (with_reducible refine below_drewN ?_ _) | (with_reducible refine Below.setCell ?_ ?_ _) | go_size)
theorem setCell_twice (w : World) (a : Addr) (u v : Value) : (w.setCell a u).setCell a v = w.setCell a v := by
  simp only [World.setCell, World.mk.injEq, and_true]
  apply Array.ext_getElem?
  intro j
  simp only [Array.getElem?_modify]
  split
  · cases w.heap[j]? with
    | none => rfl
    | some o => cases o <;> by_cases h : a.spot.isSome <;> simp [h]
  · rfl
def zAt (x : Int) : Nat → Int
  | 0 => undo 30 (IntKind.u64.wrap (undo 27 (IntKind.u64.wrap (undo 31 x * 3573116690164977347)) * 10871156337175269513))
  | 1 => undo 27 (IntKind.u64.wrap (undo 31 x * 3573116690164977347))
  | 2 => undo 31 x
  | _ => x
def unW (w : World) (bs : Array Obj) (d : Nat) (x : Int) (k : Nat) : World :=
  (grow (w.alloc (.cells #[.int .u64 (zAt x k)] 22)) bs d).alloc (.cells #[.int .u64 30, .int .u64 13787848793156543929, .int .u64 10871156337175269513, .int .u64 27, .int .u64 10723151780598845931, .int .u64 3573116690164977347, .int .u64 31, .int .u64 1, .int .u64 1] 216)
theorem unW0 (w : World) (bs : Array Obj) (d : Nat) (x : Int) : unW w bs d x 0 = (grow (w.alloc (.cells #[.int .u64 (zAt x 0)] 22)) bs d).alloc (.cells #[.int .u64 30, .int .u64 13787848793156543929, .int .u64 10871156337175269513, .int .u64 27, .int .u64 10723151780598845931, .int .u64 3573116690164977347, .int .u64 31, .int .u64 1, .int .u64 1] 216) := rfl
theorem unW1 (w : World) (bs : Array Obj) (d : Nat) (x : Int) : unW w bs d x 1 = (grow (w.alloc (.cells #[.int .u64 (zAt x 1)] 22)) bs d).alloc (.cells #[.int .u64 30, .int .u64 13787848793156543929, .int .u64 10871156337175269513, .int .u64 27, .int .u64 10723151780598845931, .int .u64 3573116690164977347, .int .u64 31, .int .u64 1, .int .u64 1] 216) := rfl
theorem unW2 (w : World) (bs : Array Obj) (d : Nat) (x : Int) : unW w bs d x 2 = (grow (w.alloc (.cells #[.int .u64 (zAt x 2)] 22)) bs d).alloc (.cells #[.int .u64 30, .int .u64 13787848793156543929, .int .u64 10871156337175269513, .int .u64 27, .int .u64 10723151780598845931, .int .u64 3573116690164977347, .int .u64 31, .int .u64 1, .int .u64 1] 216) := rfl
theorem unW3 (w : World) (bs : Array Obj) (d : Nat) (x : Int) : unW w bs d x 3 = (grow (w.alloc (.cells #[.int .u64 (zAt x 3)] 22)) bs d).alloc (.cells #[.int .u64 30, .int .u64 13787848793156543929, .int .u64 10871156337175269513, .int .u64 27, .int .u64 10723151780598845931, .int .u64 3573116690164977347, .int .u64 31, .int .u64 1, .int .u64 1] 216) := rfl
theorem draw_any (s i : Int) (w : World) :
    Calls Tryz.prog 155 #[.int .u64 s, .int .u64 i] w fun e w' => e = .returned (.int .u64 (draw s i)) ∧ Below w.heap.size w w' := by
  go_enter Tryz.func155, Tryz.ntmps155
  go_wp2_with (go_at_call 162; ((with_reducible refine (mix_any _ _ (u64_bd _).1 (u64_bd _).2).mono ?_)); rintro e w' ⟨rfl, hb⟩; obtain ⟨bs, d, rfl⟩ := below_grow hb; clear hb)
  go_ret
  exact ⟨rfl, grow_below _ _ _⟩
theorem pair_any (s l r : Int) (w : World) (l0 : -9223372036854775808 ≤ l) (l1 : l ≤ 9223372036854775807) (r0 : -9223372036854775808 ≤ r) (r1 : r ≤ 9223372036854775807) :
    Calls Tryz.prog 150 #[.int .u64 s, .int .i64 l, .int .i64 r] w fun e w' => e = .returned (.tuple #[.int .u64 (pairA s l r), .int .u64 (pairB s l r)]) ∧ Below w.heap.size w w' := by
  by_cases hk : 0 ≤ l ∧ l ≤ 59 ∧ 0 ≤ r ∧ r ≤ 7
  · obtain ⟨a0, a1, a2, a3⟩ := hk
    go_enter Tryz.func150, Tryz.ntmps150
    go_wp2_with (first
      | (go_at_call 155; ((with_reducible refine (draw_any _ _ _).mono ?_)); rintro e w' ⟨rfl, hb⟩; obtain ⟨bs, d, rfl⟩ := below_grow hb; clear hb)
      | (go_at_call 156; ((with_reducible refine (fold_any _ _ (draw_bd _ _).1 (draw_bd _ _).2).mono ?_)); rintro e w' ⟨rfl, rfl⟩))
    go_ret2
    refine ⟨ret_two ?_ ?_, ?_⟩
    · exact pairA_eq s l r ⟨a0, a1, a2, a3⟩
    · exact pairB_eq s l r ⟨a0, a1, a2, a3⟩
    · exact grow_below _ _ _
  · have e1 : pairA s l r = 0 := if_neg hk
    have e2 : pairB s l r = 0 := if_neg hk
    go_enter Tryz.func150, Tryz.ntmps150
    go_wp2
    all_goals go_ret2
    all_goals exact ⟨ret_two (by first | rfl | exact e1.symm) (by first | rfl | exact e2.symm), Below.refl _ _⟩
end Go.Proofs.YtiblpdjehknbcaaGreat.Sed
/- The walks of the document's own answers for layer 3. -/
namespace Go.Proofs.YtiblpdjehknbcaaGreat.Sed
open Go.RowKit Lw Fld

theorem rtimes_any (a b : Int) (w : World) (h0 : 0 ≤ a) (h1 : a ≤ 18446744073709551615) (g0 : 0 ≤ b) (g1 : b ≤ 18446744073709551615) :
    Calls Tryz.prog 96 #[.int .u64 a, .int .u64 b] w fun e w' => e = .returned (.int .u64 (IntKind.u64.wrap (a * b))) ∧ w = w' := by
  go_enter Tryz.func96, Tryz.ntmps96
  go_wp2
  go_loop [0, 1, 5] (fun x y o => ∃ xx yy oo : Int, 0 ≤ xx ∧ xx ≤ 18446744073709551615 ∧ 0 ≤ yy ∧ yy ≤ 18446744073709551615 ∧ 0 ≤ oo ∧ oo ≤ 18446744073709551615 ∧ x = .int .u64 xx ∧ y = .int .u64 yy ∧ o = .int .u64 oo ∧ bv (oo + xx * yy) = bv (a * b)) (fun _ y _ => (intOf y).toNat)
  case atStart => exact ⟨_, _, _, h0, h1, g0, g1, by omega, by omega, rfl, rfl, rfl, by rw [Int.zero_add]⟩
  case round =>
    obtain ⟨x, y, o, x0, x1, y0, y1, o0, o1, rfl, rfl, rfl, hp⟩ := hrel
    have H := Lib.hid hp
    clear hp
    by_cases hz : 0 < y
    · have m1 := u64_bd (o + x)
      have m2 := u64_bd (x + x)
      by_cases ho : y % 2 = 1
      · have hd : ((y % 2 : Int) == 1) = true := by simpa using ho
        have HO := Lib.hid ho
        clear ho
        go_wp2
        go_round
        case rel => exact ⟨_, _, _, m2.1, m2.2, by omega, by omega, m1.1, m1.2, rfl, rfl, rfl, times_odd o x y _ HO.out H.out⟩
        case measure => simp [intOf]; omega
      · have hd : ((y % 2 : Int) == 1) = false := by simpa using ho
        have HO : Hid (y % 2 = 0) := Lib.hid (by omega)
        clear ho
        go_wp2
        go_round
        case rel => exact ⟨_, _, _, m2.1, m2.2, by omega, by omega, o0, o1, rfl, rfl, rfl, times_even o x y _ HO.out H.out⟩
        case measure => simp [intOf]; omega
    · obtain rfl : y = 0 := by omega
      go_wp2
      go_ret
      exact ⟨ret_int (times_end o x _ o0 o1 H.out), rfl⟩

theorem rshaken_any (z : BitVec 64) (k : Nat) (w : World) (hk : k ≤ 63) :
    Calls Tryz.prog 100 #[.int .u64 (val z), .int .i64 (k : Int)] w fun e w' => e = .returned (.int .u64 (val (sh k z))) ∧ w = w' := by
  go_enter Tryz.func100, Tryz.ntmps100
  go_wp2
  go_loop [5, 6] (fun o i => ∃ j : Nat, j ≤ 64 ∧ o = .int .u64 (lw (sh k z) j) ∧ i = .int .i64 (j : Int)) (fun _ i => (64 - intOf i).toNat)
  case atStart => exact ⟨0, by omega, by rw [lw_zero], rfl⟩
  case round =>
    obtain ⟨j, hj, rfl, rfl⟩ := hrel
    by_cases hz : j < 64
    · have e1 := and_bt z j
      have e3 := or_lw (sh k z) j hz
      by_cases ht : j + k < 64
      · have e2 := and_bt z (j + k)
        have e4 := xor_bt z z j (j + k)
        rw [sh_bt] at e4
        go_wp2
        exact ⟨⟨j + 1, by omega, rfl, rfl⟩, by simp only [intOf]; omega⟩
      · have e2 := sh_top k z j (by omega)
        rw [e2] at e1
        go_wp2
        exact ⟨⟨j + 1, by omega, rfl, rfl⟩, by simp only [intOf]; omega⟩
    · obtain rfl : j = 64 := by omega
      go_wp2
      go_ret
      exact ⟨ret_int (lw_all _), rfl⟩

theorem rmix_any (x : Int) (w : World) (h0 : 0 ≤ x) (h1 : x ≤ 18446744073709551615) :
    Calls Tryz.prog 95 #[.int .u64 x] w fun e w' => e = .returned (.int .u64 (mix x)) ∧ w = w' := by
  obtain ⟨b, rfl⟩ := val_of x h0 h1
  have q1 := rtimes_any (val (sh 30 b)) 13787848793156543929 w (val_bd _).1 (val_bd _).2 (by omega) (by omega)
  rw [mulI (sh 30 b) c1 13787848793156543929 rfl] at q1
  have q2 := rtimes_any (val (sh 27 (sh 30 b * c1))) 10723151780598845931 w (val_bd _).1 (val_bd _).2 (by omega) (by omega)
  rw [mulI (sh 27 (sh 30 b * c1)) c2 10723151780598845931 rfl] at q2
  have s1 := rshaken_any b 30 w (by omega)
  rw [show ((30 : Nat) : Int) = 30 from rfl] at s1
  have s2 := rshaken_any (sh 30 b * c1) 27 w (by omega)
  rw [show ((27 : Nat) : Int) = 27 from rfl] at s2
  have s3 := rshaken_any (sh 27 (sh 30 b * c1) * c2) 31 w (by omega)
  rw [show ((31 : Nat) : Int) = 31 from rfl] at s3
  go_enter Tryz.func95, Tryz.ntmps95
  go_wp2_with (first
    | (go_at_call 100; ((with_reducible refine s1.mono ?_)); rintro e w' ⟨rfl, rfl⟩)
    | (go_at_call 96; ((with_reducible refine q1.mono ?_)); rintro e w' ⟨rfl, rfl⟩)
    | (go_at_call 100; ((with_reducible refine s2.mono ?_)); rintro e w' ⟨rfl, rfl⟩)
    | (go_at_call 96; ((with_reducible refine q2.mono ?_)); rintro e w' ⟨rfl, rfl⟩)
    | (go_at_call 100; ((with_reducible refine s3.mono ?_)); rintro e w' ⟨rfl, rfl⟩))
  go_ret
  exact ⟨ret_int (by unfold mix mixB; rw [bv_val]), rfl⟩
theorem rdraw_any (s i : Int) (w : World) :
    Calls Tryz.prog 89 #[.int .u64 s, .int .u64 i] w fun e w' => e = .returned (.int .u64 (draw s i)) ∧ w = w' := by
  go_enter Tryz.func89, Tryz.ntmps89
  go_wp2_with (first
    | (go_at_call 96; ((with_reducible refine (rtimes_any _ _ _ (u64_bd _).1 (u64_bd _).2 (by omega) (by omega)).mono ?_)); rintro e w' ⟨rfl, rfl⟩)
    | (go_at_call 95; ((with_reducible refine (rmix_any _ _ (u64_bd _).1 (u64_bd _).2).mono ?_)); rintro e w' ⟨rfl, rfl⟩))
  go_ret
  exact ⟨rfl, rfl⟩
theorem rpair_any (s l r : Int) (w : World) (l0 : -9223372036854775808 ≤ l) (l1 : l ≤ 9223372036854775807) (r0 : -9223372036854775808 ≤ r) (r1 : r ≤ 9223372036854775807) :
    Calls Tryz.prog 80 #[.int .u64 s, .int .i64 l, .int .i64 r] w fun e w' => e = .returned (.tuple #[.int .u64 (pairA s l r), .int .u64 (pairB s l r)]) ∧ w = w' := by
  by_cases hk : 0 ≤ l ∧ l ≤ 59 ∧ 0 ≤ r ∧ r ≤ 7
  · obtain ⟨a0, a1, a2, a3⟩ := hk
    have ee : 16 * l + 2 * r = 2 * (8 * l + r) := by omega
    go_enter Tryz.func80, Tryz.ntmps80
    go_wp2_with (go_at_call 89; ((with_reducible refine (rdraw_any _ _ _).mono ?_)); rintro e w' ⟨rfl, rfl⟩)
    go_ret2
    refine ⟨ret_two ?_ ?_, rfl⟩
    · exact pairA_eq s l r ⟨a0, a1, a2, a3⟩
    · rw [Int.tmod_eq_emod_of_nonneg (draw_bd _ _).1]
      exact pairB_eq s l r ⟨a0, a1, a2, a3⟩
  · have e1 : pairA s l r = 0 := if_neg hk
    have e2 : pairB s l r = 0 := if_neg hk
    go_enter Tryz.func80, Tryz.ntmps80
    go_wp2
    all_goals go_ret2
    all_goals exact ⟨ret_two (by first | rfl | exact e1.symm) (by first | rfl | exact e2.symm), rfl⟩
end Go.Proofs.YtiblpdjehknbcaaGreat.Sed
/- The walks of layer 4: a line's value, what is left of it, and the line through two points. -/
namespace Go.Proofs.YtiblpdjehknbcaaGreat.Hsh
open Go.RowKit Fld Lw
set_option linter.unusedVariables false
def lin (a b x : Int) : Int := add (mul a x) b
def buck (a b x n : Int) : Int := if n < 1 then -1 else lin a b x % n
def thrA (x u y v : Int) : Int := mul (sub u v) (inv (sub x y))
def thrB (x u y v : Int) : Int := sub u (lin (thrA x u y v) 0 x)
theorem lin_bd (a b x : Int) : 0 ≤ lin a b x ∧ lin a b x ≤ 2305843009213693950 := add_bd _ _
theorem mod_le (x n : Int) (h : 0 ≤ x) (hn : 1 ≤ n) : x % n ≤ x := by
  have e := Int.ediv_mul_add_emod x n
  have b := Int.mul_nonneg (Int.ediv_nonneg h (show 0 ≤ n by omega)) (show 0 ≤ n by omega)
  omega
theorem buck_bd (a b x n : Int) : -1 ≤ buck a b x n ∧ buck a b x n ≤ 2305843009213693950 := by
  have h := lin_bd a b x
  unfold buck
  split
  · omega
  · have h1 := Int.emod_nonneg (lin a b x) (show n ≠ 0 by omega)
    have h2 := mod_le _ n h.1 (by omega)
    omega
theorem at_any (a b x : Int) (w : World) (a0 : 0 ≤ a) (a1 : a ≤ 18446744073709551615) (b0 : 0 ≤ b) (b1 : b ≤ 18446744073709551615) (x0 : 0 ≤ x) (x1 : x ≤ 18446744073709551615) :
    Calls Tryz.prog 158 #[.agg #[.int .u64 a, .int .u64 b], .int .u64 x] w fun e w' => e = .returned (.int .u64 (lin a b x)) ∧ Below w.heap.size w w' := by
  have m := mul_bd a x
  go_enter Tryz.func158, Tryz.ntmps158
  go_wp2
  go_region_held3 (fun w' => w'.cell? ⟨w.heap.size, 0, none⟩ = some (.int .u64 a) ∧ w'.cell? ⟨w.heap.size, 1, none⟩ = some (.int .u64 b)) (simp [go_sem, *])
    (first
    | (go_at_call 164; (with_reducible refine (mul_any _ _ _ a0 a1 x0 x1).mono ?_); rintro e w' ⟨rfl, rfl⟩)
    | (go_at_call 163; (with_reducible refine (add_any _ _ _ m.1 (by omega) b0 b1).mono ?_); rintro e w' ⟨rfl, rfl⟩))
  all_goals go_wp2
  all_goals go_ret
  all_goals refine ⟨rfl, ?_⟩
  all_goals (repeat' (first | (with_reducible exact Below.refl _ _) | (with_reducible assumption) | (with_reducible refine below_over ?_ _ _) | (with_reducible refine Lw.below_alloc ?_ _) | (with_reducible refine Below.drew ?_) | (with_reducible refine below_drewN ?_ _) | (with_reducible refine Below.setCell ?_ ?_ _) | go_size))
theorem left_no (f : Fn) (c1 c2 : Array Value) (x n : Int) (w : World) (h : n < 1) :
    Calls Tryz.prog 157 #[.func f c1 c2, .int .u64 x, .int .i64 n] w fun e w' => e = .returned (.int .i64 (-1)) ∧ w = w' := by
  go_enter Tryz.func157, Tryz.ntmps157
  go_wp2
  go_ret
  exact ⟨rfl, rfl⟩
theorem left_yes (a b x n : Int) (w : World) (h : 1 ≤ n) (n1 : n ≤ 9223372036854775807) (a0 : 0 ≤ a) (a1 : a ≤ 18446744073709551615) (b0 : 0 ≤ b) (b1 : b ≤ 18446744073709551615) (x0 : 0 ≤ x) (x1 : x ≤ 18446744073709551615) :
    Calls Tryz.prog 157 #[.func (.func 158) #[.agg #[.int .u64 a, .int .u64 b]] #[], .int .u64 x, .int .i64 n] w fun e w' => e = .returned (.int .i64 (lin a b x % n)) ∧ Below w.heap.size w w' := by
  have l := lin_bd a b x
  have m0 := Int.emod_nonneg (lin a b x) (show n ≠ 0 by omega)
  have m1 := mod_le (lin a b x) n l.1 h
  have hn : IntKind.u64.wrap n = n := IntWalk.u64_in n ⟨by omega, by omega⟩
  have hn0 : ¬ n = 0 := by omega
  go_enter Tryz.func157, Tryz.ntmps157
  go_wp2_with (go_at_call 158; ((with_reducible refine (at_any a b x _ a0 a1 b0 b1 x0 x1).mono ?_)); rintro e w' ⟨rfl, hb⟩; obtain ⟨bs, d, rfl⟩ := below_grow hb; clear hb)
  go_ret
  refine ⟨rfl, ?_⟩
  repeat' (first | (with_reducible exact Below.refl _ _) | (with_reducible assumption) | (with_reducible refine below_over ?_ _ _) | (with_reducible refine Lw.below_alloc ?_ _) | (with_reducible refine Below.drew ?_) | (with_reducible refine below_drewN ?_ _) | (with_reducible refine Below.setCell ?_ ?_ _) | go_size)
theorem bucket_any (a b x n : Int) (w : World) (a0 : 0 ≤ a) (a1 : a ≤ 18446744073709551615) (b0 : 0 ≤ b) (b1 : b ≤ 18446744073709551615) (x0 : 0 ≤ x) (x1 : x ≤ 18446744073709551615) (n0 : -9223372036854775808 ≤ n) (n1 : n ≤ 9223372036854775807) :
    Calls Tryz.prog 151 #[.int .u64 a, .int .u64 b, .int .u64 x, .int .i64 n] w fun e w' => e = .returned (.int .i64 (buck a b x n)) ∧ Below w.heap.size w w' := by
  have hmf : ∀ (fn : Fn) (first cap : Array Value) (w : World), (Instr.makeFunc fn first cap).run Tryz.prog w = .ok (.func fn first cap) w := fun _ _ _ _ => rfl
  by_cases h : n < 1
  · have e : buck a b x n = -1 := if_pos h
    go_enter Tryz.func151, Tryz.ntmps151
    go_wp2_with (go_at_call 157; ((with_reducible refine (left_no _ _ _ x n _ h).mono ?_)); rintro e w' ⟨rfl, rfl⟩)
    go_ret
    exact ⟨ret_int e.symm, Below.refl _ _⟩
  · have e : buck a b x n = lin a b x % n := if_neg h
    go_enter Tryz.func151, Tryz.ntmps151
    go_wp2_with (go_at_call 157; ((with_reducible refine (left_yes a b x n _ (by omega) n1 a0 a1 b0 b1 x0 x1).mono ?_)); rintro e w' ⟨rfl, hb⟩; obtain ⟨bs, d, rfl⟩ := below_grow hb; clear hb)
    go_ret
    refine ⟨ret_int e.symm, ?_⟩
    repeat' (first | (with_reducible exact Below.refl _ _) | (with_reducible assumption) | (with_reducible refine below_over ?_ _ _) | (with_reducible refine Lw.below_alloc ?_ _) | (with_reducible refine Below.drew ?_) | (with_reducible refine below_drewN ?_ _) | (with_reducible refine Below.setCell ?_ ?_ _) | go_size)
end Go.Proofs.YtiblpdjehknbcaaGreat.Hsh
/- The walks of the document's own answers for layer 4, and what the laws of layer 4 say of plain numbers. Printed by wip/gen/hsh.py. -/
namespace Go.Proofs.YtiblpdjehknbcaaGreat.Hsh
open Go.RowKit Fld Lw
set_option linter.unusedVariables false
theorem rline_any (a b x : Int) (w : World) (a0 : 0 ≤ a) (a1 : a ≤ 18446744073709551615) (b0 : 0 ≤ b) (b1 : b ≤ 18446744073709551615) (x0 : 0 ≤ x) (x1 : x ≤ 18446744073709551615) :
    Calls Tryz.prog 90 #[.int .u64 a, .int .u64 b, .int .u64 x] w fun e w' => e = .returned (.int .u64 (lin a b x)) ∧ w = w' := by
  have m := mul_bd x a
  have e : add (mul x a) b = lin a b x := by unfold lin; rw [mul_comm x a]
  go_enter Tryz.func90, Tryz.ntmps90
  go_wp2_with (first
    | (go_at_call 98; ((with_reducible refine (rmul_any x a _ x0 x1 a0 a1).mono ?_)); rintro e w' ⟨rfl, rfl⟩)
    | (go_at_call 97; ((with_reducible refine (radd_any (mul x a) b _ m.1 (by omega) b0 b1).mono ?_)); rintro e w' ⟨rfl, rfl⟩))
  go_ret
  exact ⟨rfl, rfl⟩
theorem rbucket_any (a b x n : Int) (w : World) (a0 : 0 ≤ a) (a1 : a ≤ 18446744073709551615) (b0 : 0 ≤ b) (b1 : b ≤ 18446744073709551615) (x0 : 0 ≤ x) (x1 : x ≤ 18446744073709551615) (n0 : -9223372036854775808 ≤ n) (n1 : n ≤ 9223372036854775807) :
    Calls Tryz.prog 81 #[.int .u64 a, .int .u64 b, .int .u64 x, .int .i64 n] w fun e w' => e = .returned (.int .i64 (buck a b x n)) ∧ w = w' := by
  by_cases h : n < 1
  · have e : buck a b x n = -1 := if_pos h
    go_enter Tryz.func81, Tryz.ntmps81
    go_wp2
    go_ret
    exact ⟨ret_int e.symm, rfl⟩
  · have e : buck a b x n = lin a b x % n := if_neg h
    have l := lin_bd a b x
    have m0 := Int.emod_nonneg (lin a b x) (show n ≠ 0 by omega)
    have m1 := mod_le (lin a b x) n l.1 (by omega)
    have hn : IntKind.u64.wrap n = n := IntWalk.u64_in n ⟨by omega, by omega⟩
    have hn0 : ¬ n = 0 := by omega
    go_enter Tryz.func81, Tryz.ntmps81
    go_wp2_with (go_at_call 90; ((with_reducible refine (rline_any a b x _ a0 a1 b0 b1 x0 x1).mono ?_)); rintro e w' ⟨rfl, rfl⟩)
    go_ret
    exact ⟨ret_int e.symm, rfl⟩
/-! ### What is said of numbers -/
theorem zero_of (a t : Int) (ht : fold t ≠ 0) (h : mul a t = 0) : fold a = 0 := by
  have e := mul_back a t ht
  rw [h] at e
  rw [← e, mul_comm, mul_zero _ 0 rfl]
theorem apart_iff (x y : Int) : sub x y = 0 ↔ fold x = fold y := by unfold sub fold; omega
theorem fold_sub (x y : Int) : fold (sub x y) = sub x y := fold_of _ (sub_bd x y).1 (sub_bd x y).2
theorem slope (x u y v : Int) (h : sub x y ≠ 0) : mul (thrA x u y v) (sub x y) = sub u v := by
  unfold thrA
  rw [← mul_assoc, mul_comm (inv (sub x y)), inv_is _ (by rw [fold_sub]; exact h), mul_one, fold_sub]
theorem slope_iff (A x u y v : Int) : mul A (sub x y) = sub u v ↔ (A * x - A * y - (u - v)) % 2305843009213693951 = 0 := by
  unfold mul sub
  rw [mul_mod, Int.mul_sub]
  omega
theorem lin_eq (a b x : Int) : lin a b x = (a * x + b) % 2305843009213693951 := by unfold lin add mul; omega
theorem thrA_bd (x u y v : Int) : 0 ≤ thrA x u y v ∧ thrA x u y v ≤ 2305843009213693950 := mul_bd _ _
theorem thrB_bd (x u y v : Int) : 0 ≤ thrB x u y v ∧ thrB x u y v ≤ 2305843009213693950 := sub_bd _ _
theorem thrB_eq (x u y v : Int) (h : sub x y ≠ 0) : thrB x u y v = sub v (mul (thrA x u y v) y) := by
  have s := (slope_iff _ x u y v).1 (slope x u y v h)
  unfold thrB sub
  rw [lin_eq]
  unfold mul
  omega
theorem meets1 (x u y v : Int) (h : sub x y ≠ 0) : lin (thrA x u y v) (thrB x u y v) x = fold u := by
  rw [lin_eq]
  unfold thrB sub fold
  rw [lin_eq]
  omega
theorem meets2 (x u y v : Int) (h : sub x y ≠ 0) : lin (thrA x u y v) (thrB x u y v) y = fold v := by
  have s := (slope_iff _ x u y v).1 (slope x u y v h)
  rw [lin_eq]
  unfold thrB sub fold
  rw [lin_eq]
  omega
theorem only (x u y v c d : Int) (h : sub x y ≠ 0) : (lin c d x = fold u ∧ lin c d y = fold v) ↔ (fold c = thrA x u y v ∧ fold d = thrB x u y v) := by
  have s := (slope_iff _ x u y v).1 (slope x u y v h)
  have hb := thrA_bd x u y v
  constructor
  · rintro ⟨h1, h2⟩
    have e : (c * x - c * y - (u - v)) % 2305843009213693951 = 0 := by
      rw [lin_eq] at h1 h2
      unfold fold at h1 h2
      omega
    have z : fold (c - thrA x u y v) = 0 := by
      refine zero_of _ (sub x y) (by rw [fold_sub]; exact h) ?_
      unfold mul sub
      rw [mul_mod, Int.mul_sub, Int.sub_mul, Int.sub_mul]
      omega
    have hc : fold c = thrA x u y v := by unfold fold at z ⊢; omega
    have ex : c * x % 2305843009213693951 = thrA x u y v * x % 2305843009213693951 := by
      rw [← hc]
      unfold fold
      rw [mod_mul]
    refine ⟨hc, ?_⟩
    rw [lin_eq] at h1
    unfold thrB sub
    rw [lin_eq]
    unfold fold at h1 ⊢
    omega
  · rintro ⟨hc, hd⟩
    have ex : c * x % 2305843009213693951 = thrA x u y v * x % 2305843009213693951 := by
      rw [← hc]
      unfold fold
      rw [mod_mul]
    have ey : c * y % 2305843009213693951 = thrA x u y v * y % 2305843009213693951 := by
      rw [← hc]
      unfold fold
      rw [mod_mul]
    have m1 := meets1 x u y v h
    have m2 := meets2 x u y v h
    rw [← hd, lin_eq] at m1 m2
    rw [lin_eq, lin_eq]
    unfold fold at m1 m2 ⊢
    omega
theorem flat (a b x y : Int) (h : fold a = 0) : lin a b x = fold b ∧ lin a b y = fold b := by
  unfold lin
  rw [mul_comm a x, mul_comm a y, mul_zero x a h, mul_zero y a h]
  unfold add fold
  omega
theorem steep (a b x y : Int) (h : fold a ≠ 0) : lin a b x = lin a b y ↔ fold x = fold y := by
  constructor
  · intro e
    rw [← apart_iff, ← fold_sub]
    refine zero_of _ a h ?_
    rw [lin_eq, lin_eq] at e
    unfold mul sub
    rw [mod_mul, Int.sub_mul, Int.mul_comm x, Int.mul_comm y]
    omega
  · intro e
    unfold lin
    rw [← mul_fold a x, ← mul_fold a y, e]
theorem steps1 (a b x : Int) : lin a b (add x 1) = add (lin a b x) a := by
  rw [lin_eq, lin_eq]
  unfold add
  have e : a * ((x + 1) % 2305843009213693951) % 2305843009213693951 = (a * x + a) % 2305843009213693951 := by rw [mul_mod, Int.mul_add, Int.mul_one]
  omega
theorem steps2 (a b : Int) : lin a b 0 = fold b := by rw [lin_eq, Int.mul_zero, Int.zero_add]; rfl
theorem steps3 (a b x : Int) : sub (lin a b x) b = mul a x := by rw [lin_eq]; unfold sub mul; omega
theorem buck_in (a b x n : Int) (h : 1 ≤ n) : 0 ≤ buck a b x n ∧ buck a b x n < n := by
  unfold buck
  rw [if_neg (by omega)]
  exact ⟨Int.emod_nonneg _ (by omega), Int.emod_lt_of_pos _ (by omega)⟩
end Go.Proofs.YtiblpdjehknbcaaGreat.Hsh
/- The walks of the document's own answers for layer 6: a grid of rows, each with memory of its own. -/
namespace Go.Proofs.YtiblpdjehknbcaaGreat.Grd
open Go Go.RowKit Lw
set_option linter.unusedVariables false
theorem i64_info : (Tryz.prog.info? 2).map (fun i => (i.zero, i.size, i.bytes)) = some (some (.int .i64 0), 1, 8) := by kernel_rfl
theorem i64s_u : Tryz.prog.underlying 48 = some (.slice 2) := by kernel_rfl
theorem ret_i {k : IntKind} {a b : Int} (h : a = b) : Ending.returned (.int k a) = .returned (.int k b) := by rw [h]
theorem ret_b {a b : Bool} (h : a = b) : Ending.returned (.bool a) = .returned (.bool b) := by rw [h]
/-- A row: its block, how much it may hold, its numbers. -/
abbrev Row := Nat × Nat × List Int
def rowHd (r : Row) : Value := .slice (some ⟨r.1, 0, none⟩) r.2.2.length r.2.1
structure RG (w : World) (b : Nat) (hdr : Value) (R : List Row) : Prop where
  cell : w.heap[b]? = some (.cells #[hdr] 109 (0, 0))
  outer : w.ownsRow 0 48 1 hdr R.length (R.map rowHd)
  rows : ∀ r ∈ R, w.ownsRow 0 2 1 (rowHd r) r.2.2.length (r.2.2.map (Value.int .i64))
  apart1 : hdr.ownBlock ≠ some b
  apart2 : ∀ r ∈ R, r.1 ≠ b ∧ hdr.ownBlock ≠ some r.1
  nd : (R.map (·.1)).Nodup
def RF (b : Nat) (hdr : Value) (R : List Row) (k : Nat) : Prop := k = b ∨ hdr.ownBlock = some k ∨ ∃ r ∈ R, r.1 = k
theorem RG.keep {F : Nat → Prop} {w w' : World} {b : Nat} {hdr : Value} {R : List Row} (h : RG w b hdr R) (k : Kept F w w') (hf : ∀ q, RF b hdr R q → ¬ F q) : RG w' b hdr R where
  cell := k.heap h.cell (hf b (.inl rfl))
  outer := k.own h.outer (fun q hq => hf q (.inr (.inl hq)))
  rows := fun r hr => k.own (h.rows r hr) (fun q hq => hf q (.inr (.inr ⟨r, hr, by simpa [rowHd, Value.ownBlock] using hq⟩)))
  apart1 := h.apart1
  apart2 := h.apart2
  nd := h.nd
/-- The number of a cell; 0 where there is none. -/
def at2 (L : List (List Int)) (row col : Int) : Int := if row < 0 ∨ col < 0 then 0 else ((L[row.toNat]?.getD [])[col.toNat]?).getD 0
def in2 (L : List (List Int)) (row col : Int) : Bool := decide (0 ≤ row ∧ row < L.length ∧ 0 ≤ col ∧ col < (L[row.toNat]?.getD []).length)
def nums (R : List Row) : List (List Int) := R.map (fun r => r.2.2)
theorem at2_out {L : List (List Int)} {row col : Int} (h : row < 0 ∨ (L.length : Int) ≤ row ∨ col < 0 ∨ ((L[row.toNat]?.getD []).length : Int) ≤ col) : at2 L row col = 0 := by
  unfold at2
  split
  · rfl
  · rename_i h2
    have h3 : L.length ≤ row.toNat ∨ (L[row.toNat]?.getD []).length ≤ col.toNat := by omega
    rcases h3 with h3 | h3
    · rw [List.getElem?_eq_none h3]; rfl
    · rw [List.getElem?_eq_none h3]; rfl
theorem RG.hd {w : World} {b : Nat} {hdr : Value} {R : List Row} (h : RG w b hdr R) : ∃ A cap, hdr = .slice A R.length cap ∧ R.length ≤ cap ∧ (A = none → R.length = 0) ∧ ∀ j r, R[j]? = some r → ∃ ad, A = some ad ∧ w.cell? (ad.add j) = some (rowHd r) := by
  rcases h.outer.2 with ⟨h1, h2⟩ | ⟨g, cap, cur, h1, h2, h3, h4, h5, h6, h7⟩
  · refine ⟨none, 0, by rw [h1, h2], by omega, fun _ => h2, fun j r hj => ?_⟩
    have := (List.getElem?_eq_some_iff.1 hj).1
    omega
  · refine ⟨some ⟨g, 0, none⟩, cap, h1, h4, (fun h => by cases h), fun j r hj => ⟨_, rfl, ?_⟩⟩
    exact h.outer.cells (g := g) (by rw [h1]; rfl) j _ (by rw [List.getElem?_map, hj]; rfl)
theorem RG.numAt {w : World} {b : Nat} {hdr : Value} {R : List Row} (h : RG w b hdr R) {r : Row} (hr : r ∈ R) {j : Nat} {v : Int} (hv : r.2.2[j]? = some v) : w.cell? ((⟨r.1, 0, none⟩ : Addr).add j) = some (.int .i64 v) :=
  (h.rows r hr).cells (g := r.1) rfl j _ (by rw [List.getElem?_map, hv]; rfl)
/-- The rows with one number set. -/
def set2 (R : List Row) (K C : Nat) (n : Int) : List Row := R.modify K (fun r => (r.1, r.2.1, r.2.2.set C n))
def put2 (R : List Row) (row col n : Int) : List Row := if in2 (nums R) row col = true then set2 R row.toNat col.toNat n else R
theorem in2_no {L : List (List Int)} {row col : Int} (h : row < 0 ∨ (L.length : Int) ≤ row ∨ col < 0 ∨ ((L[row.toNat]?.getD []).length : Int) ≤ col) : in2 L row col = false := by
  unfold in2
  exact decide_eq_false (by omega)
theorem set2_len (R : List Row) (K C : Nat) (n : Int) : (set2 R K C n).length = R.length := by simp [set2]
theorem set2_get (R : List Row) (K C : Nat) (n : Int) (i : Nat) : (set2 R K C n)[i]? = if K = i then (R[i]?).map (fun r => (r.1, r.2.1, r.2.2.set C n)) else R[i]? := by
  unfold set2
  rw [List.getElem?_modify]
  by_cases h : K = i <;> simp [h]
theorem set2_hd (R : List Row) (K C : Nat) (n : Int) : (set2 R K C n).map rowHd = R.map rowHd := by
  apply List.ext_getElem?
  intro i
  rw [List.getElem?_map, List.getElem?_map, set2_get]
  split
  · cases R[i]? <;> simp [rowHd]
  · rfl
theorem set2_bl (R : List Row) (K C : Nat) (n : Int) : (set2 R K C n).map (·.1) = R.map (·.1) := by
  apply List.ext_getElem?
  intro i
  rw [List.getElem?_map, List.getElem?_map, set2_get]
  split
  · cases R[i]? <;> simp
  · rfl
theorem set2_mem {R : List Row} {K C : Nat} {n : Int} {r : Row} (h : r ∈ set2 R K C n) : ∃ (i : Nat) (q : Row), R[i]? = some q ∧ r.1 = q.1 ∧ r.2.1 = q.2.1 ∧ ((K = i ∧ r.2.2 = q.2.2.set C n) ∨ (K ≠ i ∧ r.2.2 = q.2.2)) := by
  obtain ⟨i, hi, e⟩ := List.mem_iff_getElem.1 h
  have e2 : (set2 R K C n)[i]? = some r := by rw [List.getElem?_eq_getElem hi, e]
  rw [set2_get] at e2
  split at e2
  · rename_i hk
    obtain ⟨q, hq, rfl⟩ := Option.map_eq_some_iff.1 e2
    exact ⟨i, q, hq, rfl, rfl, .inl ⟨hk, rfl⟩⟩
  · rename_i hk
    exact ⟨i, r, e2, rfl, rfl, .inr ⟨hk, rfl⟩⟩
theorem RG.put {w : World} {b : Nat} {hdr : Value} {R : List Row} (h : RG w b hdr R) {K : Nat} {r : Row} (hr : R[K]? = some r) (C : Nat) (n : Int) : RG (w.setCell ⟨r.1, C, none⟩ (.int .i64 n)) b hdr (set2 R K C n) := by
  have hrm := List.mem_of_getElem? hr
  have hst := (h.rows r hrm).stored (g := r.1) (cap := r.2.1) C (.int .i64 n)
  have hk : Kept (fun q => q = r.1) w (w.setCell ⟨r.1, C, none⟩ (.int .i64 n)) := Kept.set (F := fun q => q = r.1) (Kept.refl _ w) (.inl rfl) C _
  have hnd := h.nd
  have uniq : ∀ (i : Nat) (q : Row), R[i]? = some q → q.1 = r.1 → i = K := by
    intro i q hq e
    have h1 := (List.getElem?_eq_some_iff.1 hq).1
    have h2 := (List.getElem?_eq_some_iff.1 hr).1
    have g1 := (List.getElem?_eq_some_iff.1 hq).2
    have g2 := (List.getElem?_eq_some_iff.1 hr).2
    refine Decidable.by_contra fun hne => ?_
    rcases Nat.lt_or_gt_of_ne hne with h3 | h3
    · exact List.pairwise_iff_getElem.1 hnd i K (by simpa using h1) (by simpa using h2) h3 (by simp [g1, g2, e])
    · exact List.pairwise_iff_getElem.1 hnd K i (by simpa using h2) (by simpa using h1) h3 (by simp [g1, g2, e])
  refine ⟨hk.heap h.cell (fun e => (h.apart2 r hrm).1 e.symm), ?_, ?_, h.apart1, ?_, by rw [set2_bl]; exact hnd⟩
  · rw [set2_len, set2_hd]
    exact hk.own h.outer (fun q hq e => (h.apart2 r hrm).2 (by rw [hq, e]))
  · intro x hx
    obtain ⟨i, q, hq, e1, e2, h3⟩ := set2_mem hx
    have hqm := List.mem_of_getElem? hq
    obtain ⟨x1, x2, x3⟩ := x
    obtain ⟨q1, q2, q3⟩ := q
    simp only at e1 e2 h3
    subst e1 e2
    rcases h3 with ⟨hk2, h3⟩ | ⟨hk2, h3⟩
    · subst h3
      subst hk2
      rw [hr] at hq
      injection hq with hq
      subst hq
      have h4 := hst.1
      rw [← List.map_set] at h4
      simpa [rowHd] using h4
    · subst h3
      exact hk.own (h.rows _ hqm) (fun p hp e => hk2 (uniq i _ hq (by simp [rowHd, Value.ownBlock] at hp; rw [hp, e])).symm)
  · intro x hx
    obtain ⟨i, q, hq, e1, e2, h3⟩ := set2_mem hx
    rw [e1]
    exact h.apart2 q (List.mem_of_getElem? hq)
theorem RF_put {b : Nat} {hdr : Value} {R : List Row} {row col n : Int} (k : Nat) : RF b hdr (put2 R row col n) k ↔ RF b hdr R k := by
  unfold RF put2
  split
  · have e : ∀ S : List Row, (∃ r ∈ S, r.1 = k) ↔ k ∈ S.map (·.1) := fun S => by simp
    rw [e, e, set2_bl]
  · exact Iff.rfl
theorem put2_no {R : List Row} {row col n : Int} (h : in2 (nums R) row col = false) : put2 R row col n = R := by unfold put2; rw [h]; rfl
theorem RG.blt {w : World} {b : Nat} {hdr : Value} {R : List Row} (h : RG w b hdr R) {k : Nat} (hk : RF b hdr R k) : k < w.heap.size := by
  rcases hk with rfl | hk | ⟨r, hr, rfl⟩
  · rcases Nat.lt_or_ge k w.heap.size with h1 | h1
    · exact h1
    · have := h.cell; rw [Array.getElem?_eq_none h1] at this; cases this
  · exact own_lt h.outer hk
  · exact own_lt (h.rows r hr) rfl
theorem RG.push {w w4 : World} {b : Nat} {hdr hdr' : Value} {R : List Row} {g c : Nat} {zs : List Int} (h : RG w b hdr R) (hk : Kept (fun q => q = b ∨ hdr.ownBlock = some q) w w4)
    (hc : w4.heap[b]? = some (.cells #[hdr'] 109 (0, 0))) (ho : w4.ownsRow 0 48 1 hdr' (R.length + 1) (R.map rowHd ++ [rowHd (g, c, zs)]))
    (hr : w4.ownsRow 0 2 1 (rowHd (g, c, zs)) zs.length (zs.map (Value.int .i64))) (hg : w.heap.size ≤ g)
    (hh : hdr'.ownBlock = hdr.ownBlock ∨ ∃ q, hdr'.ownBlock = some q ∧ w.heap.size ≤ q ∧ q ≠ g) : RG w4 b hdr' (R ++ [(g, c, zs)]) := by
  have hb := h.blt (.inl rfl)
  have hold : ∀ q, hdr.ownBlock = some q → q < w.heap.size := fun q hq => h.blt (.inr (.inl hq))
  have hrow : ∀ r ∈ R, r.1 < w.heap.size := fun r hr => h.blt (.inr (.inr ⟨r, hr, rfl⟩))
  refine ⟨hc, by simpa using ho, ?_, ?_, ?_, ?_⟩
  · intro r hrm
    rcases List.mem_append.1 hrm with h1 | h1
    · exact hk.own (h.rows r h1) (fun q hq e => by
        simp [rowHd, Value.ownBlock] at hq
        rcases e with e | e
        · exact (h.apart2 r h1).1 (by rw [hq, e])
        · exact (h.apart2 r h1).2 (by rw [hq, e]))
    · simp at h1
      subst h1
      exact hr
  · rcases hh with h1 | ⟨q, h1, h2, h3⟩
    · rw [h1]; exact h.apart1
    · rw [h1]; intro e; injection e with e; omega
  · intro r hrm
    rcases List.mem_append.1 hrm with h1 | h1
    · refine ⟨(h.apart2 r h1).1, ?_⟩
      rcases hh with h2 | ⟨q, h2, h3, h4⟩
      · rw [h2]; exact (h.apart2 r h1).2
      · rw [h2]; intro e; injection e with e; have := hrow r h1; omega
    · simp at h1
      subst h1
      refine ⟨by simp only; omega, ?_⟩
      rcases hh with h2 | ⟨q, h2, h3, h4⟩
      · rw [h2]; intro e; have := hold _ e; simp only at this; omega
      · rw [h2]; intro e; injection e with e; exact h4 e
  · rw [List.map_append, List.nodup_append]
    refine ⟨h.nd, by simp, ?_⟩
    intro x hx y hy e
    simp at hy
    subst hy
    subst e
    obtain ⟨r, hr, e⟩ := List.mem_map.1 hx
    have := hrow r hr
    omega
def cl (n : Int) (m : Nat) : Nat := min n.toNat m
theorem rows_info : (Tryz.prog.info? 48).map (fun i => (i.zero, i.size, i.bytes)) = some (some (.slice none 0 0), 1, 24) := by kernel_rfl
theorem rows_u : Tryz.prog.underlying 107 = some (.slice 48) := by kernel_rfl
end Go.Proofs.YtiblpdjehknbcaaGreat.Grd
/- Grids as lists of rows: what Put, Plus, Minus make of them; a row of numbers as a thing. -/
namespace Go.Proofs.YtiblpdjehknbcaaGreat.Grd
open Go Go.RowKit Lw
set_option linter.unusedVariables false
structure Dims (m n : Nat) (L : List (List Int)) : Prop where
  len : L.length = m
  m8 : m ≤ 8
  n128 : n ≤ 128
  rows : ∀ r ∈ L, r.length = n ∧ In64 r
def setL (L : List (List Int)) (row col x : Int) : List (List Int) := if in2 L row col = true then L.modify row.toNat (fun r => r.set col.toNat x) else L
def zerosL (m n : Nat) : List (List Int) := List.replicate m (List.replicate n 0)
def rowS (s : Int) (xs ys : List Int) : List Int := List.zipWith (fun x y => x + s * y) xs ys
def gridS (s : Int) (L M : List (List Int)) : List (List Int) := List.zipWith (rowS s) L M
def fitsAll (J : List (List Int)) : Bool := J.all (fun r => r.all Wid.fit64)
theorem in2_dims {m n : Nat} {L : List (List Int)} (h : Dims m n L) (row col : Int) : in2 L row col = decide (0 ≤ row ∧ row < m ∧ 0 ≤ col ∧ col < n) := by
  unfold in2
  rw [h.len]
  by_cases h1 : 0 ≤ row ∧ row < m
  · have h2 : row.toNat < L.length := by rw [h.len]; omega
    have e : (L[row.toNat]?.getD []).length = n := by
      rw [List.getElem?_eq_getElem h2]
      exact (h.rows _ (List.getElem_mem h2)).1
    rw [e]
  · have g1 : ¬ (0 ≤ row ∧ row < (m : Int) ∧ 0 ≤ col ∧ col < ((L[row.toNat]?.getD []).length : Int)) := fun h => h1 ⟨h.1, h.2.1⟩
    have g2 : ¬ (0 ≤ row ∧ row < (m : Int) ∧ 0 ≤ col ∧ col < (n : Int)) := fun h => h1 ⟨h.1, h.2.1⟩
    rw [decide_eq_false g1, decide_eq_false g2]
theorem in64_set {r : List Int} (h : In64 r) (j : Nat) {x : Int} (h0 : -9223372036854775808 ≤ x) (h1 : x ≤ 9223372036854775807) : In64 (r.set j x) := by
  intro v hv
  rcases List.mem_or_eq_of_mem_set hv with h2 | h2
  · exact h v h2
  · subst h2; exact ⟨h0, h1⟩
theorem Dims.set {m n : Nat} {L : List (List Int)} (h : Dims m n L) (row col : Int) {x : Int} (h0 : -9223372036854775808 ≤ x) (h1 : x ≤ 9223372036854775807) : Dims m n (setL L row col x) := by
  unfold setL
  split
  · refine ⟨by rw [List.length_modify]; exact h.len, h.m8, h.n128, fun r hr => ?_⟩
    obtain ⟨i, hi, e⟩ := List.mem_iff_getElem.1 hr
    rw [List.getElem_modify] at e
    rw [List.length_modify] at hi
    have h2 := h.rows _ (List.getElem_mem hi)
    split at e
    · subst e; exact ⟨by rw [List.length_set]; exact h2.1, in64_set h2.2 _ h0 h1⟩
    · subst e; exact h2
  · exact h
theorem dims_zeros {m n : Nat} (h : m ≤ 8) (g : n ≤ 128) : Dims m n (zerosL m n) := by
  refine ⟨by simp [zerosL], h, g, fun r hr => ?_⟩
  have := (List.mem_replicate.1 hr).2
  subst this
  exact ⟨by simp, fun v hv => by have := (List.mem_replicate.1 hv).2; subst this; exact ⟨by omega, by omega⟩⟩
theorem nums_put2 (R : List Row) (row col x : Int) : nums (put2 R row col x) = setL (nums R) row col x := by
  unfold put2 setL
  split
  · unfold nums set2
    apply List.ext_getElem?
    intro i
    rw [List.getElem?_map, List.getElem?_modify, List.getElem?_modify, List.getElem?_map]
    cases R[i]? <;> simp
    split <;> simp
  · rfl
/-- A row of numbers, its memory its own. -/
def Row1 (w : World) (A : Option Addr) (Z : List Int) : Prop := (A = none → Z = []) ∧ ∀ a, A = some a → ∃ g i, a = ⟨g, i, none⟩ ∧ Ord.Mid w g i Z
def rowT (A : Option Addr) (Z : List Int) : Thing where
  I := fun w => Row1 w A Z
  F := fun k => ∃ a, A = some a ∧ a.block = k
  keep := fun w w' H h hk hf => ⟨h.1, fun a ha => by
    obtain ⟨g, i, rfl, hm⟩ := h.2 a ha
    exact ⟨g, i, rfl, hm.keep hk (hf g ⟨_, ha, rfl⟩)⟩⟩
  lt := fun w h k hk => by
    obtain ⟨a, ha, rfl⟩ := hk
    obtain ⟨g, i, rfl, hm⟩ := h.2 a ha
    exact hm.lt
theorem Row1.rd {w : World} {A : Option Addr} {Z : List Int} (h : Row1 w A Z) : Rd .i64 w A Z := by
  intro j v hv
  cases A with
  | none => rw [h.1 rfl] at hv; simp at hv
  | some a =>
    obtain ⟨g, i, rfl, hm⟩ := h.2 a rfl
    exact hm.rd j v hv
theorem mem_zip {α β γ : Type} {f : α → β → γ} : ∀ {xs : List α} {ys : List β} {z : γ}, z ∈ List.zipWith f xs ys → ∃ x ∈ xs, ∃ y ∈ ys, z = f x y
  | [], _, _, h => by simp at h
  | _ :: _, [], _, h => by simp at h
  | x :: xs, y :: ys, z, h => by
    rw [List.zipWith_cons_cons] at h
    rcases List.mem_cons.1 h with h | h
    · exact ⟨x, by simp, y, by simp, h⟩
    · obtain ⟨a, ha, b, hb, e⟩ := mem_zip h
      exact ⟨a, by simp [ha], b, by simp [hb], e⟩
theorem fit64_in {x : Int} (h : Wid.fit64 x = true) : -9223372036854775808 ≤ x ∧ x ≤ 9223372036854775807 := by
  have h2 : -9223372036854775808 ≤ x ∧ x < 9223372036854775808 := by simpa [Wid.fit64] using h
  omega
theorem Dims.join {m n : Nat} {L M : List (List Int)} (h : Dims m n L) (g : Dims m n M) {s : Int} (hf : fitsAll (gridS s L M) = true) : Dims m n (gridS s L M) := by
  refine ⟨by unfold gridS; rw [List.length_zipWith, h.len, g.len]; omega, h.m8, h.n128, fun r hr => ?_⟩
  have h2 : In64 r := fun v hv => fit64_in (List.all_eq_true.1 (List.all_eq_true.1 hf r hr) v hv)
  obtain ⟨a, ha, b, hb, rfl⟩ := mem_zip hr
  exact ⟨by unfold rowS; rw [List.length_zipWith, (h.rows a ha).1, (g.rows b hb).1]; omega, h2⟩
/-- What Plus (s = 1) and Minus (s = -1) answer, and make. -/
def jcode (s : Int) (m n m' n' : Nat) (L M : List (List Int)) : Int := if m = m' ∧ n = n' then (if fitsAll (gridS s L M) = true then 0 else 4) else 5
def jres (s : Int) (m n m' n' : Nat) (L M : List (List Int)) : List (List Int) := if m = m' ∧ n = n' ∧ fitsAll (gridS s L M) = true then gridS s L M else L
/-- The first k of the cells qs are set. -/
def puts (L : List (List Int)) (qs : List (Int × Int × Int)) : List (List Int) := qs.foldl (fun L q => setL L q.1 q.2.1 q.2.2) L
theorem puts_next (L : List (List Int)) (qs : List (Int × Int × Int)) (k : Nat) (q : Int × Int × Int) (h : qs[k]? = some q) : puts L (qs.take (k + 1)) = setL (puts L (qs.take k)) q.1 q.2.1 q.2.2 := by
  have e := List.getElem?_eq_some_iff.1 h
  obtain ⟨h1, h2⟩ := e
  unfold puts
  rw [List.take_succ_eq_append_getElem h1, List.foldl_append, h2]
  rfl
theorem puts_dims {m n : Nat} {L : List (List Int)} (h : Dims m n L) : ∀ (qs : List (Int × Int × Int)), (∀ q ∈ qs, -9223372036854775808 ≤ q.2.2 ∧ q.2.2 ≤ 9223372036854775807) → Dims m n (puts L qs) := by
  intro qs
  induction qs generalizing L with
  | nil => intro _; exact h
  | cons q qs ih => intro hq; exact ih (h.set _ _ (hq q (by simp)).1 (hq q (by simp)).2) (fun r hr => hq r (by simp [hr]))
theorem flat_dims {m n : Nat} {L : List (List Int)} (h : Dims m n L) : L.flatten.length = m * n := by
  have key : ∀ (L : List (List Int)), (∀ r ∈ L, r.length = n) → L.flatten.length = L.length * n := by
    intro L
    induction L with
    | nil => intro _; simp
    | cons r L ih =>
      intro hr
      rw [List.flatten_cons, List.length_append, ih (fun q hq => hr q (by simp [hq])), hr r (by simp), List.length_cons, Nat.succ_mul, Nat.add_comm]
  rw [key L (fun r hr => (h.rows r hr).1), h.len]
theorem row_back : ∀ {xs ys : List Int}, xs.length = ys.length → rowS (-1) (rowS 1 xs ys) ys = xs
  | [], [], _ => rfl
  | [], _ :: _, h => by simp at h
  | _ :: _, [], h => by simp at h
  | x :: xs, y :: ys, h => by
    have ih := row_back (xs := xs) (ys := ys) (by simpa using h)
    unfold rowS at ih ⊢
    simp only [List.zipWith_cons_cons, ih]
    congr 1; omega
theorem row_self : ∀ (xs : List Int), rowS (-1) xs xs = List.replicate xs.length 0
  | [] => rfl
  | x :: xs => by
    have ih := row_self xs
    unfold rowS at ih ⊢
    simp only [List.zipWith_cons_cons, List.length_cons, List.replicate_succ, ih]
    congr 1; omega
theorem grid_back {m n : Nat} : ∀ {L M : List (List Int)}, (∀ r ∈ L, r.length = n) → (∀ r ∈ M, r.length = n) → L.length = M.length → gridS (-1) (gridS 1 L M) M = L
  | [], [], _, _, _ => rfl
  | [], _ :: _, _, _, h => by simp at h
  | _ :: _, [], _, _, h => by simp at h
  | x :: xs, y :: ys, h1, h2, h => by
    have ih := grid_back (m := m) (L := xs) (M := ys) (fun r hr => h1 r (by simp [hr])) (fun r hr => h2 r (by simp [hr])) (by simpa using h)
    unfold gridS at ih ⊢
    simp only [List.zipWith_cons_cons, ih]
    rw [row_back (by rw [h1 x (by simp), h2 y (by simp)])]
theorem grid_self {n : Nat} : ∀ {L : List (List Int)}, (∀ r ∈ L, r.length = n) → gridS (-1) L L = zerosL L.length n
  | [], _ => rfl
  | x :: xs, h => by
    have ih := grid_self (L := xs) (fun r hr => h r (by simp [hr]))
    unfold gridS zerosL at ih ⊢
    simp only [List.zipWith_cons_cons, List.length_cons, List.replicate_succ, ih]
    rw [row_self, h x (by simp)]
theorem fits_dims {m n : Nat} {L : List (List Int)} (h : Dims m n L) : fitsAll L = true := by
  refine List.all_eq_true.2 fun r hr => List.all_eq_true.2 fun v hv => ?_
  have := (h.rows r hr).2 v hv
  simp [Wid.fit64]
  omega
theorem back_dims {m n : Nat} {L M : List (List Int)} (h : Dims m n L) (g : Dims m n M) : gridS (-1) (gridS 1 L M) M = L :=
  grid_back (m := m) (fun r hr => (h.rows r hr).1) (fun r hr => (g.rows r hr).1) (by rw [h.len, g.len])
theorem self_dims {m n : Nat} {L : List (List Int)} (h : Dims m n L) : gridS (-1) L L = zerosL m n := by
  have := grid_self (n := n) (L := L) (fun r hr => (h.rows r hr).1)
  rwa [h.len] at this
theorem jcode_yes {s : Int} {m n : Nat} {L M : List (List Int)} (h : fitsAll (gridS s L M) = true) : jcode s m n m n L M = 0 ∧ jres s m n m n L M = gridS s L M := by
  simp [jcode, jres, h]
theorem jcode_no {s : Int} {m n : Nat} {L M : List (List Int)} (h : fitsAll (gridS s L M) = false) : jcode s m n m n L M = 4 ∧ jres s m n m n L M = L := by
  simp [jcode, jres, h]
theorem row1_at {w : World} {A : Option Addr} {Z : List Int} (h : Row1 w A Z) {k : Nat} {v : Int} (hv : Z[k]? = some v) (x : Int) :
    ∃ (a : Addr), A = some a ∧ w.cell? (a.add k) = some (.int .i64 v) ∧ w.frozen? (a.add k) = false ∧ Row1 (w.setCell (a.add k) (.int .i64 x)) A (Z.set k x) ∧ Kept (rowT A Z).F w (w.setCell (a.add k) (.int .i64 x)) := by
  cases A with
  | none => rw [h.1 rfl] at hv; simp at hv
  | some a =>
    obtain ⟨g, i, rfl, hm⟩ := h.2 a rfl
    refine ⟨⟨g, i, none⟩, rfl, ?_, ?_, ⟨(fun h => by cases h), fun a ha => ?_⟩, ?_⟩
    · rw [Ord.add_at]; exact hm.cell hv
    · rw [Ord.add_at]; exact hm.frozen _
    · injection ha with ha
      subst ha
      refine ⟨g, i, rfl, ?_⟩
      rw [Ord.add_at]
      exact hm.set k x
    · rw [Ord.add_at]
      exact (Kept.refl _ w).set (.inl ⟨_, rfl, rfl⟩) _ _
theorem at_apart {m n : Nat} {L : List (List Int)} (h : Dims m n L) (row col x : Int) (hne : ¬ (row = 0 ∧ col = 0)) : at2 (setL L row col x) 0 0 = at2 L 0 0 := by
  unfold setL
  split
  · rename_i hi
    rw [in2_dims h] at hi
    have hi := of_decide_eq_true hi
    unfold at2
    rw [if_neg (by omega), if_neg (by omega), List.getElem?_modify]
    cases hL : L[(0 : Int).toNat]? with
    | none => rfl
    | some r =>
      by_cases hr : row.toNat = 0
      · have hc : col.toNat ≠ 0 := by omega
        simp [hr, hc]
      · have hr2 : ¬ row.toNat = (0 : Int).toNat := hr
        simp only [Option.map_eq_map, Option.map_some, if_neg hr2]
  · rfl
/-- Small enough to be doubled. -/
def in62 (v : Int) : Bool := decide (-4611686018427387904 ≤ v ∧ v < 4611686018427387904)
theorem row_twice (xs : List Int) : rowS 1 xs xs = xs.map (2 * ·) := by
  induction xs with
  | nil => rfl
  | cons x xs ih =>
    unfold rowS at ih ⊢
    simp only [List.zipWith_cons_cons, List.map_cons, ih]
    congr 1; omega
theorem grid_twice (L : List (List Int)) : gridS 1 L L = L.map (fun r => r.map (2 * ·)) := by
  induction L with
  | nil => rfl
  | cons x xs ih =>
    unfold gridS at ih ⊢
    simp only [List.zipWith_cons_cons, List.map_cons, ih, row_twice]
theorem twice_flat (L : List (List Int)) : (gridS 1 L L).flatten = L.flatten.map (2 * ·) := by
  rw [grid_twice, List.map_flatten]
theorem twice_fits (L : List (List Int)) : fitsAll (gridS 1 L L) = L.flatten.all in62 := by
  rw [grid_twice]
  unfold fitsAll
  rw [List.all_map, List.all_flatten]
  congr 1
  funext r
  simp only [Function.comp_apply, List.all_map]
  congr 1
  funext v
  simp only [Function.comp_apply, Wid.fit64, in62]
  congr 1
  apply propext
  constructor <;> intro h <;> omega
theorem zeros_flat {m n : Nat} : ∀ v ∈ (zerosL m n).flatten, v = 0 := by
  intro v hv
  obtain ⟨r, hr, hv⟩ := List.mem_flatten.1 hv
  have := (List.mem_replicate.1 hr).2
  subst this
  exact (List.mem_replicate.1 hv).2
end Go.Proofs.YtiblpdjehknbcaaGreat.Grd
/- The walks of the document's own answers for layer 6: New, Cells, Same. Printed by wip/gen/grd.py. -/
namespace Go.Proofs.YtiblpdjehknbcaaGreat.Grd
open Go Go.RowKit Lw
set_option linter.unusedVariables false
theorem rep_next (j : Nat) : List.replicate (j + 1) (0 : Int) = List.replicate j 0 ++ [0] := by rw [List.replicate_succ']
theorem cl_lt {n : Int} {m k : Nat} (h : k < cl n m) : (k : Int) < n ∧ (k : Int) < m := by unfold cl at h; omega
theorem cl_ge {n : Int} {m k : Nat} (h : ¬ k < cl n m) : ¬ (k : Int) < n ∨ ((k : Int) < n ∧ ¬ (k : Int) < m) := by unfold cl at h; omega
/-- A new grid: all is 0, and all of it is new memory. -/
def Fresh (w : World) (b : Nat) (hdr : Value) (R : List Row) : Prop := ∀ q, RF b hdr R q → w.heap.size ≤ q
def Zeros (m n : Nat) (R : List Row) : Prop := nums R = List.replicate m (List.replicate n 0)
theorem zeros_push {m n : Nat} {R : List Row} (h : Zeros m n R) (g c : Nat) : Zeros (m + 1) n (R ++ [(g, c, List.replicate n 0)]) := by
  unfold Zeros nums at *
  rw [List.map_append, h, List.replicate_succ']
  rfl
theorem new_round {w wo wr w3 : World} {hdr : Value} {R : List Row} {k j g cp g3 cap3 : Nat} (HG : RG wo w.heap.size hdr R) (hbi : Below wo.heap.size wo wr)
    (ho : wr.ownsRow wo.heap.size 2 1 (.slice (some ⟨g, 0, none⟩) j cp) j ((List.replicate j 0).map (Value.int .i64))) (hg : wo.heap.size ≤ g)
    (own3 : w3.ownsRow 0 48 1 (.slice (some ⟨g3, 0, none⟩) (R.length + 1) cap3) (R.length + 1) (R.map rowHd ++ [.slice (some ⟨g, 0, none⟩) j cp]))
    (grow3 : (wr.alloc (.cells #[.slice (some ⟨g, 0, none⟩) j cp] 48)).grownBy w3 hdr.ownBlock) (hat3 : hdr.ownBlock = some g3 ∨ g3 = (wr.alloc (.cells #[.slice (some ⟨g, 0, none⟩) j cp] 48)).heap.size)
    (hB3 : w3.heap[w.heap.size]? = some (.cells #[hdr] 109 (0, 0))) (HZ : Zeros k j R) (HF : Fresh w w.heap.size hdr R) (HB : Below w.heap.size w wo) (hk : R.length = k) :
    RG (w3.setCell ⟨w.heap.size, 0, none⟩ (.slice (some ⟨g3, 0, none⟩) (k + 1) cap3)) w.heap.size (.slice (some ⟨g3, 0, none⟩) (k + 1) cap3) (R ++ [(g, cp, List.replicate j 0)]) ∧
      Zeros (k + 1) j (R ++ [(g, cp, List.replicate j 0)]) ∧ Fresh w w.heap.size (.slice (some ⟨g3, 0, none⟩) (k + 1) cap3) (R ++ [(g, cp, List.replicate j 0)]) ∧ Below w.heap.size w (w3.setCell ⟨w.heap.size, 0, none⟩ (.slice (some ⟨g3, 0, none⟩) (k + 1) cap3)) := by
  subst hk
  have hbl := HG.blt (.inl rfl)
  have hol : ∀ q, hdr.ownBlock = some q → q < wo.heap.size := fun q hq => HG.blt (.inr (.inl hq))
  have hgl := own_lt ho (g := g) rfl
  have hbs := hbi.size
  have hsz : (wr.alloc (.cells #[.slice (some ⟨g, 0, none⟩) j cp] 48)).heap.size = wr.heap.size + 1 := by simp
  have K3 : Kept (fun q => q = w.heap.size ∨ hdr.ownBlock = some q) wo w3 := ((Kept.of_below hbi).alloc _).grown grow3 (fun q hq => .inl (.inr hq))
  have K4 : Kept (fun q => q = w.heap.size ∨ hdr.ownBlock = some q) wo (w3.setCell ⟨w.heap.size, 0, none⟩ (.slice (some ⟨g3, 0, none⟩) (R.length + 1) cap3)) := K3.set (.inl (.inl rfl)) 0 _
  have g3b : g3 ≠ w.heap.size := by
    rcases hat3 with h1 | h1
    · intro e; exact HG.apart1 (by rw [h1, e])
    · omega
  refine ⟨HG.push (c := cp) K4 ?_ ?_ ?_ hg ?_, zeros_push HZ g cp, ?_, K4.low HB HB.size ?_⟩
  · have := heap_setCell_same w3 w.heap.size 0 _ _ (.slice (some ⟨g3, 0, none⟩) (R.length + 1) cap3) hB3
    simpa using this
  · have h1 := (Kept.set (F := fun q => q = w.heap.size) (Kept.refl _ w3) (.inl rfl) 0 (.slice (some ⟨g3, 0, none⟩) (R.length + 1) cap3)).own own3 (fun q hq e => g3b (by simp [Value.ownBlock] at hq; omega))
    simpa [rowHd] using h1
  · have K5 : Kept (fun q => q = w.heap.size ∨ hdr.ownBlock = some q) wr (w3.setCell ⟨w.heap.size, 0, none⟩ (.slice (some ⟨g3, 0, none⟩) (R.length + 1) cap3)) := (((Kept.refl _ wr).alloc _).grown grow3 (fun q hq => .inl (.inr hq))).set (.inl (.inl rfl)) 0 _
    have h1 := K5.own ho (fun q hq e => by
      simp [Value.ownBlock] at hq
      rcases e with e | e
      · omega
      · have := hol q e; omega)
    have h2 := own_mono h1 (Nat.zero_le wo.heap.size)
    simpa [rowHd] using h2
  · rcases hat3 with h1 | h1
    · exact .inl (by rw [h1]; rfl)
    · exact .inr ⟨g3, rfl, by omega, by omega⟩
  · intro q hq
    have hbb := HB.size
    rcases hq with rfl | hq | ⟨r, hr, rfl⟩
    · exact Nat.le_refl _
    · simp [Value.ownBlock] at hq
      subst hq
      rcases hat3 with h1 | h1
      · exact HF _ (.inr (.inl h1))
      · omega
    · rcases List.mem_append.1 hr with h1 | h1
      · exact HF _ (.inr (.inr ⟨r, h1, rfl⟩))
      · simp at h1
        subst h1
        simp only
        omega
  · intro q hq
    rcases hq with rfl | hq
    · exact Nat.le_refl _
    · exact HF q (.inr (.inl hq))
set_option maxRecDepth 100000 in
set_option maxHeartbeats 4000000 in
theorem rnew_any (rows width : Int) (w : World) (r0 : -9223372036854775808 ≤ rows) (r1 : rows ≤ 9223372036854775807) (c0 : -9223372036854775808 ≤ width) (c1 : width ≤ 9223372036854775807) :
    Calls Tryz.prog 68 #[.int .i64 rows, .int .i64 width] w fun e w' => ∃ (b : Nat) (hdr : Value) (R : List Row), e = .returned (.pointer (some ⟨b, 0, none⟩)) ∧ RG w' b hdr R ∧ Zeros (cl rows 8) (cl width 128) R ∧ Fresh w b hdr R ∧ Below w.heap.size w w' := by
  obtain ⟨i0, hi, hz0, hz1, hz2⟩ := info_parts i64_info
  obtain ⟨j0, hj, hy0, hy1, hy2⟩ := info_parts rows_info
  have hm8 : cl rows 8 ≤ 8 := by unfold cl; omega
  have hw128 : cl width 128 ≤ 128 := by unfold cl; omega
  have HCL := Lib.hid (fun k h => cl_lt (n := rows) (m := 8) (k := k) h)
  have HCG := Lib.hid (fun k h => cl_ge (n := rows) (m := 8) (k := k) h)
  have HWL := Lib.hid (fun k h => cl_lt (n := width) (m := 128) (k := k) h)
  have HWG := Lib.hid (fun k h => cl_ge (n := width) (m := 128) (k := k) h)
  obtain ⟨M, hM⟩ : ∃ M, cl rows 8 = M := ⟨_, rfl⟩
  obtain ⟨W, hW⟩ : ∃ W, cl width 128 = W := ⟨_, rfl⟩
  rw [hM] at HCL HCG hm8 ⊢
  rw [hW] at HWL HWG hw128 ⊢
  clear hM hW
  go_enter Tryz.func68, Tryz.ntmps68
  go_wp2
  go_loopw [6] (fun i wr => ∃ (k : Nat) (hdr : Value) (R : List Row), k ≤ M ∧ R.length = k ∧ i = .int .i64 k ∧ RG wr w.heap.size hdr R ∧ Zeros k W R ∧ Fresh w w.heap.size hdr R ∧ Below w.heap.size w wr) (fun i _ => M - (intOf i).toNat)
  case atStart =>
    refine ⟨0, .slice none 0 0, [], Nat.zero_le _, rfl, rfl, ⟨heap_alloc_new w _, World.ownsRow_nil _ _ _ _, (fun r h => by cases h), (fun h => by simp [Value.ownBlock] at h), (fun r h => by cases h), by simp⟩, rfl, ?_, Lw.below_alloc (Below.refl _ _) _⟩
    intro q hq
    rcases hq with rfl | hq | ⟨r, hr, _⟩
    · exact Nat.le_refl _
    · simp [Value.ownBlock] at hq
    · cases hr
  case round =>
    obtain ⟨k, hdr, R, hk, hRl, rfl, hrg, hzr, hfr, hbel⟩ := hrel
    have HG := Lib.hid hrg
    have HZ := Lib.hid hzr
    have HF := Lib.hid hfr
    have HB := Lib.hid hbel
    have HRL := Lib.hid hRl
    have hbs := hbel.size
    clear hrg hzr hfr hbel hRl
    by_cases hlt : k < M
    · obtain ⟨g1, g2⟩ : (k : Int) < rows ∧ (k : Int) < 8 := by have := HCL.out k hlt; omega
      obtain ⟨wo, rfl⟩ : ∃ wo, wo = wr := ⟨_, rfl⟩
      go_wp2
      go_loopw [7, 8] (fun v c wi => ∃ (j g cp : Nat), j ≤ W ∧ c = .int .i64 j ∧ v = .slice (some ⟨g, 0, none⟩) j cp ∧ wi.ownsRow wo.heap.size 2 1 v j ((List.replicate j 0).map (Value.int .i64)) ∧ wo.heap.size ≤ g ∧ Below wo.heap.size wo wi) (fun _ c _ => W - (intOf c).toNat)
      case atStart => exact ⟨0, wo.heap.size, 0, Nat.zero_le _, rfl, rfl, own_empty wo _ _ _ (Nat.le_refl _), Nat.le_refl _, Lw.below_alloc (Below.refl _ _) _⟩
      case round =>
        obtain ⟨j, g, cp, hjw, rfl, rfl, hown, hg, hbi⟩ := hrel
        have hbis := hbi.size
        by_cases hjl : j < W
        · obtain ⟨e1, e2⟩ : (j : Int) < width ∧ (j : Int) < 128 := by have := HWL.out j hjl; omega
          have HN := Lib.hid (rep_next j)
          have HBI := Lib.hid hbi
          clear hbi
          go_wp2_with (at_builtin; (refine app_one .i64 rfl _ _ 48 rfl wo.heap.size 2 i0 8 i64s_u hi hz0 hz1 hz2 (.slice (some ⟨g, 0, none⟩) j cp) j (List.replicate j 0) rfl (hown.alloc _) 0 wr.heap.size rfl (cell_one_new _ _ _) (by unfold maxLen; omega) (by omega) (by simp; omega) ?_); intro v1 w1 own1 grow1 oth1; obtain ⟨gg, cc, rfl, hgg, hgl⟩ := own1.form (by omega); have hb1 : Below wo.heap.size wo w1 := app_below3 (Lw.below_alloc HBI.out _) grow1 (fun q hq => own_ge hown q hq))
          go_roundw
          case rel => exact ⟨j + 1, gg, cc, by omega, by go_num, rfl, by rw [HN.out]; exact own1, hgg, hb1⟩
          case measure => simp [intOf]; omega
        · have e : j = W := by omega
          subst e
          have hrg1 := HG.out.keep (Kept.of_below (F := fun _ => False) hbi) (fun _ _ h => h)
          have hhd := cell_of_row wr w.heap.size 0 _ _ _ hrg1.cell
          simp only [List.getElem?_toArray, List.getElem?_cons_zero] at hhd
          have hlt1 := hrg1.blt (.inl rfl)
          have HG1 := Lib.hid hrg1
          have HBI := Lib.hid hbi
          have HO := Lib.hid hown
          have hk8 : k ≤ 8 := by omega
          clear hrg1 hbi hown
          have e0 : ¬ (j : Int) < width ∨ ((j : Int) < width ∧ ¬ (j : Int) < 128) := by have := HWG.out j (by omega); omega
          rcases e0 with e1 | ⟨e1, e2⟩
          all_goals go_wp2_with (at_builtin; (refine app_val rfl _ _ 107 rfl 0 48 j0 (.slice none 0 0) 24 rows_u hj hy0 hy1 hy2 rfl hdr k (R.map rowHd) rfl (by have h7 := HG1.out.outer.alloc (.cells #[.slice (some ⟨g, 0, none⟩) j cp] 48); rw [HRL.out] at h7; exact h7) (.slice (some ⟨g, 0, none⟩) j cp) wr.heap.size rfl (cell_one_new _ _ _) rfl (by unfold maxLen; omega) (by omega) (by omega) ?_); intro g3 cap3 w3 own3 grow3 hat3 hl3; have hB3 : w3.heap[w.heap.size]? = some (.cells #[hdr] 109 (0, 0)) := by { rw [grow3.block _ (by simp; omega) (fun e => HG1.out.apart1 e.symm)]; exact (Kept.alloc (F := fun _ => False) (Kept.refl _ wr) _).heap HG1.out.cell (fun h => h) }; have hfz3 := frozen_of_row w3 w.heap.size 0 _ _ hB3; have hcl3 := cell_of_row w3 w.heap.size 0 _ _ _ hB3; simp only [List.getElem?_toArray, List.getElem?_cons_zero] at hcl3)
          all_goals go_roundw
          all_goals first
            | (simp [intOf]; omega)
            | (refine ⟨k + 1, .slice (some ⟨g3, 0, none⟩) (k + 1) cap3, R ++ [(g, cp, List.replicate j 0)], by omega, by simp [HRL.out], by go_num, ?_⟩; exact new_round HG.out HBI.out HO.out hg (by rw [HRL.out]; exact own3) grow3 hat3 hB3 HZ.out HF.out HB.out HRL.out)
    · have e : k = M := by omega
      subst e
      have e0 : ¬ (k : Int) < rows ∨ ((k : Int) < rows ∧ ¬ (k : Int) < 8) := by have := HCG.out k (by omega); omega
      rcases e0 with e1 | ⟨e1, e2⟩
      all_goals go_wp2
      all_goals go_ret
      all_goals refine ⟨w.heap.size, ?_, hdr, R, HG.out, HZ.out, HF.out, HB.out⟩
      all_goals rfl
theorem flat_next (L : List (List Int)) (k : Nat) (zs : List Int) (h : L[k]? = some zs) : (L.take (k + 1)).flatten = (L.take k).flatten ++ zs := by
  obtain ⟨hk, e⟩ := List.getElem?_eq_some_iff.1 h
  rw [List.take_succ_eq_append_getElem hk, List.flatten_append, e]
  simp
theorem flat_len (L : List (List Int)) (k m : Nat) (h : ∀ zs ∈ L, zs.length ≤ m) : (L.take k).flatten.length ≤ k * m := by
  induction k with
  | zero => simp
  | succ k ih =>
    rcases Nat.lt_or_ge k L.length with h1 | h1
    · rw [flat_next L k _ (List.getElem?_eq_getElem h1), List.length_append, Nat.succ_mul]
      have := h _ (List.getElem_mem h1)
      omega
    · rw [List.take_of_length_le (by omega)]
      rw [List.take_of_length_le h1] at ih
      rw [Nat.succ_mul]
      omega
set_option maxRecDepth 100000 in
set_option maxHeartbeats 2000000 in
theorem rcells_any (b : Nat) (hdr : Value) (R : List Row) (Z : List Int) (w : World) (h : RG w b hdr R) (hZ : (nums R).flatten = Z) (hn : R.length ≤ 8) (hm : ∀ r ∈ R, r.2.2.length ≤ 128) :
    Calls Tryz.prog 48 #[.pointer (some ⟨b, 0, none⟩)] w fun e w' => ∃ (A : Addr) (cap : Nat), e = .returned (.slice (some A) Z.length cap) ∧ Rd .i64 w' (some A) Z ∧ Z.length ≤ cap ∧ cap ≤ maxLen ∧ w.heap.size ≤ A.block ∧ Below w.heap.size w w' := by
  obtain ⟨i0, hi, hz0, hz1, hz2⟩ := info_parts i64_info
  have HG := Lib.hid h
  have HZZ := Lib.hid hZ
  clear hZ
  obtain ⟨A, cap, rfl, hcap, hA, hcell⟩ := h.hd
  have hb := cell_of_row w b 0 _ _ _ h.cell
  simp only [List.getElem?_toArray, List.getElem?_cons_zero] at hb
  have hlen : (nums R).length = R.length := by simp [nums]
  have HLM := Lib.hid (fun k => flat_len (nums R) k 128 (fun zs hz => by obtain ⟨r, hr, rfl⟩ := List.mem_map.1 hz; exact hm r hr))
  have HC := Lib.hid hcell
  have HLEN := Lib.hid hlen
  have HM := Lib.hid hm
  clear h hcell hA hlen hm
  go_enter Tryz.func48, Tryz.ntmps48
  go_wp2
  go_loopw [3, 4] (fun v i wr => ∃ (k n : Nat) (ad : Addr) (cp : Nat), k ≤ R.length ∧ i = .int .i64 k ∧ n = ((nums R).take k).flatten.length ∧ v = .slice (some ad) n cp ∧ wr.ownsRow w.heap.size 2 1 v n (((nums R).take k).flatten.map (Value.int .i64)) ∧ Below w.heap.size w wr) (fun _ i _ => R.length - (intOf i).toNat)
  case atStart => exact ⟨0, 0, _, 0, Nat.zero_le _, rfl, rfl, rfl, own_empty w _ _ _ (Nat.le_refl _), Lw.below_alloc (Below.refl _ _) _⟩
  case round =>
    obtain ⟨k, n, ad, cp, hk, rfl, hnn, rfl, hown, hbel⟩ := hrel
    have hbr := cell_up hb hbel
    have hlm := HLM.out k
    have hbs := hbel.size
    by_cases hlt : k < R.length
    · obtain ⟨r, hr⟩ : ∃ r, R[k]? = some r := ⟨_, List.getElem?_eq_getElem hlt⟩
      obtain ⟨oad, rfl, hcr⟩ := HC.out k r hr
      have hrm := List.mem_of_getElem? hr
      have hml := HM.out r hrm
      have hcr2 := cell_up hcr hbel
      have hrd : Rd .i64 w (some ⟨r.1, 0, none⟩) r.2.2 := fun j v hv => ⟨_, rfl, HG.out.numAt hrm hv⟩
      have HN := Lib.hid (flat_next (nums R) k r.2.2 (by simp [nums, hr]))
      have HRD := Lib.hid (hrd.up hbel)
      have HB := Lib.hid hbel
      have HNN := Lib.hid hnn
      have hn2 : n ≤ 1024 := by omega
      clear hlm
      obtain ⟨g, gc, zs⟩ := r
      unfold rowHd at hcr2
      simp only at hcr2 hml HRD HN
      clear hr hcr hrd hbel hnn hrm
      go_wp2_with (at_builtin; (refine app_any .i64 rfl _ _ 48 rfl w.heap.size 2 i0 8 i64s_u hi hz0 hz1 hz2 (.slice (some ad) n cp) n ((nums R).take k).flatten rfl hown (fun h => by cases h) (some ⟨g, 0, none⟩) zs.length gc zs rfl (by simp) rfl HRD.out (by unfold maxLen; omega) (by omega) hbs ?_); intro A2 cap2 w2 own2 grow2 rd2 c2 d2; have hb2 : Below w.heap.size w w2 := app_below3 HB.out grow2 (fun q hq => own_ge hown q hq))
      go_roundw
      case rel => exact ⟨k + 1, n + zs.length, A2, cap2, by omega, by go_num, by rw [HN.out, List.length_append, ← HNN.out], rfl, by rw [HN.out]; exact own2, hb2⟩
      case measure => simp [intOf]; omega
    · have e : k = R.length := by omega
      subst e
      rw [List.take_of_length_le (by have := HLEN.out; omega), HZZ.out] at hown hnn hlm
      subst hnn
      obtain ⟨A2, c2, e2, hrd, h1, h2, h3⟩ := own_rd hown
      injection e2 with e3 e4 e5
      subst e3
      subst e5
      have hge := own_ge hown ad.block rfl
      have HO := Lib.hid hrd
      have HB := Lib.hid hbel
      clear hown hrd hbel h3
      go_wp2
      go_ret
      exact ⟨_, _, rfl, HO.out, h1, h2, hge, HB.out⟩
end Go.Proofs.YtiblpdjehknbcaaGreat.Grd
