/- The statement SpanFar of layer 16 holds. Printed by wip/gen/spn9.py. -/
import Derived.Test.YtbifihhfoanmgaaMd
import Derived.Test.YtbifihhfoanmgaaMj
import Derived.Deep.LoopGhost
import Derived.Deep.RegionHeld3
import Derived.Deep.DeepCutAuto
import Derived.Deep.QuietTactic
import Derived.BigQuiet
namespace Go.Proofs.Ytbifihhfoanmgaa.Spn
open Go Go.RowKit Lw Grd Lin Con Shp Sk Exa Lev Stk Pcs
set_option linter.unusedVariables false
set_option linter.unusedSimpArgs false
set_option linter.constructorNameAsVariable false
theorem box4 {w : World} {b : Nat} {e : TypeId} {v0 v1 v2 v3 : Value} (h : (boxT b e #[v0, v1, v2, v3]).I w) : w.cell? ⟨b, 0, none⟩ = some v0 ∧ w.cell? ⟨b, 1, none⟩ = some v1 ∧ w.cell? ⟨b, 2, none⟩ = some v2 ∧ w.cell? ⟨b, 3, none⟩ = some v3 :=
  ⟨box_cell h rfl, box_cell h rfl, box_cell h rfl, box_cell h rfl⟩
theorem box2q {w : World} {b : Nat} {e : TypeId} {v0 v1 : Value} (h : (boxT b e #[v0, v1]).I w) : w.cell? ⟨b, 0, none⟩ = some v0 ∧ w.cell? ⟨b, 1, none⟩ = some v1 := ⟨box_cell h rfl, box_cell h rfl⟩
theorem rd4 {w : World} {b : Nat} {e : TypeId} {x0 x1 x2 x3 : Int} (h : (boxT b e #[.int .i64 x0, .int .i64 x1, .int .i64 x2, .int .i64 x3]).I w) : Rd .i64 w (some ⟨b, 0, none⟩) [x0, x1, x2, x3] :=
  lit4w (box_cell h rfl) (box_cell h rfl) (box_cell h rfl) (box_cell h rfl)
theorem apart2 {w w2 : World} {p : Addr} {F : Nat → Prop} {c : Cfg} {sts : List LS} {b : Nat} {e : TypeId} {vs : Array Value} (h : Have w w2 [stT p F c sts, boxT b e vs]) : ¬ F b :=
  fun hf => Have.apart h (u := boxT b e vs) (by simp) b hf rfl
theorem st_new {w : World} {p : Addr} {F : Nat → Prop} {c : Cfg} {sts : List LS} (h : (stT p F c sts).I w) : ¬ F w.heap.size :=
  fun hf => absurd ((stT p F c sts).lt w h _ hf) (Nat.lt_irrefl _)
theorem lit2n (X : World) (x y : Int) : Rd .i64 (X.alloc (.cells #[.int .i64 x, .int .i64 y] 2)) (some ⟨X.heap.size, 0, none⟩) [x, y] := by
  have hb := heap_alloc_new X (.cells #[.int .i64 x, .int .i64 y] 2)
  exact lit2 (box_cell hb rfl) (box_cell hb rfl)
set_option maxRecDepth 100000 in
set_option maxHeartbeats 40000000 in
theorem far_00t (x0 x1 x2 x3 : Int) (z0 : -9223372036854775808 ≤ x0 ∧ x0 ≤ 9223372036854775807) (z1 : -9223372036854775808 ≤ x1 ∧ x1 ≤ 9223372036854775807) (z2 : -9223372036854775808 ≤ x2 ∧ x2 ≤ 9223372036854775807) (z3 : -9223372036854775808 ≤ x3 ∧ x3 ≤ 9223372036854775807) (a b : Int) (w : World) (hA : bits .and .i64 a 1 = 0) (hB : bits .and .i64 b 3 = 0) (hf : Wid.fit64 (x0 + x2) = true) :
    Calls Try.prog 3 #[.agg #[.int .i64 x0, .int .i64 x1, .int .i64 x2, .int .i64 x3], .int .i64 a, .int .i64 b] w fun e w' => e = .returned (.bool true) ∧ Below w.heap.size w w' := by
  have CAD := Lib.hid (fun w => add_any x0 x2 w z0.1 z0.2 z2.1 z2.2)
  have h0 := smF0 x0 x1 x2 x3
  obtain ⟨V, hV⟩ : ∃ V, x0 + x2 = V := ⟨_, rfl⟩
  rw [hV] at CAD h0 hf
  rw [hf] at CAD
  rw [show wrap64 V = V from IntWalk.wrap64_in _ (by have := of_decide_eq_true hf; omega)] at CAD
  have CR : Hid (∀ p F w, ST w p F lF (stF2 x0 x1 x2 x3) → Calls Try.prog 7 #[.pointer (some p), .int .u64 0, .int .u64 2] w fun e w' => e = .returned (.tuple #[.int .i64 V, .int .i64 0]) ∧ Below w.heap.size w w') := Lib.hid (fun p F w hs => by
    have h := tr_F p F x0 x1 x2 x3 0 2 V true [(1, 0), (0, 2)] w hs cvF0 (by decide) (by decide) (by decide) h0 hf
    simp only [if_true, if_false, Bool.false_eq_true, eq_self_iff_true] at h; exact h)
  have CO : Hid (∀ p F w, ST w p F lF (stF2 x0 x1 x2 x3) → Calls Try.prog 7 #[.pointer (some p), .int .u64 0, .int .u64 0] w fun e w' => e = .returned (.tuple #[.int .i64 x0, .int .i64 0]) ∧ Below w.heap.size w w') := Lib.hid (fun p F w hs => by
    have h := tr_F p F x0 x1 x2 x3 0 0 x0 true [(0, 0)] w hs (cov_one 2 0) (by decide) (by decide) (by decide) (smO0 x0 x1 x2 x3) (decide_eq_true (by omega))
    simp only [if_true, if_false, Bool.false_eq_true, eq_self_iff_true] at h; exact h)
  have CL0 := Lib.hid (fun p F g cap w hs hr ha => fl_0 p F x0 x1 x2 x3 z0 z1 z2 z3 g cap w hs hr ha)
  have CL1 := Lib.hid (fun p F g cap w hs hr ha => fl_1 p F x0 x1 x2 x3 z0 z1 z2 z3 g cap w hs hr ha)
  have HBX : Hid (Have w (w.alloc (.cells #[.int .i64 x0, .int .i64 x1, .int .i64 x2, .int .i64 x3] 22)) [boxT w.heap.size 22 #[.int .i64 x0, .int .i64 x1, .int .i64 x2, .int .i64 x3]]) := Lib.hid (box_new w _ _)
  have q1 : wrap64 3 = 3 := IntWalk.wrap64_in _ ⟨by omega, by omega⟩
  have q2 : IntKind.i64.wrap 3 = 3 := IntWalk.i64_in _ ⟨by omega, by omega⟩
  clear h0 hV z0 z1 z2 z3
  go_enter Try.func3, Try.ntmps3
  go_upto_region 12 with (first
    | (go_at_call 7; (with_reducible refine (CR.out p F5 _ (stI HV5.out.i0)).mono ?_); rintro e w6 ⟨rfl, hb⟩; have HV6 := Lib.hid (HV5.out.up hb); clear hb; have hl6 := box_lt HV6.out.i1; clear e0 e1 e2 e3; obtain ⟨e0, e1, e2, e3⟩ := box4 HV6.out.i1)
    | (go_at_call 6; (with_reducible refine (CL1.out p F4 _ _ _ (stI (HV4.out.up (by repeat' (first | (with_reducible exact Below.refl _ _) | (with_reducible assumption) | (with_reducible refine below_over ?_ _ _) | (with_reducible refine Lw.below_alloc ?_ _) | (with_reducible refine Below.drew ?_) | (with_reducible refine below_drewN ?_ _) | (with_reducible refine Below.setCell ?_ ?_ _) | go_size))).i0) (lit2n _ x0 x3) (st_new HV4.out.i0)).mono ?_); rintro e w5 ⟨rfl, F5, h1, h2, h3⟩; have HV5 := Lib.hid ((HV4.out.up (by repeat' (first | (with_reducible exact Below.refl _ _) | (with_reducible assumption) | (with_reducible refine below_over ?_ _ _) | (with_reducible refine Lw.below_alloc ?_ _) | (with_reducible refine Below.drew ?_) | (with_reducible refine below_drewN ?_ _) | (with_reducible refine Below.setCell ?_ ?_ _) | go_size))).turn_0 (stT p F5 lF (stF2 x0 x1 x2 x3)) h1 h2 h3); clear h1 h2 h3; clear e0 e1 e2 e3; obtain ⟨e0, e1, e2, e3⟩ := box4 HV5.out.i1)
    | (go_at_call 6; (with_reducible refine (CL0.out p F _ _ _ (stI HV2.out.i0) (rd4 HV2.out.i1) (apart2 HV2.out)).mono ?_); rintro e w4 ⟨rfl, F4, h1, h2, h3⟩; have HV4 := Lib.hid (HV2.out.turn_0 (stT p F4 lF (stF1 x0 x1 x2 x3)) h1 h2 h3); clear h1 h2 h3; clear e0 e1 e2 e3; obtain ⟨e0, e1, e2, e3⟩ := box4 HV4.out.i1)
    | (go_at_call 5; (with_reducible refine (tn_F _).mono ?_); rintro e w2 ⟨p, F, rfl, hsk, hfr, hb⟩; have HV2 := Lib.hid (HV1.out.push (stT p F lF (stsOf lF [])) hb hsk hfr); clear hsk hfr hb; clear e0 e1 e2 e3; obtain ⟨e0, e1, e2, e3⟩ := box4 HV2.out.i1)
    | (go_at_call 4; (with_reducible refine (shown_any _).mono ?_); rintro e w1 ⟨rfl, hb⟩; have HV1 := Lib.hid (HBX.out.up hb); clear hb; obtain ⟨e0, e1, e2, e3⟩ := box4 HV1.out.i0))
  have HV7 := Lib.hid (HV6.out.push (boxT w6.heap.size 2 #[.int .i64 x0, .int .i64 x2]) (Lw.below_alloc (Below.refl _ _) _) (heap_alloc_new w6 _) (fun k hk => Nat.le_of_eq hk.symm))
  obtain ⟨d0, d1⟩ := box2q HV7.out.i0
  clear e0 e1 e2 e3; obtain ⟨e0, e1, e2, e3⟩ := box4 HV7.out.i2
  go_region_held3 (fun w' => w'.cell? ⟨w6.heap.size, 0, none⟩ = some (.int .i64 x0) ∧ w'.cell? ⟨w6.heap.size, 1, none⟩ = some (.int .i64 x2)) (first | (refine ⟨?_, ?_⟩ <;> (first | (with_reducible assumption) | (with_reducible refine cell_up d0 ?_) | (with_reducible refine cell_up d1 ?_)) <;> (repeat' (first | (with_reducible exact Below.refl _ _) | (with_reducible assumption) | (with_reducible refine below_over ?_ _ _) | (with_reducible refine Lw.below_alloc ?_ _) | (with_reducible refine Below.drew ?_) | (with_reducible refine below_drewN ?_ _) | (with_reducible refine Below.setCell ?_ ?_ _) | go_size)))) (first
    | (go_at_call 8; (with_reducible refine (CAD.out _).mono ?_); rintro e w8 ⟨rfl, hb⟩; obtain ⟨bs8, dd8, rfl⟩ := below_grow hb; clear hb))
  all_goals go_wp2_with (go_at_call 7; (with_reducible refine (CO.out p F5 _ (stI (HV7.out.up (by repeat' (first | (with_reducible exact Below.refl _ _) | (with_reducible assumption) | (with_reducible refine below_over ?_ _ _) | (with_reducible refine Lw.below_alloc ?_ _) | (with_reducible refine Below.drew ?_) | (with_reducible refine below_drewN ?_ _) | (with_reducible refine Below.setCell ?_ ?_ _) | go_size))).i1)).mono ?_); rintro e w9 ⟨rfl, hb⟩; have HV9 := Lib.hid ((HV7.out.up (by repeat' (first | (with_reducible exact Below.refl _ _) | (with_reducible assumption) | (with_reducible refine below_over ?_ _ _) | (with_reducible refine Lw.below_alloc ?_ _) | (with_reducible refine Below.drew ?_) | (with_reducible refine below_drewN ?_ _) | (with_reducible refine Below.setCell ?_ ?_ _) | go_size))).up hb); clear hb; clear d0 d1; clear e0 e1 e2 e3; obtain ⟨e0, e1, e2, e3⟩ := box4 HV9.out.i2)
  all_goals go_ret
  all_goals exact ⟨ret_bs (by first | rfl | (simp [*]; done)), HV9.out.below⟩
set_option maxRecDepth 100000 in
set_option maxHeartbeats 40000000 in
theorem far_00f (x0 x1 x2 x3 : Int) (z0 : -9223372036854775808 ≤ x0 ∧ x0 ≤ 9223372036854775807) (z1 : -9223372036854775808 ≤ x1 ∧ x1 ≤ 9223372036854775807) (z2 : -9223372036854775808 ≤ x2 ∧ x2 ≤ 9223372036854775807) (z3 : -9223372036854775808 ≤ x3 ∧ x3 ≤ 9223372036854775807) (a b : Int) (w : World) (hA : bits .and .i64 a 1 = 0) (hB : bits .and .i64 b 3 = 0) (hf : Wid.fit64 (x0 + x2) = false) :
    Calls Try.prog 3 #[.agg #[.int .i64 x0, .int .i64 x1, .int .i64 x2, .int .i64 x3], .int .i64 a, .int .i64 b] w fun e w' => e = .returned (.bool true) ∧ Below w.heap.size w w' := by
  have CAD := Lib.hid (fun w => add_any x0 x2 w z0.1 z0.2 z2.1 z2.2)
  have h0 := smF0 x0 x1 x2 x3
  obtain ⟨V, hV⟩ : ∃ V, x0 + x2 = V := ⟨_, rfl⟩
  rw [hV] at CAD h0 hf
  rw [hf] at CAD
  obtain ⟨WV, hWV⟩ : ∃ v, wrap64 V = v := ⟨_, rfl⟩
  rw [hWV] at CAD
  have CR : Hid (∀ p F w, ST w p F lF (stF2 x0 x1 x2 x3) → Calls Try.prog 7 #[.pointer (some p), .int .u64 0, .int .u64 2] w fun e w' => e = .returned (.tuple #[.int .i64 0, .int .i64 4]) ∧ Below w.heap.size w w') := Lib.hid (fun p F w hs => by
    have h := tr_F p F x0 x1 x2 x3 0 2 V false [(1, 0), (0, 2)] w hs cvF0 (by decide) (by decide) (by decide) h0 hf
    simp only [if_true, if_false, Bool.false_eq_true, eq_self_iff_true] at h; exact h)
  have CO : Hid (∀ p F w, ST w p F lF (stF2 x0 x1 x2 x3) → Calls Try.prog 7 #[.pointer (some p), .int .u64 0, .int .u64 0] w fun e w' => e = .returned (.tuple #[.int .i64 x0, .int .i64 0]) ∧ Below w.heap.size w w') := Lib.hid (fun p F w hs => by
    have h := tr_F p F x0 x1 x2 x3 0 0 x0 true [(0, 0)] w hs (cov_one 2 0) (by decide) (by decide) (by decide) (smO0 x0 x1 x2 x3) (decide_eq_true (by omega))
    simp only [if_true, if_false, Bool.false_eq_true, eq_self_iff_true] at h; exact h)
  have CL0 := Lib.hid (fun p F g cap w hs hr ha => fl_0 p F x0 x1 x2 x3 z0 z1 z2 z3 g cap w hs hr ha)
  have CL1 := Lib.hid (fun p F g cap w hs hr ha => fl_1 p F x0 x1 x2 x3 z0 z1 z2 z3 g cap w hs hr ha)
  have HBX : Hid (Have w (w.alloc (.cells #[.int .i64 x0, .int .i64 x1, .int .i64 x2, .int .i64 x3] 22)) [boxT w.heap.size 22 #[.int .i64 x0, .int .i64 x1, .int .i64 x2, .int .i64 x3]]) := Lib.hid (box_new w _ _)
  have q1 : wrap64 3 = 3 := IntWalk.wrap64_in _ ⟨by omega, by omega⟩
  have q2 : IntKind.i64.wrap 3 = 3 := IntWalk.i64_in _ ⟨by omega, by omega⟩
  clear h0 hV z0 z1 z2 z3
  go_enter Try.func3, Try.ntmps3
  go_upto_region 12 with (first
    | (go_at_call 7; (with_reducible refine (CR.out p F5 _ (stI HV5.out.i0)).mono ?_); rintro e w6 ⟨rfl, hb⟩; have HV6 := Lib.hid (HV5.out.up hb); clear hb; have hl6 := box_lt HV6.out.i1; clear e0 e1 e2 e3; obtain ⟨e0, e1, e2, e3⟩ := box4 HV6.out.i1)
    | (go_at_call 6; (with_reducible refine (CL1.out p F4 _ _ _ (stI (HV4.out.up (by repeat' (first | (with_reducible exact Below.refl _ _) | (with_reducible assumption) | (with_reducible refine below_over ?_ _ _) | (with_reducible refine Lw.below_alloc ?_ _) | (with_reducible refine Below.drew ?_) | (with_reducible refine below_drewN ?_ _) | (with_reducible refine Below.setCell ?_ ?_ _) | go_size))).i0) (lit2n _ x0 x3) (st_new HV4.out.i0)).mono ?_); rintro e w5 ⟨rfl, F5, h1, h2, h3⟩; have HV5 := Lib.hid ((HV4.out.up (by repeat' (first | (with_reducible exact Below.refl _ _) | (with_reducible assumption) | (with_reducible refine below_over ?_ _ _) | (with_reducible refine Lw.below_alloc ?_ _) | (with_reducible refine Below.drew ?_) | (with_reducible refine below_drewN ?_ _) | (with_reducible refine Below.setCell ?_ ?_ _) | go_size))).turn_0 (stT p F5 lF (stF2 x0 x1 x2 x3)) h1 h2 h3); clear h1 h2 h3; clear e0 e1 e2 e3; obtain ⟨e0, e1, e2, e3⟩ := box4 HV5.out.i1)
    | (go_at_call 6; (with_reducible refine (CL0.out p F _ _ _ (stI HV2.out.i0) (rd4 HV2.out.i1) (apart2 HV2.out)).mono ?_); rintro e w4 ⟨rfl, F4, h1, h2, h3⟩; have HV4 := Lib.hid (HV2.out.turn_0 (stT p F4 lF (stF1 x0 x1 x2 x3)) h1 h2 h3); clear h1 h2 h3; clear e0 e1 e2 e3; obtain ⟨e0, e1, e2, e3⟩ := box4 HV4.out.i1)
    | (go_at_call 5; (with_reducible refine (tn_F _).mono ?_); rintro e w2 ⟨p, F, rfl, hsk, hfr, hb⟩; have HV2 := Lib.hid (HV1.out.push (stT p F lF (stsOf lF [])) hb hsk hfr); clear hsk hfr hb; clear e0 e1 e2 e3; obtain ⟨e0, e1, e2, e3⟩ := box4 HV2.out.i1)
    | (go_at_call 4; (with_reducible refine (shown_any _).mono ?_); rintro e w1 ⟨rfl, hb⟩; have HV1 := Lib.hid (HBX.out.up hb); clear hb; obtain ⟨e0, e1, e2, e3⟩ := box4 HV1.out.i0))
  have HV7 := Lib.hid (HV6.out.push (boxT w6.heap.size 2 #[.int .i64 x0, .int .i64 x2]) (Lw.below_alloc (Below.refl _ _) _) (heap_alloc_new w6 _) (fun k hk => Nat.le_of_eq hk.symm))
  obtain ⟨d0, d1⟩ := box2q HV7.out.i0
  clear e0 e1 e2 e3; obtain ⟨e0, e1, e2, e3⟩ := box4 HV7.out.i2
  go_region_held3 (fun w' => w'.cell? ⟨w6.heap.size, 0, none⟩ = some (.int .i64 x0) ∧ w'.cell? ⟨w6.heap.size, 1, none⟩ = some (.int .i64 x2)) (first | (refine ⟨?_, ?_⟩ <;> (first | (with_reducible assumption) | (with_reducible refine cell_up d0 ?_) | (with_reducible refine cell_up d1 ?_)) <;> (repeat' (first | (with_reducible exact Below.refl _ _) | (with_reducible assumption) | (with_reducible refine below_over ?_ _ _) | (with_reducible refine Lw.below_alloc ?_ _) | (with_reducible refine Below.drew ?_) | (with_reducible refine below_drewN ?_ _) | (with_reducible refine Below.setCell ?_ ?_ _) | go_size)))) (first
    | (go_at_call 8; (with_reducible refine (CAD.out _).mono ?_); rintro e w8 ⟨rfl, hb⟩; obtain ⟨bs8, dd8, rfl⟩ := below_grow hb; clear hb))
  all_goals go_wp2_with (go_at_call 7; (with_reducible refine (CO.out p F5 _ (stI (HV7.out.up (by repeat' (first | (with_reducible exact Below.refl _ _) | (with_reducible assumption) | (with_reducible refine below_over ?_ _ _) | (with_reducible refine Lw.below_alloc ?_ _) | (with_reducible refine Below.drew ?_) | (with_reducible refine below_drewN ?_ _) | (with_reducible refine Below.setCell ?_ ?_ _) | go_size))).i1)).mono ?_); rintro e w9 ⟨rfl, hb⟩; have HV9 := Lib.hid ((HV7.out.up (by repeat' (first | (with_reducible exact Below.refl _ _) | (with_reducible assumption) | (with_reducible refine below_over ?_ _ _) | (with_reducible refine Lw.below_alloc ?_ _) | (with_reducible refine Below.drew ?_) | (with_reducible refine below_drewN ?_ _) | (with_reducible refine Below.setCell ?_ ?_ _) | go_size))).up hb); clear hb; clear d0 d1; clear e0 e1 e2 e3; obtain ⟨e0, e1, e2, e3⟩ := box4 HV9.out.i2)
  all_goals go_ret
  all_goals exact ⟨ret_bs (by first | rfl | (simp [*]; done)), HV9.out.below⟩
set_option maxRecDepth 100000 in
set_option maxHeartbeats 40000000 in
theorem far_01t (x0 x1 x2 x3 : Int) (z0 : -9223372036854775808 ≤ x0 ∧ x0 ≤ 9223372036854775807) (z1 : -9223372036854775808 ≤ x1 ∧ x1 ≤ 9223372036854775807) (z2 : -9223372036854775808 ≤ x2 ∧ x2 ≤ 9223372036854775807) (z3 : -9223372036854775808 ≤ x3 ∧ x3 ≤ 9223372036854775807) (a b : Int) (w : World) (hA : bits .and .i64 a 1 = 0) (hB : bits .and .i64 b 3 = 1) (hf : Wid.fit64 (x0 + x2) = true) :
    Calls Try.prog 3 #[.agg #[.int .i64 x0, .int .i64 x1, .int .i64 x2, .int .i64 x3], .int .i64 a, .int .i64 b] w fun e w' => e = .returned (.bool true) ∧ Below w.heap.size w w' := by
  have CAD := Lib.hid (fun w => add_any x0 x2 w z0.1 z0.2 z2.1 z2.2)
  have h0 := smF0 x0 x1 x2 x3
  obtain ⟨V, hV⟩ : ∃ V, x0 + x2 = V := ⟨_, rfl⟩
  rw [hV] at CAD h0 hf
  rw [hf] at CAD
  rw [show wrap64 V = V from IntWalk.wrap64_in _ (by have := of_decide_eq_true hf; omega)] at CAD
  have CR : Hid (∀ p F w, ST w p F lF (stF2 x0 x1 x2 x3) → Calls Try.prog 7 #[.pointer (some p), .int .u64 0, .int .u64 2] w fun e w' => e = .returned (.tuple #[.int .i64 V, .int .i64 0]) ∧ Below w.heap.size w w') := Lib.hid (fun p F w hs => by
    have h := tr_F p F x0 x1 x2 x3 0 2 V true [(1, 0), (0, 2)] w hs cvF0 (by decide) (by decide) (by decide) h0 hf
    simp only [if_true, if_false, Bool.false_eq_true, eq_self_iff_true] at h; exact h)
  have CO : Hid (∀ p F w, ST w p F lF (stF2 x0 x1 x2 x3) → Calls Try.prog 7 #[.pointer (some p), .int .u64 1, .int .u64 1] w fun e w' => e = .returned (.tuple #[.int .i64 x1, .int .i64 0]) ∧ Below w.heap.size w w') := Lib.hid (fun p F w hs => by
    have h := tr_F p F x0 x1 x2 x3 1 1 x1 true [(0, 1)] w hs (cov_one 2 1) (by decide) (by decide) (by decide) (smO1 x0 x1 x2 x3) (decide_eq_true (by omega))
    simp only [if_true, if_false, Bool.false_eq_true, eq_self_iff_true] at h; exact h)
  have CL0 := Lib.hid (fun p F g cap w hs hr ha => fl_0 p F x0 x1 x2 x3 z0 z1 z2 z3 g cap w hs hr ha)
  have CL1 := Lib.hid (fun p F g cap w hs hr ha => fl_1 p F x0 x1 x2 x3 z0 z1 z2 z3 g cap w hs hr ha)
  have HBX : Hid (Have w (w.alloc (.cells #[.int .i64 x0, .int .i64 x1, .int .i64 x2, .int .i64 x3] 22)) [boxT w.heap.size 22 #[.int .i64 x0, .int .i64 x1, .int .i64 x2, .int .i64 x3]]) := Lib.hid (box_new w _ _)
  have q1 : wrap64 3 = 3 := IntWalk.wrap64_in _ ⟨by omega, by omega⟩
  have q2 : IntKind.i64.wrap 3 = 3 := IntWalk.i64_in _ ⟨by omega, by omega⟩
  clear h0 hV z0 z1 z2 z3
  go_enter Try.func3, Try.ntmps3
  go_upto_region 12 with (first
    | (go_at_call 7; (with_reducible refine (CR.out p F5 _ (stI HV5.out.i0)).mono ?_); rintro e w6 ⟨rfl, hb⟩; have HV6 := Lib.hid (HV5.out.up hb); clear hb; have hl6 := box_lt HV6.out.i1; clear e0 e1 e2 e3; obtain ⟨e0, e1, e2, e3⟩ := box4 HV6.out.i1)
    | (go_at_call 6; (with_reducible refine (CL1.out p F4 _ _ _ (stI (HV4.out.up (by repeat' (first | (with_reducible exact Below.refl _ _) | (with_reducible assumption) | (with_reducible refine below_over ?_ _ _) | (with_reducible refine Lw.below_alloc ?_ _) | (with_reducible refine Below.drew ?_) | (with_reducible refine below_drewN ?_ _) | (with_reducible refine Below.setCell ?_ ?_ _) | go_size))).i0) (lit2n _ x0 x3) (st_new HV4.out.i0)).mono ?_); rintro e w5 ⟨rfl, F5, h1, h2, h3⟩; have HV5 := Lib.hid ((HV4.out.up (by repeat' (first | (with_reducible exact Below.refl _ _) | (with_reducible assumption) | (with_reducible refine below_over ?_ _ _) | (with_reducible refine Lw.below_alloc ?_ _) | (with_reducible refine Below.drew ?_) | (with_reducible refine below_drewN ?_ _) | (with_reducible refine Below.setCell ?_ ?_ _) | go_size))).turn_0 (stT p F5 lF (stF2 x0 x1 x2 x3)) h1 h2 h3); clear h1 h2 h3; clear e0 e1 e2 e3; obtain ⟨e0, e1, e2, e3⟩ := box4 HV5.out.i1)
    | (go_at_call 6; (with_reducible refine (CL0.out p F _ _ _ (stI HV2.out.i0) (rd4 HV2.out.i1) (apart2 HV2.out)).mono ?_); rintro e w4 ⟨rfl, F4, h1, h2, h3⟩; have HV4 := Lib.hid (HV2.out.turn_0 (stT p F4 lF (stF1 x0 x1 x2 x3)) h1 h2 h3); clear h1 h2 h3; clear e0 e1 e2 e3; obtain ⟨e0, e1, e2, e3⟩ := box4 HV4.out.i1)
    | (go_at_call 5; (with_reducible refine (tn_F _).mono ?_); rintro e w2 ⟨p, F, rfl, hsk, hfr, hb⟩; have HV2 := Lib.hid (HV1.out.push (stT p F lF (stsOf lF [])) hb hsk hfr); clear hsk hfr hb; clear e0 e1 e2 e3; obtain ⟨e0, e1, e2, e3⟩ := box4 HV2.out.i1)
    | (go_at_call 4; (with_reducible refine (shown_any _).mono ?_); rintro e w1 ⟨rfl, hb⟩; have HV1 := Lib.hid (HBX.out.up hb); clear hb; obtain ⟨e0, e1, e2, e3⟩ := box4 HV1.out.i0))
  have HV7 := Lib.hid (HV6.out.push (boxT w6.heap.size 2 #[.int .i64 x0, .int .i64 x2]) (Lw.below_alloc (Below.refl _ _) _) (heap_alloc_new w6 _) (fun k hk => Nat.le_of_eq hk.symm))
  obtain ⟨d0, d1⟩ := box2q HV7.out.i0
  clear e0 e1 e2 e3; obtain ⟨e0, e1, e2, e3⟩ := box4 HV7.out.i2
  go_region_held3 (fun w' => w'.cell? ⟨w6.heap.size, 0, none⟩ = some (.int .i64 x0) ∧ w'.cell? ⟨w6.heap.size, 1, none⟩ = some (.int .i64 x2)) (first | (refine ⟨?_, ?_⟩ <;> (first | (with_reducible assumption) | (with_reducible refine cell_up d0 ?_) | (with_reducible refine cell_up d1 ?_)) <;> (repeat' (first | (with_reducible exact Below.refl _ _) | (with_reducible assumption) | (with_reducible refine below_over ?_ _ _) | (with_reducible refine Lw.below_alloc ?_ _) | (with_reducible refine Below.drew ?_) | (with_reducible refine below_drewN ?_ _) | (with_reducible refine Below.setCell ?_ ?_ _) | go_size)))) (first
    | (go_at_call 8; (with_reducible refine (CAD.out _).mono ?_); rintro e w8 ⟨rfl, hb⟩; obtain ⟨bs8, dd8, rfl⟩ := below_grow hb; clear hb))
  all_goals go_wp2_with (go_at_call 7; (with_reducible refine (CO.out p F5 _ (stI (HV7.out.up (by repeat' (first | (with_reducible exact Below.refl _ _) | (with_reducible assumption) | (with_reducible refine below_over ?_ _ _) | (with_reducible refine Lw.below_alloc ?_ _) | (with_reducible refine Below.drew ?_) | (with_reducible refine below_drewN ?_ _) | (with_reducible refine Below.setCell ?_ ?_ _) | go_size))).i1)).mono ?_); rintro e w9 ⟨rfl, hb⟩; have HV9 := Lib.hid ((HV7.out.up (by repeat' (first | (with_reducible exact Below.refl _ _) | (with_reducible assumption) | (with_reducible refine below_over ?_ _ _) | (with_reducible refine Lw.below_alloc ?_ _) | (with_reducible refine Below.drew ?_) | (with_reducible refine below_drewN ?_ _) | (with_reducible refine Below.setCell ?_ ?_ _) | go_size))).up hb); clear hb; clear d0 d1; clear e0 e1 e2 e3; obtain ⟨e0, e1, e2, e3⟩ := box4 HV9.out.i2)
  all_goals go_ret
  all_goals exact ⟨ret_bs (by first | rfl | (simp [*]; done)), HV9.out.below⟩
set_option maxRecDepth 100000 in
set_option maxHeartbeats 40000000 in
theorem far_01f (x0 x1 x2 x3 : Int) (z0 : -9223372036854775808 ≤ x0 ∧ x0 ≤ 9223372036854775807) (z1 : -9223372036854775808 ≤ x1 ∧ x1 ≤ 9223372036854775807) (z2 : -9223372036854775808 ≤ x2 ∧ x2 ≤ 9223372036854775807) (z3 : -9223372036854775808 ≤ x3 ∧ x3 ≤ 9223372036854775807) (a b : Int) (w : World) (hA : bits .and .i64 a 1 = 0) (hB : bits .and .i64 b 3 = 1) (hf : Wid.fit64 (x0 + x2) = false) :
    Calls Try.prog 3 #[.agg #[.int .i64 x0, .int .i64 x1, .int .i64 x2, .int .i64 x3], .int .i64 a, .int .i64 b] w fun e w' => e = .returned (.bool true) ∧ Below w.heap.size w w' := by
  have CAD := Lib.hid (fun w => add_any x0 x2 w z0.1 z0.2 z2.1 z2.2)
  have h0 := smF0 x0 x1 x2 x3
  obtain ⟨V, hV⟩ : ∃ V, x0 + x2 = V := ⟨_, rfl⟩
  rw [hV] at CAD h0 hf
  rw [hf] at CAD
  obtain ⟨WV, hWV⟩ : ∃ v, wrap64 V = v := ⟨_, rfl⟩
  rw [hWV] at CAD
  have CR : Hid (∀ p F w, ST w p F lF (stF2 x0 x1 x2 x3) → Calls Try.prog 7 #[.pointer (some p), .int .u64 0, .int .u64 2] w fun e w' => e = .returned (.tuple #[.int .i64 0, .int .i64 4]) ∧ Below w.heap.size w w') := Lib.hid (fun p F w hs => by
    have h := tr_F p F x0 x1 x2 x3 0 2 V false [(1, 0), (0, 2)] w hs cvF0 (by decide) (by decide) (by decide) h0 hf
    simp only [if_true, if_false, Bool.false_eq_true, eq_self_iff_true] at h; exact h)
  have CO : Hid (∀ p F w, ST w p F lF (stF2 x0 x1 x2 x3) → Calls Try.prog 7 #[.pointer (some p), .int .u64 1, .int .u64 1] w fun e w' => e = .returned (.tuple #[.int .i64 x1, .int .i64 0]) ∧ Below w.heap.size w w') := Lib.hid (fun p F w hs => by
    have h := tr_F p F x0 x1 x2 x3 1 1 x1 true [(0, 1)] w hs (cov_one 2 1) (by decide) (by decide) (by decide) (smO1 x0 x1 x2 x3) (decide_eq_true (by omega))
    simp only [if_true, if_false, Bool.false_eq_true, eq_self_iff_true] at h; exact h)
  have CL0 := Lib.hid (fun p F g cap w hs hr ha => fl_0 p F x0 x1 x2 x3 z0 z1 z2 z3 g cap w hs hr ha)
  have CL1 := Lib.hid (fun p F g cap w hs hr ha => fl_1 p F x0 x1 x2 x3 z0 z1 z2 z3 g cap w hs hr ha)
  have HBX : Hid (Have w (w.alloc (.cells #[.int .i64 x0, .int .i64 x1, .int .i64 x2, .int .i64 x3] 22)) [boxT w.heap.size 22 #[.int .i64 x0, .int .i64 x1, .int .i64 x2, .int .i64 x3]]) := Lib.hid (box_new w _ _)
  have q1 : wrap64 3 = 3 := IntWalk.wrap64_in _ ⟨by omega, by omega⟩
  have q2 : IntKind.i64.wrap 3 = 3 := IntWalk.i64_in _ ⟨by omega, by omega⟩
  clear h0 hV z0 z1 z2 z3
  go_enter Try.func3, Try.ntmps3
  go_upto_region 12 with (first
    | (go_at_call 7; (with_reducible refine (CR.out p F5 _ (stI HV5.out.i0)).mono ?_); rintro e w6 ⟨rfl, hb⟩; have HV6 := Lib.hid (HV5.out.up hb); clear hb; have hl6 := box_lt HV6.out.i1; clear e0 e1 e2 e3; obtain ⟨e0, e1, e2, e3⟩ := box4 HV6.out.i1)
    | (go_at_call 6; (with_reducible refine (CL1.out p F4 _ _ _ (stI (HV4.out.up (by repeat' (first | (with_reducible exact Below.refl _ _) | (with_reducible assumption) | (with_reducible refine below_over ?_ _ _) | (with_reducible refine Lw.below_alloc ?_ _) | (with_reducible refine Below.drew ?_) | (with_reducible refine below_drewN ?_ _) | (with_reducible refine Below.setCell ?_ ?_ _) | go_size))).i0) (lit2n _ x0 x3) (st_new HV4.out.i0)).mono ?_); rintro e w5 ⟨rfl, F5, h1, h2, h3⟩; have HV5 := Lib.hid ((HV4.out.up (by repeat' (first | (with_reducible exact Below.refl _ _) | (with_reducible assumption) | (with_reducible refine below_over ?_ _ _) | (with_reducible refine Lw.below_alloc ?_ _) | (with_reducible refine Below.drew ?_) | (with_reducible refine below_drewN ?_ _) | (with_reducible refine Below.setCell ?_ ?_ _) | go_size))).turn_0 (stT p F5 lF (stF2 x0 x1 x2 x3)) h1 h2 h3); clear h1 h2 h3; clear e0 e1 e2 e3; obtain ⟨e0, e1, e2, e3⟩ := box4 HV5.out.i1)
    | (go_at_call 6; (with_reducible refine (CL0.out p F _ _ _ (stI HV2.out.i0) (rd4 HV2.out.i1) (apart2 HV2.out)).mono ?_); rintro e w4 ⟨rfl, F4, h1, h2, h3⟩; have HV4 := Lib.hid (HV2.out.turn_0 (stT p F4 lF (stF1 x0 x1 x2 x3)) h1 h2 h3); clear h1 h2 h3; clear e0 e1 e2 e3; obtain ⟨e0, e1, e2, e3⟩ := box4 HV4.out.i1)
    | (go_at_call 5; (with_reducible refine (tn_F _).mono ?_); rintro e w2 ⟨p, F, rfl, hsk, hfr, hb⟩; have HV2 := Lib.hid (HV1.out.push (stT p F lF (stsOf lF [])) hb hsk hfr); clear hsk hfr hb; clear e0 e1 e2 e3; obtain ⟨e0, e1, e2, e3⟩ := box4 HV2.out.i1)
    | (go_at_call 4; (with_reducible refine (shown_any _).mono ?_); rintro e w1 ⟨rfl, hb⟩; have HV1 := Lib.hid (HBX.out.up hb); clear hb; obtain ⟨e0, e1, e2, e3⟩ := box4 HV1.out.i0))
  have HV7 := Lib.hid (HV6.out.push (boxT w6.heap.size 2 #[.int .i64 x0, .int .i64 x2]) (Lw.below_alloc (Below.refl _ _) _) (heap_alloc_new w6 _) (fun k hk => Nat.le_of_eq hk.symm))
  obtain ⟨d0, d1⟩ := box2q HV7.out.i0
  clear e0 e1 e2 e3; obtain ⟨e0, e1, e2, e3⟩ := box4 HV7.out.i2
  go_region_held3 (fun w' => w'.cell? ⟨w6.heap.size, 0, none⟩ = some (.int .i64 x0) ∧ w'.cell? ⟨w6.heap.size, 1, none⟩ = some (.int .i64 x2)) (first | (refine ⟨?_, ?_⟩ <;> (first | (with_reducible assumption) | (with_reducible refine cell_up d0 ?_) | (with_reducible refine cell_up d1 ?_)) <;> (repeat' (first | (with_reducible exact Below.refl _ _) | (with_reducible assumption) | (with_reducible refine below_over ?_ _ _) | (with_reducible refine Lw.below_alloc ?_ _) | (with_reducible refine Below.drew ?_) | (with_reducible refine below_drewN ?_ _) | (with_reducible refine Below.setCell ?_ ?_ _) | go_size)))) (first
    | (go_at_call 8; (with_reducible refine (CAD.out _).mono ?_); rintro e w8 ⟨rfl, hb⟩; obtain ⟨bs8, dd8, rfl⟩ := below_grow hb; clear hb))
  all_goals go_wp2_with (go_at_call 7; (with_reducible refine (CO.out p F5 _ (stI (HV7.out.up (by repeat' (first | (with_reducible exact Below.refl _ _) | (with_reducible assumption) | (with_reducible refine below_over ?_ _ _) | (with_reducible refine Lw.below_alloc ?_ _) | (with_reducible refine Below.drew ?_) | (with_reducible refine below_drewN ?_ _) | (with_reducible refine Below.setCell ?_ ?_ _) | go_size))).i1)).mono ?_); rintro e w9 ⟨rfl, hb⟩; have HV9 := Lib.hid ((HV7.out.up (by repeat' (first | (with_reducible exact Below.refl _ _) | (with_reducible assumption) | (with_reducible refine below_over ?_ _ _) | (with_reducible refine Lw.below_alloc ?_ _) | (with_reducible refine Below.drew ?_) | (with_reducible refine below_drewN ?_ _) | (with_reducible refine Below.setCell ?_ ?_ _) | go_size))).up hb); clear hb; clear d0 d1; clear e0 e1 e2 e3; obtain ⟨e0, e1, e2, e3⟩ := box4 HV9.out.i2)
  all_goals go_ret
  all_goals exact ⟨ret_bs (by first | rfl | (simp [*]; done)), HV9.out.below⟩
set_option maxRecDepth 100000 in
set_option maxHeartbeats 40000000 in
theorem far_02t (x0 x1 x2 x3 : Int) (z0 : -9223372036854775808 ≤ x0 ∧ x0 ≤ 9223372036854775807) (z1 : -9223372036854775808 ≤ x1 ∧ x1 ≤ 9223372036854775807) (z2 : -9223372036854775808 ≤ x2 ∧ x2 ≤ 9223372036854775807) (z3 : -9223372036854775808 ≤ x3 ∧ x3 ≤ 9223372036854775807) (a b : Int) (w : World) (hA : bits .and .i64 a 1 = 0) (hB : bits .and .i64 b 3 = 2) (hf : Wid.fit64 (x0 + x2) = true) :
    Calls Try.prog 3 #[.agg #[.int .i64 x0, .int .i64 x1, .int .i64 x2, .int .i64 x3], .int .i64 a, .int .i64 b] w fun e w' => e = .returned (.bool true) ∧ Below w.heap.size w w' := by
  have CAD := Lib.hid (fun w => add_any x0 x2 w z0.1 z0.2 z2.1 z2.2)
  have h0 := smF0 x0 x1 x2 x3
  obtain ⟨V, hV⟩ : ∃ V, x0 + x2 = V := ⟨_, rfl⟩
  rw [hV] at CAD h0 hf
  rw [hf] at CAD
  rw [show wrap64 V = V from IntWalk.wrap64_in _ (by have := of_decide_eq_true hf; omega)] at CAD
  have CR : Hid (∀ p F w, ST w p F lF (stF2 x0 x1 x2 x3) → Calls Try.prog 7 #[.pointer (some p), .int .u64 0, .int .u64 2] w fun e w' => e = .returned (.tuple #[.int .i64 V, .int .i64 0]) ∧ Below w.heap.size w w') := Lib.hid (fun p F w hs => by
    have h := tr_F p F x0 x1 x2 x3 0 2 V true [(1, 0), (0, 2)] w hs cvF0 (by decide) (by decide) (by decide) h0 hf
    simp only [if_true, if_false, Bool.false_eq_true, eq_self_iff_true] at h; exact h)
  have CO : Hid (∀ p F w, ST w p F lF (stF2 x0 x1 x2 x3) → Calls Try.prog 7 #[.pointer (some p), .int .u64 2, .int .u64 2] w fun e w' => e = .returned (.tuple #[.int .i64 x2, .int .i64 0]) ∧ Below w.heap.size w w') := Lib.hid (fun p F w hs => by
    have h := tr_F p F x0 x1 x2 x3 2 2 x2 true [(0, 2)] w hs (cov_one 2 2) (by decide) (by decide) (by decide) (smO2 x0 x1 x2 x3) (decide_eq_true (by omega))
    simp only [if_true, if_false, Bool.false_eq_true, eq_self_iff_true] at h; exact h)
  have CL0 := Lib.hid (fun p F g cap w hs hr ha => fl_0 p F x0 x1 x2 x3 z0 z1 z2 z3 g cap w hs hr ha)
  have CL1 := Lib.hid (fun p F g cap w hs hr ha => fl_1 p F x0 x1 x2 x3 z0 z1 z2 z3 g cap w hs hr ha)
  have HBX : Hid (Have w (w.alloc (.cells #[.int .i64 x0, .int .i64 x1, .int .i64 x2, .int .i64 x3] 22)) [boxT w.heap.size 22 #[.int .i64 x0, .int .i64 x1, .int .i64 x2, .int .i64 x3]]) := Lib.hid (box_new w _ _)
  have q1 : wrap64 3 = 3 := IntWalk.wrap64_in _ ⟨by omega, by omega⟩
  have q2 : IntKind.i64.wrap 3 = 3 := IntWalk.i64_in _ ⟨by omega, by omega⟩
  clear h0 hV z0 z1 z2 z3
  go_enter Try.func3, Try.ntmps3
  go_upto_region 12 with (first
    | (go_at_call 7; (with_reducible refine (CR.out p F5 _ (stI HV5.out.i0)).mono ?_); rintro e w6 ⟨rfl, hb⟩; have HV6 := Lib.hid (HV5.out.up hb); clear hb; have hl6 := box_lt HV6.out.i1; clear e0 e1 e2 e3; obtain ⟨e0, e1, e2, e3⟩ := box4 HV6.out.i1)
    | (go_at_call 6; (with_reducible refine (CL1.out p F4 _ _ _ (stI (HV4.out.up (by repeat' (first | (with_reducible exact Below.refl _ _) | (with_reducible assumption) | (with_reducible refine below_over ?_ _ _) | (with_reducible refine Lw.below_alloc ?_ _) | (with_reducible refine Below.drew ?_) | (with_reducible refine below_drewN ?_ _) | (with_reducible refine Below.setCell ?_ ?_ _) | go_size))).i0) (lit2n _ x0 x3) (st_new HV4.out.i0)).mono ?_); rintro e w5 ⟨rfl, F5, h1, h2, h3⟩; have HV5 := Lib.hid ((HV4.out.up (by repeat' (first | (with_reducible exact Below.refl _ _) | (with_reducible assumption) | (with_reducible refine below_over ?_ _ _) | (with_reducible refine Lw.below_alloc ?_ _) | (with_reducible refine Below.drew ?_) | (with_reducible refine below_drewN ?_ _) | (with_reducible refine Below.setCell ?_ ?_ _) | go_size))).turn_0 (stT p F5 lF (stF2 x0 x1 x2 x3)) h1 h2 h3); clear h1 h2 h3; clear e0 e1 e2 e3; obtain ⟨e0, e1, e2, e3⟩ := box4 HV5.out.i1)
    | (go_at_call 6; (with_reducible refine (CL0.out p F _ _ _ (stI HV2.out.i0) (rd4 HV2.out.i1) (apart2 HV2.out)).mono ?_); rintro e w4 ⟨rfl, F4, h1, h2, h3⟩; have HV4 := Lib.hid (HV2.out.turn_0 (stT p F4 lF (stF1 x0 x1 x2 x3)) h1 h2 h3); clear h1 h2 h3; clear e0 e1 e2 e3; obtain ⟨e0, e1, e2, e3⟩ := box4 HV4.out.i1)
    | (go_at_call 5; (with_reducible refine (tn_F _).mono ?_); rintro e w2 ⟨p, F, rfl, hsk, hfr, hb⟩; have HV2 := Lib.hid (HV1.out.push (stT p F lF (stsOf lF [])) hb hsk hfr); clear hsk hfr hb; clear e0 e1 e2 e3; obtain ⟨e0, e1, e2, e3⟩ := box4 HV2.out.i1)
    | (go_at_call 4; (with_reducible refine (shown_any _).mono ?_); rintro e w1 ⟨rfl, hb⟩; have HV1 := Lib.hid (HBX.out.up hb); clear hb; obtain ⟨e0, e1, e2, e3⟩ := box4 HV1.out.i0))
  have HV7 := Lib.hid (HV6.out.push (boxT w6.heap.size 2 #[.int .i64 x0, .int .i64 x2]) (Lw.below_alloc (Below.refl _ _) _) (heap_alloc_new w6 _) (fun k hk => Nat.le_of_eq hk.symm))
  obtain ⟨d0, d1⟩ := box2q HV7.out.i0
  clear e0 e1 e2 e3; obtain ⟨e0, e1, e2, e3⟩ := box4 HV7.out.i2
  go_region_held3 (fun w' => w'.cell? ⟨w6.heap.size, 0, none⟩ = some (.int .i64 x0) ∧ w'.cell? ⟨w6.heap.size, 1, none⟩ = some (.int .i64 x2)) (first | (refine ⟨?_, ?_⟩ <;> (first | (with_reducible assumption) | (with_reducible refine cell_up d0 ?_) | (with_reducible refine cell_up d1 ?_)) <;> (repeat' (first | (with_reducible exact Below.refl _ _) | (with_reducible assumption) | (with_reducible refine below_over ?_ _ _) | (with_reducible refine Lw.below_alloc ?_ _) | (with_reducible refine Below.drew ?_) | (with_reducible refine below_drewN ?_ _) | (with_reducible refine Below.setCell ?_ ?_ _) | go_size)))) (first
    | (go_at_call 8; (with_reducible refine (CAD.out _).mono ?_); rintro e w8 ⟨rfl, hb⟩; obtain ⟨bs8, dd8, rfl⟩ := below_grow hb; clear hb))
  all_goals go_wp2_with (go_at_call 7; (with_reducible refine (CO.out p F5 _ (stI (HV7.out.up (by repeat' (first | (with_reducible exact Below.refl _ _) | (with_reducible assumption) | (with_reducible refine below_over ?_ _ _) | (with_reducible refine Lw.below_alloc ?_ _) | (with_reducible refine Below.drew ?_) | (with_reducible refine below_drewN ?_ _) | (with_reducible refine Below.setCell ?_ ?_ _) | go_size))).i1)).mono ?_); rintro e w9 ⟨rfl, hb⟩; have HV9 := Lib.hid ((HV7.out.up (by repeat' (first | (with_reducible exact Below.refl _ _) | (with_reducible assumption) | (with_reducible refine below_over ?_ _ _) | (with_reducible refine Lw.below_alloc ?_ _) | (with_reducible refine Below.drew ?_) | (with_reducible refine below_drewN ?_ _) | (with_reducible refine Below.setCell ?_ ?_ _) | go_size))).up hb); clear hb; clear d0 d1; clear e0 e1 e2 e3; obtain ⟨e0, e1, e2, e3⟩ := box4 HV9.out.i2)
  all_goals go_ret
  all_goals exact ⟨ret_bs (by first | rfl | (simp [*]; done)), HV9.out.below⟩
set_option maxRecDepth 100000 in
set_option maxHeartbeats 40000000 in
theorem far_02f (x0 x1 x2 x3 : Int) (z0 : -9223372036854775808 ≤ x0 ∧ x0 ≤ 9223372036854775807) (z1 : -9223372036854775808 ≤ x1 ∧ x1 ≤ 9223372036854775807) (z2 : -9223372036854775808 ≤ x2 ∧ x2 ≤ 9223372036854775807) (z3 : -9223372036854775808 ≤ x3 ∧ x3 ≤ 9223372036854775807) (a b : Int) (w : World) (hA : bits .and .i64 a 1 = 0) (hB : bits .and .i64 b 3 = 2) (hf : Wid.fit64 (x0 + x2) = false) :
    Calls Try.prog 3 #[.agg #[.int .i64 x0, .int .i64 x1, .int .i64 x2, .int .i64 x3], .int .i64 a, .int .i64 b] w fun e w' => e = .returned (.bool true) ∧ Below w.heap.size w w' := by
  have CAD := Lib.hid (fun w => add_any x0 x2 w z0.1 z0.2 z2.1 z2.2)
  have h0 := smF0 x0 x1 x2 x3
  obtain ⟨V, hV⟩ : ∃ V, x0 + x2 = V := ⟨_, rfl⟩
  rw [hV] at CAD h0 hf
  rw [hf] at CAD
  obtain ⟨WV, hWV⟩ : ∃ v, wrap64 V = v := ⟨_, rfl⟩
  rw [hWV] at CAD
  have CR : Hid (∀ p F w, ST w p F lF (stF2 x0 x1 x2 x3) → Calls Try.prog 7 #[.pointer (some p), .int .u64 0, .int .u64 2] w fun e w' => e = .returned (.tuple #[.int .i64 0, .int .i64 4]) ∧ Below w.heap.size w w') := Lib.hid (fun p F w hs => by
    have h := tr_F p F x0 x1 x2 x3 0 2 V false [(1, 0), (0, 2)] w hs cvF0 (by decide) (by decide) (by decide) h0 hf
    simp only [if_true, if_false, Bool.false_eq_true, eq_self_iff_true] at h; exact h)
  have CO : Hid (∀ p F w, ST w p F lF (stF2 x0 x1 x2 x3) → Calls Try.prog 7 #[.pointer (some p), .int .u64 2, .int .u64 2] w fun e w' => e = .returned (.tuple #[.int .i64 x2, .int .i64 0]) ∧ Below w.heap.size w w') := Lib.hid (fun p F w hs => by
    have h := tr_F p F x0 x1 x2 x3 2 2 x2 true [(0, 2)] w hs (cov_one 2 2) (by decide) (by decide) (by decide) (smO2 x0 x1 x2 x3) (decide_eq_true (by omega))
    simp only [if_true, if_false, Bool.false_eq_true, eq_self_iff_true] at h; exact h)
  have CL0 := Lib.hid (fun p F g cap w hs hr ha => fl_0 p F x0 x1 x2 x3 z0 z1 z2 z3 g cap w hs hr ha)
  have CL1 := Lib.hid (fun p F g cap w hs hr ha => fl_1 p F x0 x1 x2 x3 z0 z1 z2 z3 g cap w hs hr ha)
  have HBX : Hid (Have w (w.alloc (.cells #[.int .i64 x0, .int .i64 x1, .int .i64 x2, .int .i64 x3] 22)) [boxT w.heap.size 22 #[.int .i64 x0, .int .i64 x1, .int .i64 x2, .int .i64 x3]]) := Lib.hid (box_new w _ _)
  have q1 : wrap64 3 = 3 := IntWalk.wrap64_in _ ⟨by omega, by omega⟩
  have q2 : IntKind.i64.wrap 3 = 3 := IntWalk.i64_in _ ⟨by omega, by omega⟩
  clear h0 hV z0 z1 z2 z3
  go_enter Try.func3, Try.ntmps3
  go_upto_region 12 with (first
    | (go_at_call 7; (with_reducible refine (CR.out p F5 _ (stI HV5.out.i0)).mono ?_); rintro e w6 ⟨rfl, hb⟩; have HV6 := Lib.hid (HV5.out.up hb); clear hb; have hl6 := box_lt HV6.out.i1; clear e0 e1 e2 e3; obtain ⟨e0, e1, e2, e3⟩ := box4 HV6.out.i1)
    | (go_at_call 6; (with_reducible refine (CL1.out p F4 _ _ _ (stI (HV4.out.up (by repeat' (first | (with_reducible exact Below.refl _ _) | (with_reducible assumption) | (with_reducible refine below_over ?_ _ _) | (with_reducible refine Lw.below_alloc ?_ _) | (with_reducible refine Below.drew ?_) | (with_reducible refine below_drewN ?_ _) | (with_reducible refine Below.setCell ?_ ?_ _) | go_size))).i0) (lit2n _ x0 x3) (st_new HV4.out.i0)).mono ?_); rintro e w5 ⟨rfl, F5, h1, h2, h3⟩; have HV5 := Lib.hid ((HV4.out.up (by repeat' (first | (with_reducible exact Below.refl _ _) | (with_reducible assumption) | (with_reducible refine below_over ?_ _ _) | (with_reducible refine Lw.below_alloc ?_ _) | (with_reducible refine Below.drew ?_) | (with_reducible refine below_drewN ?_ _) | (with_reducible refine Below.setCell ?_ ?_ _) | go_size))).turn_0 (stT p F5 lF (stF2 x0 x1 x2 x3)) h1 h2 h3); clear h1 h2 h3; clear e0 e1 e2 e3; obtain ⟨e0, e1, e2, e3⟩ := box4 HV5.out.i1)
    | (go_at_call 6; (with_reducible refine (CL0.out p F _ _ _ (stI HV2.out.i0) (rd4 HV2.out.i1) (apart2 HV2.out)).mono ?_); rintro e w4 ⟨rfl, F4, h1, h2, h3⟩; have HV4 := Lib.hid (HV2.out.turn_0 (stT p F4 lF (stF1 x0 x1 x2 x3)) h1 h2 h3); clear h1 h2 h3; clear e0 e1 e2 e3; obtain ⟨e0, e1, e2, e3⟩ := box4 HV4.out.i1)
    | (go_at_call 5; (with_reducible refine (tn_F _).mono ?_); rintro e w2 ⟨p, F, rfl, hsk, hfr, hb⟩; have HV2 := Lib.hid (HV1.out.push (stT p F lF (stsOf lF [])) hb hsk hfr); clear hsk hfr hb; clear e0 e1 e2 e3; obtain ⟨e0, e1, e2, e3⟩ := box4 HV2.out.i1)
    | (go_at_call 4; (with_reducible refine (shown_any _).mono ?_); rintro e w1 ⟨rfl, hb⟩; have HV1 := Lib.hid (HBX.out.up hb); clear hb; obtain ⟨e0, e1, e2, e3⟩ := box4 HV1.out.i0))
  have HV7 := Lib.hid (HV6.out.push (boxT w6.heap.size 2 #[.int .i64 x0, .int .i64 x2]) (Lw.below_alloc (Below.refl _ _) _) (heap_alloc_new w6 _) (fun k hk => Nat.le_of_eq hk.symm))
  obtain ⟨d0, d1⟩ := box2q HV7.out.i0
  clear e0 e1 e2 e3; obtain ⟨e0, e1, e2, e3⟩ := box4 HV7.out.i2
  go_region_held3 (fun w' => w'.cell? ⟨w6.heap.size, 0, none⟩ = some (.int .i64 x0) ∧ w'.cell? ⟨w6.heap.size, 1, none⟩ = some (.int .i64 x2)) (first | (refine ⟨?_, ?_⟩ <;> (first | (with_reducible assumption) | (with_reducible refine cell_up d0 ?_) | (with_reducible refine cell_up d1 ?_)) <;> (repeat' (first | (with_reducible exact Below.refl _ _) | (with_reducible assumption) | (with_reducible refine below_over ?_ _ _) | (with_reducible refine Lw.below_alloc ?_ _) | (with_reducible refine Below.drew ?_) | (with_reducible refine below_drewN ?_ _) | (with_reducible refine Below.setCell ?_ ?_ _) | go_size)))) (first
    | (go_at_call 8; (with_reducible refine (CAD.out _).mono ?_); rintro e w8 ⟨rfl, hb⟩; obtain ⟨bs8, dd8, rfl⟩ := below_grow hb; clear hb))
  all_goals go_wp2_with (go_at_call 7; (with_reducible refine (CO.out p F5 _ (stI (HV7.out.up (by repeat' (first | (with_reducible exact Below.refl _ _) | (with_reducible assumption) | (with_reducible refine below_over ?_ _ _) | (with_reducible refine Lw.below_alloc ?_ _) | (with_reducible refine Below.drew ?_) | (with_reducible refine below_drewN ?_ _) | (with_reducible refine Below.setCell ?_ ?_ _) | go_size))).i1)).mono ?_); rintro e w9 ⟨rfl, hb⟩; have HV9 := Lib.hid ((HV7.out.up (by repeat' (first | (with_reducible exact Below.refl _ _) | (with_reducible assumption) | (with_reducible refine below_over ?_ _ _) | (with_reducible refine Lw.below_alloc ?_ _) | (with_reducible refine Below.drew ?_) | (with_reducible refine below_drewN ?_ _) | (with_reducible refine Below.setCell ?_ ?_ _) | go_size))).up hb); clear hb; clear d0 d1; clear e0 e1 e2 e3; obtain ⟨e0, e1, e2, e3⟩ := box4 HV9.out.i2)
  all_goals go_ret
  all_goals exact ⟨ret_bs (by first | rfl | (simp [*]; done)), HV9.out.below⟩
set_option maxRecDepth 100000 in
set_option maxHeartbeats 40000000 in
theorem far_03t (x0 x1 x2 x3 : Int) (z0 : -9223372036854775808 ≤ x0 ∧ x0 ≤ 9223372036854775807) (z1 : -9223372036854775808 ≤ x1 ∧ x1 ≤ 9223372036854775807) (z2 : -9223372036854775808 ≤ x2 ∧ x2 ≤ 9223372036854775807) (z3 : -9223372036854775808 ≤ x3 ∧ x3 ≤ 9223372036854775807) (a b : Int) (w : World) (hA : bits .and .i64 a 1 = 0) (hB : bits .and .i64 b 3 = 3) (hf : Wid.fit64 (x0 + x2) = true) :
    Calls Try.prog 3 #[.agg #[.int .i64 x0, .int .i64 x1, .int .i64 x2, .int .i64 x3], .int .i64 a, .int .i64 b] w fun e w' => e = .returned (.bool true) ∧ Below w.heap.size w w' := by
  have CAD := Lib.hid (fun w => add_any x0 x2 w z0.1 z0.2 z2.1 z2.2)
  have h0 := smF0 x0 x1 x2 x3
  obtain ⟨V, hV⟩ : ∃ V, x0 + x2 = V := ⟨_, rfl⟩
  rw [hV] at CAD h0 hf
  rw [hf] at CAD
  rw [show wrap64 V = V from IntWalk.wrap64_in _ (by have := of_decide_eq_true hf; omega)] at CAD
  have CR : Hid (∀ p F w, ST w p F lF (stF2 x0 x1 x2 x3) → Calls Try.prog 7 #[.pointer (some p), .int .u64 0, .int .u64 2] w fun e w' => e = .returned (.tuple #[.int .i64 V, .int .i64 0]) ∧ Below w.heap.size w w') := Lib.hid (fun p F w hs => by
    have h := tr_F p F x0 x1 x2 x3 0 2 V true [(1, 0), (0, 2)] w hs cvF0 (by decide) (by decide) (by decide) h0 hf
    simp only [if_true, if_false, Bool.false_eq_true, eq_self_iff_true] at h; exact h)
  have CO : Hid (∀ p F w, ST w p F lF (stF2 x0 x1 x2 x3) → Calls Try.prog 7 #[.pointer (some p), .int .u64 3, .int .u64 3] w fun e w' => e = .returned (.tuple #[.int .i64 x3, .int .i64 0]) ∧ Below w.heap.size w w') := Lib.hid (fun p F w hs => by
    have h := tr_F p F x0 x1 x2 x3 3 3 x3 true [(0, 3)] w hs (cov_one 2 3) (by decide) (by decide) (by decide) (smO3 x0 x1 x2 x3) (decide_eq_true (by omega))
    simp only [if_true, if_false, Bool.false_eq_true, eq_self_iff_true] at h; exact h)
  have CL0 := Lib.hid (fun p F g cap w hs hr ha => fl_0 p F x0 x1 x2 x3 z0 z1 z2 z3 g cap w hs hr ha)
  have CL1 := Lib.hid (fun p F g cap w hs hr ha => fl_1 p F x0 x1 x2 x3 z0 z1 z2 z3 g cap w hs hr ha)
  have HBX : Hid (Have w (w.alloc (.cells #[.int .i64 x0, .int .i64 x1, .int .i64 x2, .int .i64 x3] 22)) [boxT w.heap.size 22 #[.int .i64 x0, .int .i64 x1, .int .i64 x2, .int .i64 x3]]) := Lib.hid (box_new w _ _)
  have q1 : wrap64 3 = 3 := IntWalk.wrap64_in _ ⟨by omega, by omega⟩
  have q2 : IntKind.i64.wrap 3 = 3 := IntWalk.i64_in _ ⟨by omega, by omega⟩
  clear h0 hV z0 z1 z2 z3
  go_enter Try.func3, Try.ntmps3
  go_upto_region 12 with (first
    | (go_at_call 7; (with_reducible refine (CR.out p F5 _ (stI HV5.out.i0)).mono ?_); rintro e w6 ⟨rfl, hb⟩; have HV6 := Lib.hid (HV5.out.up hb); clear hb; have hl6 := box_lt HV6.out.i1; clear e0 e1 e2 e3; obtain ⟨e0, e1, e2, e3⟩ := box4 HV6.out.i1)
    | (go_at_call 6; (with_reducible refine (CL1.out p F4 _ _ _ (stI (HV4.out.up (by repeat' (first | (with_reducible exact Below.refl _ _) | (with_reducible assumption) | (with_reducible refine below_over ?_ _ _) | (with_reducible refine Lw.below_alloc ?_ _) | (with_reducible refine Below.drew ?_) | (with_reducible refine below_drewN ?_ _) | (with_reducible refine Below.setCell ?_ ?_ _) | go_size))).i0) (lit2n _ x0 x3) (st_new HV4.out.i0)).mono ?_); rintro e w5 ⟨rfl, F5, h1, h2, h3⟩; have HV5 := Lib.hid ((HV4.out.up (by repeat' (first | (with_reducible exact Below.refl _ _) | (with_reducible assumption) | (with_reducible refine below_over ?_ _ _) | (with_reducible refine Lw.below_alloc ?_ _) | (with_reducible refine Below.drew ?_) | (with_reducible refine below_drewN ?_ _) | (with_reducible refine Below.setCell ?_ ?_ _) | go_size))).turn_0 (stT p F5 lF (stF2 x0 x1 x2 x3)) h1 h2 h3); clear h1 h2 h3; clear e0 e1 e2 e3; obtain ⟨e0, e1, e2, e3⟩ := box4 HV5.out.i1)
    | (go_at_call 6; (with_reducible refine (CL0.out p F _ _ _ (stI HV2.out.i0) (rd4 HV2.out.i1) (apart2 HV2.out)).mono ?_); rintro e w4 ⟨rfl, F4, h1, h2, h3⟩; have HV4 := Lib.hid (HV2.out.turn_0 (stT p F4 lF (stF1 x0 x1 x2 x3)) h1 h2 h3); clear h1 h2 h3; clear e0 e1 e2 e3; obtain ⟨e0, e1, e2, e3⟩ := box4 HV4.out.i1)
    | (go_at_call 5; (with_reducible refine (tn_F _).mono ?_); rintro e w2 ⟨p, F, rfl, hsk, hfr, hb⟩; have HV2 := Lib.hid (HV1.out.push (stT p F lF (stsOf lF [])) hb hsk hfr); clear hsk hfr hb; clear e0 e1 e2 e3; obtain ⟨e0, e1, e2, e3⟩ := box4 HV2.out.i1)
    | (go_at_call 4; (with_reducible refine (shown_any _).mono ?_); rintro e w1 ⟨rfl, hb⟩; have HV1 := Lib.hid (HBX.out.up hb); clear hb; obtain ⟨e0, e1, e2, e3⟩ := box4 HV1.out.i0))
  have HV7 := Lib.hid (HV6.out.push (boxT w6.heap.size 2 #[.int .i64 x0, .int .i64 x2]) (Lw.below_alloc (Below.refl _ _) _) (heap_alloc_new w6 _) (fun k hk => Nat.le_of_eq hk.symm))
  obtain ⟨d0, d1⟩ := box2q HV7.out.i0
  clear e0 e1 e2 e3; obtain ⟨e0, e1, e2, e3⟩ := box4 HV7.out.i2
  go_region_held3 (fun w' => w'.cell? ⟨w6.heap.size, 0, none⟩ = some (.int .i64 x0) ∧ w'.cell? ⟨w6.heap.size, 1, none⟩ = some (.int .i64 x2)) (first | (refine ⟨?_, ?_⟩ <;> (first | (with_reducible assumption) | (with_reducible refine cell_up d0 ?_) | (with_reducible refine cell_up d1 ?_)) <;> (repeat' (first | (with_reducible exact Below.refl _ _) | (with_reducible assumption) | (with_reducible refine below_over ?_ _ _) | (with_reducible refine Lw.below_alloc ?_ _) | (with_reducible refine Below.drew ?_) | (with_reducible refine below_drewN ?_ _) | (with_reducible refine Below.setCell ?_ ?_ _) | go_size)))) (first
    | (go_at_call 8; (with_reducible refine (CAD.out _).mono ?_); rintro e w8 ⟨rfl, hb⟩; obtain ⟨bs8, dd8, rfl⟩ := below_grow hb; clear hb))
  all_goals go_wp2_with (go_at_call 7; (with_reducible refine (CO.out p F5 _ (stI (HV7.out.up (by repeat' (first | (with_reducible exact Below.refl _ _) | (with_reducible assumption) | (with_reducible refine below_over ?_ _ _) | (with_reducible refine Lw.below_alloc ?_ _) | (with_reducible refine Below.drew ?_) | (with_reducible refine below_drewN ?_ _) | (with_reducible refine Below.setCell ?_ ?_ _) | go_size))).i1)).mono ?_); rintro e w9 ⟨rfl, hb⟩; have HV9 := Lib.hid ((HV7.out.up (by repeat' (first | (with_reducible exact Below.refl _ _) | (with_reducible assumption) | (with_reducible refine below_over ?_ _ _) | (with_reducible refine Lw.below_alloc ?_ _) | (with_reducible refine Below.drew ?_) | (with_reducible refine below_drewN ?_ _) | (with_reducible refine Below.setCell ?_ ?_ _) | go_size))).up hb); clear hb; clear d0 d1; clear e0 e1 e2 e3; obtain ⟨e0, e1, e2, e3⟩ := box4 HV9.out.i2)
  all_goals go_ret
  all_goals exact ⟨ret_bs (by first | rfl | (simp [*]; done)), HV9.out.below⟩
set_option maxRecDepth 100000 in
set_option maxHeartbeats 40000000 in
theorem far_03f (x0 x1 x2 x3 : Int) (z0 : -9223372036854775808 ≤ x0 ∧ x0 ≤ 9223372036854775807) (z1 : -9223372036854775808 ≤ x1 ∧ x1 ≤ 9223372036854775807) (z2 : -9223372036854775808 ≤ x2 ∧ x2 ≤ 9223372036854775807) (z3 : -9223372036854775808 ≤ x3 ∧ x3 ≤ 9223372036854775807) (a b : Int) (w : World) (hA : bits .and .i64 a 1 = 0) (hB : bits .and .i64 b 3 = 3) (hf : Wid.fit64 (x0 + x2) = false) :
    Calls Try.prog 3 #[.agg #[.int .i64 x0, .int .i64 x1, .int .i64 x2, .int .i64 x3], .int .i64 a, .int .i64 b] w fun e w' => e = .returned (.bool true) ∧ Below w.heap.size w w' := by
  have CAD := Lib.hid (fun w => add_any x0 x2 w z0.1 z0.2 z2.1 z2.2)
  have h0 := smF0 x0 x1 x2 x3
  obtain ⟨V, hV⟩ : ∃ V, x0 + x2 = V := ⟨_, rfl⟩
  rw [hV] at CAD h0 hf
  rw [hf] at CAD
  obtain ⟨WV, hWV⟩ : ∃ v, wrap64 V = v := ⟨_, rfl⟩
  rw [hWV] at CAD
  have CR : Hid (∀ p F w, ST w p F lF (stF2 x0 x1 x2 x3) → Calls Try.prog 7 #[.pointer (some p), .int .u64 0, .int .u64 2] w fun e w' => e = .returned (.tuple #[.int .i64 0, .int .i64 4]) ∧ Below w.heap.size w w') := Lib.hid (fun p F w hs => by
    have h := tr_F p F x0 x1 x2 x3 0 2 V false [(1, 0), (0, 2)] w hs cvF0 (by decide) (by decide) (by decide) h0 hf
    simp only [if_true, if_false, Bool.false_eq_true, eq_self_iff_true] at h; exact h)
  have CO : Hid (∀ p F w, ST w p F lF (stF2 x0 x1 x2 x3) → Calls Try.prog 7 #[.pointer (some p), .int .u64 3, .int .u64 3] w fun e w' => e = .returned (.tuple #[.int .i64 x3, .int .i64 0]) ∧ Below w.heap.size w w') := Lib.hid (fun p F w hs => by
    have h := tr_F p F x0 x1 x2 x3 3 3 x3 true [(0, 3)] w hs (cov_one 2 3) (by decide) (by decide) (by decide) (smO3 x0 x1 x2 x3) (decide_eq_true (by omega))
    simp only [if_true, if_false, Bool.false_eq_true, eq_self_iff_true] at h; exact h)
  have CL0 := Lib.hid (fun p F g cap w hs hr ha => fl_0 p F x0 x1 x2 x3 z0 z1 z2 z3 g cap w hs hr ha)
  have CL1 := Lib.hid (fun p F g cap w hs hr ha => fl_1 p F x0 x1 x2 x3 z0 z1 z2 z3 g cap w hs hr ha)
  have HBX : Hid (Have w (w.alloc (.cells #[.int .i64 x0, .int .i64 x1, .int .i64 x2, .int .i64 x3] 22)) [boxT w.heap.size 22 #[.int .i64 x0, .int .i64 x1, .int .i64 x2, .int .i64 x3]]) := Lib.hid (box_new w _ _)
  have q1 : wrap64 3 = 3 := IntWalk.wrap64_in _ ⟨by omega, by omega⟩
  have q2 : IntKind.i64.wrap 3 = 3 := IntWalk.i64_in _ ⟨by omega, by omega⟩
  clear h0 hV z0 z1 z2 z3
  go_enter Try.func3, Try.ntmps3
  go_upto_region 12 with (first
    | (go_at_call 7; (with_reducible refine (CR.out p F5 _ (stI HV5.out.i0)).mono ?_); rintro e w6 ⟨rfl, hb⟩; have HV6 := Lib.hid (HV5.out.up hb); clear hb; have hl6 := box_lt HV6.out.i1; clear e0 e1 e2 e3; obtain ⟨e0, e1, e2, e3⟩ := box4 HV6.out.i1)
    | (go_at_call 6; (with_reducible refine (CL1.out p F4 _ _ _ (stI (HV4.out.up (by repeat' (first | (with_reducible exact Below.refl _ _) | (with_reducible assumption) | (with_reducible refine below_over ?_ _ _) | (with_reducible refine Lw.below_alloc ?_ _) | (with_reducible refine Below.drew ?_) | (with_reducible refine below_drewN ?_ _) | (with_reducible refine Below.setCell ?_ ?_ _) | go_size))).i0) (lit2n _ x0 x3) (st_new HV4.out.i0)).mono ?_); rintro e w5 ⟨rfl, F5, h1, h2, h3⟩; have HV5 := Lib.hid ((HV4.out.up (by repeat' (first | (with_reducible exact Below.refl _ _) | (with_reducible assumption) | (with_reducible refine below_over ?_ _ _) | (with_reducible refine Lw.below_alloc ?_ _) | (with_reducible refine Below.drew ?_) | (with_reducible refine below_drewN ?_ _) | (with_reducible refine Below.setCell ?_ ?_ _) | go_size))).turn_0 (stT p F5 lF (stF2 x0 x1 x2 x3)) h1 h2 h3); clear h1 h2 h3; clear e0 e1 e2 e3; obtain ⟨e0, e1, e2, e3⟩ := box4 HV5.out.i1)
    | (go_at_call 6; (with_reducible refine (CL0.out p F _ _ _ (stI HV2.out.i0) (rd4 HV2.out.i1) (apart2 HV2.out)).mono ?_); rintro e w4 ⟨rfl, F4, h1, h2, h3⟩; have HV4 := Lib.hid (HV2.out.turn_0 (stT p F4 lF (stF1 x0 x1 x2 x3)) h1 h2 h3); clear h1 h2 h3; clear e0 e1 e2 e3; obtain ⟨e0, e1, e2, e3⟩ := box4 HV4.out.i1)
    | (go_at_call 5; (with_reducible refine (tn_F _).mono ?_); rintro e w2 ⟨p, F, rfl, hsk, hfr, hb⟩; have HV2 := Lib.hid (HV1.out.push (stT p F lF (stsOf lF [])) hb hsk hfr); clear hsk hfr hb; clear e0 e1 e2 e3; obtain ⟨e0, e1, e2, e3⟩ := box4 HV2.out.i1)
    | (go_at_call 4; (with_reducible refine (shown_any _).mono ?_); rintro e w1 ⟨rfl, hb⟩; have HV1 := Lib.hid (HBX.out.up hb); clear hb; obtain ⟨e0, e1, e2, e3⟩ := box4 HV1.out.i0))
  have HV7 := Lib.hid (HV6.out.push (boxT w6.heap.size 2 #[.int .i64 x0, .int .i64 x2]) (Lw.below_alloc (Below.refl _ _) _) (heap_alloc_new w6 _) (fun k hk => Nat.le_of_eq hk.symm))
  obtain ⟨d0, d1⟩ := box2q HV7.out.i0
  clear e0 e1 e2 e3; obtain ⟨e0, e1, e2, e3⟩ := box4 HV7.out.i2
  go_region_held3 (fun w' => w'.cell? ⟨w6.heap.size, 0, none⟩ = some (.int .i64 x0) ∧ w'.cell? ⟨w6.heap.size, 1, none⟩ = some (.int .i64 x2)) (first | (refine ⟨?_, ?_⟩ <;> (first | (with_reducible assumption) | (with_reducible refine cell_up d0 ?_) | (with_reducible refine cell_up d1 ?_)) <;> (repeat' (first | (with_reducible exact Below.refl _ _) | (with_reducible assumption) | (with_reducible refine below_over ?_ _ _) | (with_reducible refine Lw.below_alloc ?_ _) | (with_reducible refine Below.drew ?_) | (with_reducible refine below_drewN ?_ _) | (with_reducible refine Below.setCell ?_ ?_ _) | go_size)))) (first
    | (go_at_call 8; (with_reducible refine (CAD.out _).mono ?_); rintro e w8 ⟨rfl, hb⟩; obtain ⟨bs8, dd8, rfl⟩ := below_grow hb; clear hb))
  all_goals go_wp2_with (go_at_call 7; (with_reducible refine (CO.out p F5 _ (stI (HV7.out.up (by repeat' (first | (with_reducible exact Below.refl _ _) | (with_reducible assumption) | (with_reducible refine below_over ?_ _ _) | (with_reducible refine Lw.below_alloc ?_ _) | (with_reducible refine Below.drew ?_) | (with_reducible refine below_drewN ?_ _) | (with_reducible refine Below.setCell ?_ ?_ _) | go_size))).i1)).mono ?_); rintro e w9 ⟨rfl, hb⟩; have HV9 := Lib.hid ((HV7.out.up (by repeat' (first | (with_reducible exact Below.refl _ _) | (with_reducible assumption) | (with_reducible refine below_over ?_ _ _) | (with_reducible refine Lw.below_alloc ?_ _) | (with_reducible refine Below.drew ?_) | (with_reducible refine below_drewN ?_ _) | (with_reducible refine Below.setCell ?_ ?_ _) | go_size))).up hb); clear hb; clear d0 d1; clear e0 e1 e2 e3; obtain ⟨e0, e1, e2, e3⟩ := box4 HV9.out.i2)
  all_goals go_ret
  all_goals exact ⟨ret_bs (by first | rfl | (simp [*]; done)), HV9.out.below⟩
set_option maxRecDepth 100000 in
set_option maxHeartbeats 40000000 in
theorem far_10t (x0 x1 x2 x3 : Int) (z0 : -9223372036854775808 ≤ x0 ∧ x0 ≤ 9223372036854775807) (z1 : -9223372036854775808 ≤ x1 ∧ x1 ≤ 9223372036854775807) (z2 : -9223372036854775808 ≤ x2 ∧ x2 ≤ 9223372036854775807) (z3 : -9223372036854775808 ≤ x3 ∧ x3 ≤ 9223372036854775807) (a b : Int) (w : World) (hA : bits .and .i64 a 1 = 1) (hB : bits .and .i64 b 3 = 0) (hf : Wid.fit64 (x1 + x3) = true) :
    Calls Try.prog 3 #[.agg #[.int .i64 x0, .int .i64 x1, .int .i64 x2, .int .i64 x3], .int .i64 a, .int .i64 b] w fun e w' => e = .returned (.bool true) ∧ Below w.heap.size w w' := by
  have CAD := Lib.hid (fun w => add_any x1 x3 w z1.1 z1.2 z3.1 z3.2)
  have h0 := smF1 x0 x1 x2 x3
  obtain ⟨V, hV⟩ : ∃ V, x1 + x3 = V := ⟨_, rfl⟩
  rw [hV] at CAD h0 hf
  rw [hf] at CAD
  rw [show wrap64 V = V from IntWalk.wrap64_in _ (by have := of_decide_eq_true hf; omega)] at CAD
  have CR : Hid (∀ p F w, ST w p F lF (stF2 x0 x1 x2 x3) → Calls Try.prog 7 #[.pointer (some p), .int .u64 1, .int .u64 3] w fun e w' => e = .returned (.tuple #[.int .i64 V, .int .i64 0]) ∧ Below w.heap.size w w') := Lib.hid (fun p F w hs => by
    have h := tr_F p F x0 x1 x2 x3 1 3 V true [(0, 1), (1, 1)] w hs cvF1 (by decide) (by decide) (by decide) h0 hf
    simp only [if_true, if_false, Bool.false_eq_true, eq_self_iff_true] at h; exact h)
  have CO : Hid (∀ p F w, ST w p F lF (stF2 x0 x1 x2 x3) → Calls Try.prog 7 #[.pointer (some p), .int .u64 0, .int .u64 0] w fun e w' => e = .returned (.tuple #[.int .i64 x0, .int .i64 0]) ∧ Below w.heap.size w w') := Lib.hid (fun p F w hs => by
    have h := tr_F p F x0 x1 x2 x3 0 0 x0 true [(0, 0)] w hs (cov_one 2 0) (by decide) (by decide) (by decide) (smO0 x0 x1 x2 x3) (decide_eq_true (by omega))
    simp only [if_true, if_false, Bool.false_eq_true, eq_self_iff_true] at h; exact h)
  have CL0 := Lib.hid (fun p F g cap w hs hr ha => fl_0 p F x0 x1 x2 x3 z0 z1 z2 z3 g cap w hs hr ha)
  have CL1 := Lib.hid (fun p F g cap w hs hr ha => fl_1 p F x0 x1 x2 x3 z0 z1 z2 z3 g cap w hs hr ha)
  have HBX : Hid (Have w (w.alloc (.cells #[.int .i64 x0, .int .i64 x1, .int .i64 x2, .int .i64 x3] 22)) [boxT w.heap.size 22 #[.int .i64 x0, .int .i64 x1, .int .i64 x2, .int .i64 x3]]) := Lib.hid (box_new w _ _)
  have q1 : wrap64 3 = 3 := IntWalk.wrap64_in _ ⟨by omega, by omega⟩
  have q2 : IntKind.i64.wrap 3 = 3 := IntWalk.i64_in _ ⟨by omega, by omega⟩
  clear h0 hV z0 z1 z2 z3
  go_enter Try.func3, Try.ntmps3
  go_upto_region 12 with (first
    | (go_at_call 7; (with_reducible refine (CR.out p F5 _ (stI HV5.out.i0)).mono ?_); rintro e w6 ⟨rfl, hb⟩; have HV6 := Lib.hid (HV5.out.up hb); clear hb; have hl6 := box_lt HV6.out.i1; clear e0 e1 e2 e3; obtain ⟨e0, e1, e2, e3⟩ := box4 HV6.out.i1)
    | (go_at_call 6; (with_reducible refine (CL1.out p F4 _ _ _ (stI (HV4.out.up (by repeat' (first | (with_reducible exact Below.refl _ _) | (with_reducible assumption) | (with_reducible refine below_over ?_ _ _) | (with_reducible refine Lw.below_alloc ?_ _) | (with_reducible refine Below.drew ?_) | (with_reducible refine below_drewN ?_ _) | (with_reducible refine Below.setCell ?_ ?_ _) | go_size))).i0) (lit2n _ x0 x3) (st_new HV4.out.i0)).mono ?_); rintro e w5 ⟨rfl, F5, h1, h2, h3⟩; have HV5 := Lib.hid ((HV4.out.up (by repeat' (first | (with_reducible exact Below.refl _ _) | (with_reducible assumption) | (with_reducible refine below_over ?_ _ _) | (with_reducible refine Lw.below_alloc ?_ _) | (with_reducible refine Below.drew ?_) | (with_reducible refine below_drewN ?_ _) | (with_reducible refine Below.setCell ?_ ?_ _) | go_size))).turn_0 (stT p F5 lF (stF2 x0 x1 x2 x3)) h1 h2 h3); clear h1 h2 h3; clear e0 e1 e2 e3; obtain ⟨e0, e1, e2, e3⟩ := box4 HV5.out.i1)
    | (go_at_call 6; (with_reducible refine (CL0.out p F _ _ _ (stI HV2.out.i0) (rd4 HV2.out.i1) (apart2 HV2.out)).mono ?_); rintro e w4 ⟨rfl, F4, h1, h2, h3⟩; have HV4 := Lib.hid (HV2.out.turn_0 (stT p F4 lF (stF1 x0 x1 x2 x3)) h1 h2 h3); clear h1 h2 h3; clear e0 e1 e2 e3; obtain ⟨e0, e1, e2, e3⟩ := box4 HV4.out.i1)
    | (go_at_call 5; (with_reducible refine (tn_F _).mono ?_); rintro e w2 ⟨p, F, rfl, hsk, hfr, hb⟩; have HV2 := Lib.hid (HV1.out.push (stT p F lF (stsOf lF [])) hb hsk hfr); clear hsk hfr hb; clear e0 e1 e2 e3; obtain ⟨e0, e1, e2, e3⟩ := box4 HV2.out.i1)
    | (go_at_call 4; (with_reducible refine (shown_any _).mono ?_); rintro e w1 ⟨rfl, hb⟩; have HV1 := Lib.hid (HBX.out.up hb); clear hb; obtain ⟨e0, e1, e2, e3⟩ := box4 HV1.out.i0))
  have HV7 := Lib.hid ((HV6.out.up (Lw.below_alloc (Below.refl _ _) (.cells #[.int .i64 x0, .int .i64 x2] 2))).push (boxT (w6.alloc (.cells #[.int .i64 x0, .int .i64 x2] 2)).heap.size 2 #[.int .i64 x1, .int .i64 x3]) (Lw.below_alloc (Below.refl _ _) _) (heap_alloc_new (w6.alloc (.cells #[.int .i64 x0, .int .i64 x2] 2)) _) (fun k hk => Nat.le_of_eq hk.symm))
  rw [show (w6.alloc (.cells #[.int .i64 x0, .int .i64 x2] 2)).heap.size = w6.heap.size + 1 by simp [go_sem]] at HV7
  obtain ⟨d0, d1⟩ := box2q HV7.out.i0
  clear e0 e1 e2 e3; obtain ⟨e0, e1, e2, e3⟩ := box4 HV7.out.i2
  go_region_held3 (fun w' => w'.cell? ⟨(w6.heap.size + 1), 0, none⟩ = some (.int .i64 x1) ∧ w'.cell? ⟨(w6.heap.size + 1), 1, none⟩ = some (.int .i64 x3)) (first | (refine ⟨?_, ?_⟩ <;> (first | (with_reducible assumption) | (with_reducible refine cell_up d0 ?_) | (with_reducible refine cell_up d1 ?_)) <;> (repeat' (first | (with_reducible exact Below.refl _ _) | (with_reducible assumption) | (with_reducible refine below_over ?_ _ _) | (with_reducible refine Lw.below_alloc ?_ _) | (with_reducible refine Below.drew ?_) | (with_reducible refine below_drewN ?_ _) | (with_reducible refine Below.setCell ?_ ?_ _) | go_size)))) (first
    | (go_at_call 8; (with_reducible refine (CAD.out _).mono ?_); rintro e w8 ⟨rfl, hb⟩; obtain ⟨bs8, dd8, rfl⟩ := below_grow hb; clear hb))
  all_goals go_wp2_with (go_at_call 7; (with_reducible refine (CO.out p F5 _ (stI (HV7.out.up (by repeat' (first | (with_reducible exact Below.refl _ _) | (with_reducible assumption) | (with_reducible refine below_over ?_ _ _) | (with_reducible refine Lw.below_alloc ?_ _) | (with_reducible refine Below.drew ?_) | (with_reducible refine below_drewN ?_ _) | (with_reducible refine Below.setCell ?_ ?_ _) | go_size))).i1)).mono ?_); rintro e w9 ⟨rfl, hb⟩; have HV9 := Lib.hid ((HV7.out.up (by repeat' (first | (with_reducible exact Below.refl _ _) | (with_reducible assumption) | (with_reducible refine below_over ?_ _ _) | (with_reducible refine Lw.below_alloc ?_ _) | (with_reducible refine Below.drew ?_) | (with_reducible refine below_drewN ?_ _) | (with_reducible refine Below.setCell ?_ ?_ _) | go_size))).up hb); clear hb; clear d0 d1; clear e0 e1 e2 e3; obtain ⟨e0, e1, e2, e3⟩ := box4 HV9.out.i2)
  all_goals go_ret
  all_goals exact ⟨ret_bs (by first | rfl | (simp [*]; done)), HV9.out.below⟩
set_option maxRecDepth 100000 in
set_option maxHeartbeats 40000000 in
theorem far_10f (x0 x1 x2 x3 : Int) (z0 : -9223372036854775808 ≤ x0 ∧ x0 ≤ 9223372036854775807) (z1 : -9223372036854775808 ≤ x1 ∧ x1 ≤ 9223372036854775807) (z2 : -9223372036854775808 ≤ x2 ∧ x2 ≤ 9223372036854775807) (z3 : -9223372036854775808 ≤ x3 ∧ x3 ≤ 9223372036854775807) (a b : Int) (w : World) (hA : bits .and .i64 a 1 = 1) (hB : bits .and .i64 b 3 = 0) (hf : Wid.fit64 (x1 + x3) = false) :
    Calls Try.prog 3 #[.agg #[.int .i64 x0, .int .i64 x1, .int .i64 x2, .int .i64 x3], .int .i64 a, .int .i64 b] w fun e w' => e = .returned (.bool true) ∧ Below w.heap.size w w' := by
  have CAD := Lib.hid (fun w => add_any x1 x3 w z1.1 z1.2 z3.1 z3.2)
  have h0 := smF1 x0 x1 x2 x3
  obtain ⟨V, hV⟩ : ∃ V, x1 + x3 = V := ⟨_, rfl⟩
  rw [hV] at CAD h0 hf
  rw [hf] at CAD
  obtain ⟨WV, hWV⟩ : ∃ v, wrap64 V = v := ⟨_, rfl⟩
  rw [hWV] at CAD
  have CR : Hid (∀ p F w, ST w p F lF (stF2 x0 x1 x2 x3) → Calls Try.prog 7 #[.pointer (some p), .int .u64 1, .int .u64 3] w fun e w' => e = .returned (.tuple #[.int .i64 0, .int .i64 4]) ∧ Below w.heap.size w w') := Lib.hid (fun p F w hs => by
    have h := tr_F p F x0 x1 x2 x3 1 3 V false [(0, 1), (1, 1)] w hs cvF1 (by decide) (by decide) (by decide) h0 hf
    simp only [if_true, if_false, Bool.false_eq_true, eq_self_iff_true] at h; exact h)
  have CO : Hid (∀ p F w, ST w p F lF (stF2 x0 x1 x2 x3) → Calls Try.prog 7 #[.pointer (some p), .int .u64 0, .int .u64 0] w fun e w' => e = .returned (.tuple #[.int .i64 x0, .int .i64 0]) ∧ Below w.heap.size w w') := Lib.hid (fun p F w hs => by
    have h := tr_F p F x0 x1 x2 x3 0 0 x0 true [(0, 0)] w hs (cov_one 2 0) (by decide) (by decide) (by decide) (smO0 x0 x1 x2 x3) (decide_eq_true (by omega))
    simp only [if_true, if_false, Bool.false_eq_true, eq_self_iff_true] at h; exact h)
  have CL0 := Lib.hid (fun p F g cap w hs hr ha => fl_0 p F x0 x1 x2 x3 z0 z1 z2 z3 g cap w hs hr ha)
  have CL1 := Lib.hid (fun p F g cap w hs hr ha => fl_1 p F x0 x1 x2 x3 z0 z1 z2 z3 g cap w hs hr ha)
  have HBX : Hid (Have w (w.alloc (.cells #[.int .i64 x0, .int .i64 x1, .int .i64 x2, .int .i64 x3] 22)) [boxT w.heap.size 22 #[.int .i64 x0, .int .i64 x1, .int .i64 x2, .int .i64 x3]]) := Lib.hid (box_new w _ _)
  have q1 : wrap64 3 = 3 := IntWalk.wrap64_in _ ⟨by omega, by omega⟩
  have q2 : IntKind.i64.wrap 3 = 3 := IntWalk.i64_in _ ⟨by omega, by omega⟩
  clear h0 hV z0 z1 z2 z3
  go_enter Try.func3, Try.ntmps3
  go_upto_region 12 with (first
    | (go_at_call 7; (with_reducible refine (CR.out p F5 _ (stI HV5.out.i0)).mono ?_); rintro e w6 ⟨rfl, hb⟩; have HV6 := Lib.hid (HV5.out.up hb); clear hb; have hl6 := box_lt HV6.out.i1; clear e0 e1 e2 e3; obtain ⟨e0, e1, e2, e3⟩ := box4 HV6.out.i1)
    | (go_at_call 6; (with_reducible refine (CL1.out p F4 _ _ _ (stI (HV4.out.up (by repeat' (first | (with_reducible exact Below.refl _ _) | (with_reducible assumption) | (with_reducible refine below_over ?_ _ _) | (with_reducible refine Lw.below_alloc ?_ _) | (with_reducible refine Below.drew ?_) | (with_reducible refine below_drewN ?_ _) | (with_reducible refine Below.setCell ?_ ?_ _) | go_size))).i0) (lit2n _ x0 x3) (st_new HV4.out.i0)).mono ?_); rintro e w5 ⟨rfl, F5, h1, h2, h3⟩; have HV5 := Lib.hid ((HV4.out.up (by repeat' (first | (with_reducible exact Below.refl _ _) | (with_reducible assumption) | (with_reducible refine below_over ?_ _ _) | (with_reducible refine Lw.below_alloc ?_ _) | (with_reducible refine Below.drew ?_) | (with_reducible refine below_drewN ?_ _) | (with_reducible refine Below.setCell ?_ ?_ _) | go_size))).turn_0 (stT p F5 lF (stF2 x0 x1 x2 x3)) h1 h2 h3); clear h1 h2 h3; clear e0 e1 e2 e3; obtain ⟨e0, e1, e2, e3⟩ := box4 HV5.out.i1)
    | (go_at_call 6; (with_reducible refine (CL0.out p F _ _ _ (stI HV2.out.i0) (rd4 HV2.out.i1) (apart2 HV2.out)).mono ?_); rintro e w4 ⟨rfl, F4, h1, h2, h3⟩; have HV4 := Lib.hid (HV2.out.turn_0 (stT p F4 lF (stF1 x0 x1 x2 x3)) h1 h2 h3); clear h1 h2 h3; clear e0 e1 e2 e3; obtain ⟨e0, e1, e2, e3⟩ := box4 HV4.out.i1)
    | (go_at_call 5; (with_reducible refine (tn_F _).mono ?_); rintro e w2 ⟨p, F, rfl, hsk, hfr, hb⟩; have HV2 := Lib.hid (HV1.out.push (stT p F lF (stsOf lF [])) hb hsk hfr); clear hsk hfr hb; clear e0 e1 e2 e3; obtain ⟨e0, e1, e2, e3⟩ := box4 HV2.out.i1)
    | (go_at_call 4; (with_reducible refine (shown_any _).mono ?_); rintro e w1 ⟨rfl, hb⟩; have HV1 := Lib.hid (HBX.out.up hb); clear hb; obtain ⟨e0, e1, e2, e3⟩ := box4 HV1.out.i0))
  have HV7 := Lib.hid ((HV6.out.up (Lw.below_alloc (Below.refl _ _) (.cells #[.int .i64 x0, .int .i64 x2] 2))).push (boxT (w6.alloc (.cells #[.int .i64 x0, .int .i64 x2] 2)).heap.size 2 #[.int .i64 x1, .int .i64 x3]) (Lw.below_alloc (Below.refl _ _) _) (heap_alloc_new (w6.alloc (.cells #[.int .i64 x0, .int .i64 x2] 2)) _) (fun k hk => Nat.le_of_eq hk.symm))
  rw [show (w6.alloc (.cells #[.int .i64 x0, .int .i64 x2] 2)).heap.size = w6.heap.size + 1 by simp [go_sem]] at HV7
  obtain ⟨d0, d1⟩ := box2q HV7.out.i0
  clear e0 e1 e2 e3; obtain ⟨e0, e1, e2, e3⟩ := box4 HV7.out.i2
  go_region_held3 (fun w' => w'.cell? ⟨(w6.heap.size + 1), 0, none⟩ = some (.int .i64 x1) ∧ w'.cell? ⟨(w6.heap.size + 1), 1, none⟩ = some (.int .i64 x3)) (first | (refine ⟨?_, ?_⟩ <;> (first | (with_reducible assumption) | (with_reducible refine cell_up d0 ?_) | (with_reducible refine cell_up d1 ?_)) <;> (repeat' (first | (with_reducible exact Below.refl _ _) | (with_reducible assumption) | (with_reducible refine below_over ?_ _ _) | (with_reducible refine Lw.below_alloc ?_ _) | (with_reducible refine Below.drew ?_) | (with_reducible refine below_drewN ?_ _) | (with_reducible refine Below.setCell ?_ ?_ _) | go_size)))) (first
    | (go_at_call 8; (with_reducible refine (CAD.out _).mono ?_); rintro e w8 ⟨rfl, hb⟩; obtain ⟨bs8, dd8, rfl⟩ := below_grow hb; clear hb))
  all_goals go_wp2_with (go_at_call 7; (with_reducible refine (CO.out p F5 _ (stI (HV7.out.up (by repeat' (first | (with_reducible exact Below.refl _ _) | (with_reducible assumption) | (with_reducible refine below_over ?_ _ _) | (with_reducible refine Lw.below_alloc ?_ _) | (with_reducible refine Below.drew ?_) | (with_reducible refine below_drewN ?_ _) | (with_reducible refine Below.setCell ?_ ?_ _) | go_size))).i1)).mono ?_); rintro e w9 ⟨rfl, hb⟩; have HV9 := Lib.hid ((HV7.out.up (by repeat' (first | (with_reducible exact Below.refl _ _) | (with_reducible assumption) | (with_reducible refine below_over ?_ _ _) | (with_reducible refine Lw.below_alloc ?_ _) | (with_reducible refine Below.drew ?_) | (with_reducible refine below_drewN ?_ _) | (with_reducible refine Below.setCell ?_ ?_ _) | go_size))).up hb); clear hb; clear d0 d1; clear e0 e1 e2 e3; obtain ⟨e0, e1, e2, e3⟩ := box4 HV9.out.i2)
  all_goals go_ret
  all_goals exact ⟨ret_bs (by first | rfl | (simp [*]; done)), HV9.out.below⟩
set_option maxRecDepth 100000 in
set_option maxHeartbeats 40000000 in
theorem far_11t (x0 x1 x2 x3 : Int) (z0 : -9223372036854775808 ≤ x0 ∧ x0 ≤ 9223372036854775807) (z1 : -9223372036854775808 ≤ x1 ∧ x1 ≤ 9223372036854775807) (z2 : -9223372036854775808 ≤ x2 ∧ x2 ≤ 9223372036854775807) (z3 : -9223372036854775808 ≤ x3 ∧ x3 ≤ 9223372036854775807) (a b : Int) (w : World) (hA : bits .and .i64 a 1 = 1) (hB : bits .and .i64 b 3 = 1) (hf : Wid.fit64 (x1 + x3) = true) :
    Calls Try.prog 3 #[.agg #[.int .i64 x0, .int .i64 x1, .int .i64 x2, .int .i64 x3], .int .i64 a, .int .i64 b] w fun e w' => e = .returned (.bool true) ∧ Below w.heap.size w w' := by
  have CAD := Lib.hid (fun w => add_any x1 x3 w z1.1 z1.2 z3.1 z3.2)
  have h0 := smF1 x0 x1 x2 x3
  obtain ⟨V, hV⟩ : ∃ V, x1 + x3 = V := ⟨_, rfl⟩
  rw [hV] at CAD h0 hf
  rw [hf] at CAD
  rw [show wrap64 V = V from IntWalk.wrap64_in _ (by have := of_decide_eq_true hf; omega)] at CAD
  have CR : Hid (∀ p F w, ST w p F lF (stF2 x0 x1 x2 x3) → Calls Try.prog 7 #[.pointer (some p), .int .u64 1, .int .u64 3] w fun e w' => e = .returned (.tuple #[.int .i64 V, .int .i64 0]) ∧ Below w.heap.size w w') := Lib.hid (fun p F w hs => by
    have h := tr_F p F x0 x1 x2 x3 1 3 V true [(0, 1), (1, 1)] w hs cvF1 (by decide) (by decide) (by decide) h0 hf
    simp only [if_true, if_false, Bool.false_eq_true, eq_self_iff_true] at h; exact h)
  have CO : Hid (∀ p F w, ST w p F lF (stF2 x0 x1 x2 x3) → Calls Try.prog 7 #[.pointer (some p), .int .u64 1, .int .u64 1] w fun e w' => e = .returned (.tuple #[.int .i64 x1, .int .i64 0]) ∧ Below w.heap.size w w') := Lib.hid (fun p F w hs => by
    have h := tr_F p F x0 x1 x2 x3 1 1 x1 true [(0, 1)] w hs (cov_one 2 1) (by decide) (by decide) (by decide) (smO1 x0 x1 x2 x3) (decide_eq_true (by omega))
    simp only [if_true, if_false, Bool.false_eq_true, eq_self_iff_true] at h; exact h)
  have CL0 := Lib.hid (fun p F g cap w hs hr ha => fl_0 p F x0 x1 x2 x3 z0 z1 z2 z3 g cap w hs hr ha)
  have CL1 := Lib.hid (fun p F g cap w hs hr ha => fl_1 p F x0 x1 x2 x3 z0 z1 z2 z3 g cap w hs hr ha)
  have HBX : Hid (Have w (w.alloc (.cells #[.int .i64 x0, .int .i64 x1, .int .i64 x2, .int .i64 x3] 22)) [boxT w.heap.size 22 #[.int .i64 x0, .int .i64 x1, .int .i64 x2, .int .i64 x3]]) := Lib.hid (box_new w _ _)
  have q1 : wrap64 3 = 3 := IntWalk.wrap64_in _ ⟨by omega, by omega⟩
  have q2 : IntKind.i64.wrap 3 = 3 := IntWalk.i64_in _ ⟨by omega, by omega⟩
  clear h0 hV z0 z1 z2 z3
  go_enter Try.func3, Try.ntmps3
  go_upto_region 12 with (first
    | (go_at_call 7; (with_reducible refine (CR.out p F5 _ (stI HV5.out.i0)).mono ?_); rintro e w6 ⟨rfl, hb⟩; have HV6 := Lib.hid (HV5.out.up hb); clear hb; have hl6 := box_lt HV6.out.i1; clear e0 e1 e2 e3; obtain ⟨e0, e1, e2, e3⟩ := box4 HV6.out.i1)
    | (go_at_call 6; (with_reducible refine (CL1.out p F4 _ _ _ (stI (HV4.out.up (by repeat' (first | (with_reducible exact Below.refl _ _) | (with_reducible assumption) | (with_reducible refine below_over ?_ _ _) | (with_reducible refine Lw.below_alloc ?_ _) | (with_reducible refine Below.drew ?_) | (with_reducible refine below_drewN ?_ _) | (with_reducible refine Below.setCell ?_ ?_ _) | go_size))).i0) (lit2n _ x0 x3) (st_new HV4.out.i0)).mono ?_); rintro e w5 ⟨rfl, F5, h1, h2, h3⟩; have HV5 := Lib.hid ((HV4.out.up (by repeat' (first | (with_reducible exact Below.refl _ _) | (with_reducible assumption) | (with_reducible refine below_over ?_ _ _) | (with_reducible refine Lw.below_alloc ?_ _) | (with_reducible refine Below.drew ?_) | (with_reducible refine below_drewN ?_ _) | (with_reducible refine Below.setCell ?_ ?_ _) | go_size))).turn_0 (stT p F5 lF (stF2 x0 x1 x2 x3)) h1 h2 h3); clear h1 h2 h3; clear e0 e1 e2 e3; obtain ⟨e0, e1, e2, e3⟩ := box4 HV5.out.i1)
    | (go_at_call 6; (with_reducible refine (CL0.out p F _ _ _ (stI HV2.out.i0) (rd4 HV2.out.i1) (apart2 HV2.out)).mono ?_); rintro e w4 ⟨rfl, F4, h1, h2, h3⟩; have HV4 := Lib.hid (HV2.out.turn_0 (stT p F4 lF (stF1 x0 x1 x2 x3)) h1 h2 h3); clear h1 h2 h3; clear e0 e1 e2 e3; obtain ⟨e0, e1, e2, e3⟩ := box4 HV4.out.i1)
    | (go_at_call 5; (with_reducible refine (tn_F _).mono ?_); rintro e w2 ⟨p, F, rfl, hsk, hfr, hb⟩; have HV2 := Lib.hid (HV1.out.push (stT p F lF (stsOf lF [])) hb hsk hfr); clear hsk hfr hb; clear e0 e1 e2 e3; obtain ⟨e0, e1, e2, e3⟩ := box4 HV2.out.i1)
    | (go_at_call 4; (with_reducible refine (shown_any _).mono ?_); rintro e w1 ⟨rfl, hb⟩; have HV1 := Lib.hid (HBX.out.up hb); clear hb; obtain ⟨e0, e1, e2, e3⟩ := box4 HV1.out.i0))
  have HV7 := Lib.hid ((HV6.out.up (Lw.below_alloc (Below.refl _ _) (.cells #[.int .i64 x0, .int .i64 x2] 2))).push (boxT (w6.alloc (.cells #[.int .i64 x0, .int .i64 x2] 2)).heap.size 2 #[.int .i64 x1, .int .i64 x3]) (Lw.below_alloc (Below.refl _ _) _) (heap_alloc_new (w6.alloc (.cells #[.int .i64 x0, .int .i64 x2] 2)) _) (fun k hk => Nat.le_of_eq hk.symm))
  rw [show (w6.alloc (.cells #[.int .i64 x0, .int .i64 x2] 2)).heap.size = w6.heap.size + 1 by simp [go_sem]] at HV7
  obtain ⟨d0, d1⟩ := box2q HV7.out.i0
  clear e0 e1 e2 e3; obtain ⟨e0, e1, e2, e3⟩ := box4 HV7.out.i2
  go_region_held3 (fun w' => w'.cell? ⟨(w6.heap.size + 1), 0, none⟩ = some (.int .i64 x1) ∧ w'.cell? ⟨(w6.heap.size + 1), 1, none⟩ = some (.int .i64 x3)) (first | (refine ⟨?_, ?_⟩ <;> (first | (with_reducible assumption) | (with_reducible refine cell_up d0 ?_) | (with_reducible refine cell_up d1 ?_)) <;> (repeat' (first | (with_reducible exact Below.refl _ _) | (with_reducible assumption) | (with_reducible refine below_over ?_ _ _) | (with_reducible refine Lw.below_alloc ?_ _) | (with_reducible refine Below.drew ?_) | (with_reducible refine below_drewN ?_ _) | (with_reducible refine Below.setCell ?_ ?_ _) | go_size)))) (first
    | (go_at_call 8; (with_reducible refine (CAD.out _).mono ?_); rintro e w8 ⟨rfl, hb⟩; obtain ⟨bs8, dd8, rfl⟩ := below_grow hb; clear hb))
  all_goals go_wp2_with (go_at_call 7; (with_reducible refine (CO.out p F5 _ (stI (HV7.out.up (by repeat' (first | (with_reducible exact Below.refl _ _) | (with_reducible assumption) | (with_reducible refine below_over ?_ _ _) | (with_reducible refine Lw.below_alloc ?_ _) | (with_reducible refine Below.drew ?_) | (with_reducible refine below_drewN ?_ _) | (with_reducible refine Below.setCell ?_ ?_ _) | go_size))).i1)).mono ?_); rintro e w9 ⟨rfl, hb⟩; have HV9 := Lib.hid ((HV7.out.up (by repeat' (first | (with_reducible exact Below.refl _ _) | (with_reducible assumption) | (with_reducible refine below_over ?_ _ _) | (with_reducible refine Lw.below_alloc ?_ _) | (with_reducible refine Below.drew ?_) | (with_reducible refine below_drewN ?_ _) | (with_reducible refine Below.setCell ?_ ?_ _) | go_size))).up hb); clear hb; clear d0 d1; clear e0 e1 e2 e3; obtain ⟨e0, e1, e2, e3⟩ := box4 HV9.out.i2)
  all_goals go_ret
  all_goals exact ⟨ret_bs (by first | rfl | (simp [*]; done)), HV9.out.below⟩
set_option maxRecDepth 100000 in
set_option maxHeartbeats 40000000 in
theorem far_11f (x0 x1 x2 x3 : Int) (z0 : -9223372036854775808 ≤ x0 ∧ x0 ≤ 9223372036854775807) (z1 : -9223372036854775808 ≤ x1 ∧ x1 ≤ 9223372036854775807) (z2 : -9223372036854775808 ≤ x2 ∧ x2 ≤ 9223372036854775807) (z3 : -9223372036854775808 ≤ x3 ∧ x3 ≤ 9223372036854775807) (a b : Int) (w : World) (hA : bits .and .i64 a 1 = 1) (hB : bits .and .i64 b 3 = 1) (hf : Wid.fit64 (x1 + x3) = false) :
    Calls Try.prog 3 #[.agg #[.int .i64 x0, .int .i64 x1, .int .i64 x2, .int .i64 x3], .int .i64 a, .int .i64 b] w fun e w' => e = .returned (.bool true) ∧ Below w.heap.size w w' := by
  have CAD := Lib.hid (fun w => add_any x1 x3 w z1.1 z1.2 z3.1 z3.2)
  have h0 := smF1 x0 x1 x2 x3
  obtain ⟨V, hV⟩ : ∃ V, x1 + x3 = V := ⟨_, rfl⟩
  rw [hV] at CAD h0 hf
  rw [hf] at CAD
  obtain ⟨WV, hWV⟩ : ∃ v, wrap64 V = v := ⟨_, rfl⟩
  rw [hWV] at CAD
  have CR : Hid (∀ p F w, ST w p F lF (stF2 x0 x1 x2 x3) → Calls Try.prog 7 #[.pointer (some p), .int .u64 1, .int .u64 3] w fun e w' => e = .returned (.tuple #[.int .i64 0, .int .i64 4]) ∧ Below w.heap.size w w') := Lib.hid (fun p F w hs => by
    have h := tr_F p F x0 x1 x2 x3 1 3 V false [(0, 1), (1, 1)] w hs cvF1 (by decide) (by decide) (by decide) h0 hf
    simp only [if_true, if_false, Bool.false_eq_true, eq_self_iff_true] at h; exact h)
  have CO : Hid (∀ p F w, ST w p F lF (stF2 x0 x1 x2 x3) → Calls Try.prog 7 #[.pointer (some p), .int .u64 1, .int .u64 1] w fun e w' => e = .returned (.tuple #[.int .i64 x1, .int .i64 0]) ∧ Below w.heap.size w w') := Lib.hid (fun p F w hs => by
    have h := tr_F p F x0 x1 x2 x3 1 1 x1 true [(0, 1)] w hs (cov_one 2 1) (by decide) (by decide) (by decide) (smO1 x0 x1 x2 x3) (decide_eq_true (by omega))
    simp only [if_true, if_false, Bool.false_eq_true, eq_self_iff_true] at h; exact h)
  have CL0 := Lib.hid (fun p F g cap w hs hr ha => fl_0 p F x0 x1 x2 x3 z0 z1 z2 z3 g cap w hs hr ha)
  have CL1 := Lib.hid (fun p F g cap w hs hr ha => fl_1 p F x0 x1 x2 x3 z0 z1 z2 z3 g cap w hs hr ha)
  have HBX : Hid (Have w (w.alloc (.cells #[.int .i64 x0, .int .i64 x1, .int .i64 x2, .int .i64 x3] 22)) [boxT w.heap.size 22 #[.int .i64 x0, .int .i64 x1, .int .i64 x2, .int .i64 x3]]) := Lib.hid (box_new w _ _)
  have q1 : wrap64 3 = 3 := IntWalk.wrap64_in _ ⟨by omega, by omega⟩
  have q2 : IntKind.i64.wrap 3 = 3 := IntWalk.i64_in _ ⟨by omega, by omega⟩
  clear h0 hV z0 z1 z2 z3
  go_enter Try.func3, Try.ntmps3
  go_upto_region 12 with (first
    | (go_at_call 7; (with_reducible refine (CR.out p F5 _ (stI HV5.out.i0)).mono ?_); rintro e w6 ⟨rfl, hb⟩; have HV6 := Lib.hid (HV5.out.up hb); clear hb; have hl6 := box_lt HV6.out.i1; clear e0 e1 e2 e3; obtain ⟨e0, e1, e2, e3⟩ := box4 HV6.out.i1)
    | (go_at_call 6; (with_reducible refine (CL1.out p F4 _ _ _ (stI (HV4.out.up (by repeat' (first | (with_reducible exact Below.refl _ _) | (with_reducible assumption) | (with_reducible refine below_over ?_ _ _) | (with_reducible refine Lw.below_alloc ?_ _) | (with_reducible refine Below.drew ?_) | (with_reducible refine below_drewN ?_ _) | (with_reducible refine Below.setCell ?_ ?_ _) | go_size))).i0) (lit2n _ x0 x3) (st_new HV4.out.i0)).mono ?_); rintro e w5 ⟨rfl, F5, h1, h2, h3⟩; have HV5 := Lib.hid ((HV4.out.up (by repeat' (first | (with_reducible exact Below.refl _ _) | (with_reducible assumption) | (with_reducible refine below_over ?_ _ _) | (with_reducible refine Lw.below_alloc ?_ _) | (with_reducible refine Below.drew ?_) | (with_reducible refine below_drewN ?_ _) | (with_reducible refine Below.setCell ?_ ?_ _) | go_size))).turn_0 (stT p F5 lF (stF2 x0 x1 x2 x3)) h1 h2 h3); clear h1 h2 h3; clear e0 e1 e2 e3; obtain ⟨e0, e1, e2, e3⟩ := box4 HV5.out.i1)
    | (go_at_call 6; (with_reducible refine (CL0.out p F _ _ _ (stI HV2.out.i0) (rd4 HV2.out.i1) (apart2 HV2.out)).mono ?_); rintro e w4 ⟨rfl, F4, h1, h2, h3⟩; have HV4 := Lib.hid (HV2.out.turn_0 (stT p F4 lF (stF1 x0 x1 x2 x3)) h1 h2 h3); clear h1 h2 h3; clear e0 e1 e2 e3; obtain ⟨e0, e1, e2, e3⟩ := box4 HV4.out.i1)
    | (go_at_call 5; (with_reducible refine (tn_F _).mono ?_); rintro e w2 ⟨p, F, rfl, hsk, hfr, hb⟩; have HV2 := Lib.hid (HV1.out.push (stT p F lF (stsOf lF [])) hb hsk hfr); clear hsk hfr hb; clear e0 e1 e2 e3; obtain ⟨e0, e1, e2, e3⟩ := box4 HV2.out.i1)
    | (go_at_call 4; (with_reducible refine (shown_any _).mono ?_); rintro e w1 ⟨rfl, hb⟩; have HV1 := Lib.hid (HBX.out.up hb); clear hb; obtain ⟨e0, e1, e2, e3⟩ := box4 HV1.out.i0))
  have HV7 := Lib.hid ((HV6.out.up (Lw.below_alloc (Below.refl _ _) (.cells #[.int .i64 x0, .int .i64 x2] 2))).push (boxT (w6.alloc (.cells #[.int .i64 x0, .int .i64 x2] 2)).heap.size 2 #[.int .i64 x1, .int .i64 x3]) (Lw.below_alloc (Below.refl _ _) _) (heap_alloc_new (w6.alloc (.cells #[.int .i64 x0, .int .i64 x2] 2)) _) (fun k hk => Nat.le_of_eq hk.symm))
  rw [show (w6.alloc (.cells #[.int .i64 x0, .int .i64 x2] 2)).heap.size = w6.heap.size + 1 by simp [go_sem]] at HV7
  obtain ⟨d0, d1⟩ := box2q HV7.out.i0
  clear e0 e1 e2 e3; obtain ⟨e0, e1, e2, e3⟩ := box4 HV7.out.i2
  go_region_held3 (fun w' => w'.cell? ⟨(w6.heap.size + 1), 0, none⟩ = some (.int .i64 x1) ∧ w'.cell? ⟨(w6.heap.size + 1), 1, none⟩ = some (.int .i64 x3)) (first | (refine ⟨?_, ?_⟩ <;> (first | (with_reducible assumption) | (with_reducible refine cell_up d0 ?_) | (with_reducible refine cell_up d1 ?_)) <;> (repeat' (first | (with_reducible exact Below.refl _ _) | (with_reducible assumption) | (with_reducible refine below_over ?_ _ _) | (with_reducible refine Lw.below_alloc ?_ _) | (with_reducible refine Below.drew ?_) | (with_reducible refine below_drewN ?_ _) | (with_reducible refine Below.setCell ?_ ?_ _) | go_size)))) (first
    | (go_at_call 8; (with_reducible refine (CAD.out _).mono ?_); rintro e w8 ⟨rfl, hb⟩; obtain ⟨bs8, dd8, rfl⟩ := below_grow hb; clear hb))
  all_goals go_wp2_with (go_at_call 7; (with_reducible refine (CO.out p F5 _ (stI (HV7.out.up (by repeat' (first | (with_reducible exact Below.refl _ _) | (with_reducible assumption) | (with_reducible refine below_over ?_ _ _) | (with_reducible refine Lw.below_alloc ?_ _) | (with_reducible refine Below.drew ?_) | (with_reducible refine below_drewN ?_ _) | (with_reducible refine Below.setCell ?_ ?_ _) | go_size))).i1)).mono ?_); rintro e w9 ⟨rfl, hb⟩; have HV9 := Lib.hid ((HV7.out.up (by repeat' (first | (with_reducible exact Below.refl _ _) | (with_reducible assumption) | (with_reducible refine below_over ?_ _ _) | (with_reducible refine Lw.below_alloc ?_ _) | (with_reducible refine Below.drew ?_) | (with_reducible refine below_drewN ?_ _) | (with_reducible refine Below.setCell ?_ ?_ _) | go_size))).up hb); clear hb; clear d0 d1; clear e0 e1 e2 e3; obtain ⟨e0, e1, e2, e3⟩ := box4 HV9.out.i2)
  all_goals go_ret
  all_goals exact ⟨ret_bs (by first | rfl | (simp [*]; done)), HV9.out.below⟩
set_option maxRecDepth 100000 in
set_option maxHeartbeats 40000000 in
theorem far_12t (x0 x1 x2 x3 : Int) (z0 : -9223372036854775808 ≤ x0 ∧ x0 ≤ 9223372036854775807) (z1 : -9223372036854775808 ≤ x1 ∧ x1 ≤ 9223372036854775807) (z2 : -9223372036854775808 ≤ x2 ∧ x2 ≤ 9223372036854775807) (z3 : -9223372036854775808 ≤ x3 ∧ x3 ≤ 9223372036854775807) (a b : Int) (w : World) (hA : bits .and .i64 a 1 = 1) (hB : bits .and .i64 b 3 = 2) (hf : Wid.fit64 (x1 + x3) = true) :
    Calls Try.prog 3 #[.agg #[.int .i64 x0, .int .i64 x1, .int .i64 x2, .int .i64 x3], .int .i64 a, .int .i64 b] w fun e w' => e = .returned (.bool true) ∧ Below w.heap.size w w' := by
  have CAD := Lib.hid (fun w => add_any x1 x3 w z1.1 z1.2 z3.1 z3.2)
  have h0 := smF1 x0 x1 x2 x3
  obtain ⟨V, hV⟩ : ∃ V, x1 + x3 = V := ⟨_, rfl⟩
  rw [hV] at CAD h0 hf
  rw [hf] at CAD
  rw [show wrap64 V = V from IntWalk.wrap64_in _ (by have := of_decide_eq_true hf; omega)] at CAD
  have CR : Hid (∀ p F w, ST w p F lF (stF2 x0 x1 x2 x3) → Calls Try.prog 7 #[.pointer (some p), .int .u64 1, .int .u64 3] w fun e w' => e = .returned (.tuple #[.int .i64 V, .int .i64 0]) ∧ Below w.heap.size w w') := Lib.hid (fun p F w hs => by
    have h := tr_F p F x0 x1 x2 x3 1 3 V true [(0, 1), (1, 1)] w hs cvF1 (by decide) (by decide) (by decide) h0 hf
    simp only [if_true, if_false, Bool.false_eq_true, eq_self_iff_true] at h; exact h)
  have CO : Hid (∀ p F w, ST w p F lF (stF2 x0 x1 x2 x3) → Calls Try.prog 7 #[.pointer (some p), .int .u64 2, .int .u64 2] w fun e w' => e = .returned (.tuple #[.int .i64 x2, .int .i64 0]) ∧ Below w.heap.size w w') := Lib.hid (fun p F w hs => by
    have h := tr_F p F x0 x1 x2 x3 2 2 x2 true [(0, 2)] w hs (cov_one 2 2) (by decide) (by decide) (by decide) (smO2 x0 x1 x2 x3) (decide_eq_true (by omega))
    simp only [if_true, if_false, Bool.false_eq_true, eq_self_iff_true] at h; exact h)
  have CL0 := Lib.hid (fun p F g cap w hs hr ha => fl_0 p F x0 x1 x2 x3 z0 z1 z2 z3 g cap w hs hr ha)
  have CL1 := Lib.hid (fun p F g cap w hs hr ha => fl_1 p F x0 x1 x2 x3 z0 z1 z2 z3 g cap w hs hr ha)
  have HBX : Hid (Have w (w.alloc (.cells #[.int .i64 x0, .int .i64 x1, .int .i64 x2, .int .i64 x3] 22)) [boxT w.heap.size 22 #[.int .i64 x0, .int .i64 x1, .int .i64 x2, .int .i64 x3]]) := Lib.hid (box_new w _ _)
  have q1 : wrap64 3 = 3 := IntWalk.wrap64_in _ ⟨by omega, by omega⟩
  have q2 : IntKind.i64.wrap 3 = 3 := IntWalk.i64_in _ ⟨by omega, by omega⟩
  clear h0 hV z0 z1 z2 z3
  go_enter Try.func3, Try.ntmps3
  go_upto_region 12 with (first
    | (go_at_call 7; (with_reducible refine (CR.out p F5 _ (stI HV5.out.i0)).mono ?_); rintro e w6 ⟨rfl, hb⟩; have HV6 := Lib.hid (HV5.out.up hb); clear hb; have hl6 := box_lt HV6.out.i1; clear e0 e1 e2 e3; obtain ⟨e0, e1, e2, e3⟩ := box4 HV6.out.i1)
    | (go_at_call 6; (with_reducible refine (CL1.out p F4 _ _ _ (stI (HV4.out.up (by repeat' (first | (with_reducible exact Below.refl _ _) | (with_reducible assumption) | (with_reducible refine below_over ?_ _ _) | (with_reducible refine Lw.below_alloc ?_ _) | (with_reducible refine Below.drew ?_) | (with_reducible refine below_drewN ?_ _) | (with_reducible refine Below.setCell ?_ ?_ _) | go_size))).i0) (lit2n _ x0 x3) (st_new HV4.out.i0)).mono ?_); rintro e w5 ⟨rfl, F5, h1, h2, h3⟩; have HV5 := Lib.hid ((HV4.out.up (by repeat' (first | (with_reducible exact Below.refl _ _) | (with_reducible assumption) | (with_reducible refine below_over ?_ _ _) | (with_reducible refine Lw.below_alloc ?_ _) | (with_reducible refine Below.drew ?_) | (with_reducible refine below_drewN ?_ _) | (with_reducible refine Below.setCell ?_ ?_ _) | go_size))).turn_0 (stT p F5 lF (stF2 x0 x1 x2 x3)) h1 h2 h3); clear h1 h2 h3; clear e0 e1 e2 e3; obtain ⟨e0, e1, e2, e3⟩ := box4 HV5.out.i1)
    | (go_at_call 6; (with_reducible refine (CL0.out p F _ _ _ (stI HV2.out.i0) (rd4 HV2.out.i1) (apart2 HV2.out)).mono ?_); rintro e w4 ⟨rfl, F4, h1, h2, h3⟩; have HV4 := Lib.hid (HV2.out.turn_0 (stT p F4 lF (stF1 x0 x1 x2 x3)) h1 h2 h3); clear h1 h2 h3; clear e0 e1 e2 e3; obtain ⟨e0, e1, e2, e3⟩ := box4 HV4.out.i1)
    | (go_at_call 5; (with_reducible refine (tn_F _).mono ?_); rintro e w2 ⟨p, F, rfl, hsk, hfr, hb⟩; have HV2 := Lib.hid (HV1.out.push (stT p F lF (stsOf lF [])) hb hsk hfr); clear hsk hfr hb; clear e0 e1 e2 e3; obtain ⟨e0, e1, e2, e3⟩ := box4 HV2.out.i1)
    | (go_at_call 4; (with_reducible refine (shown_any _).mono ?_); rintro e w1 ⟨rfl, hb⟩; have HV1 := Lib.hid (HBX.out.up hb); clear hb; obtain ⟨e0, e1, e2, e3⟩ := box4 HV1.out.i0))
  have HV7 := Lib.hid ((HV6.out.up (Lw.below_alloc (Below.refl _ _) (.cells #[.int .i64 x0, .int .i64 x2] 2))).push (boxT (w6.alloc (.cells #[.int .i64 x0, .int .i64 x2] 2)).heap.size 2 #[.int .i64 x1, .int .i64 x3]) (Lw.below_alloc (Below.refl _ _) _) (heap_alloc_new (w6.alloc (.cells #[.int .i64 x0, .int .i64 x2] 2)) _) (fun k hk => Nat.le_of_eq hk.symm))
  rw [show (w6.alloc (.cells #[.int .i64 x0, .int .i64 x2] 2)).heap.size = w6.heap.size + 1 by simp [go_sem]] at HV7
  obtain ⟨d0, d1⟩ := box2q HV7.out.i0
  clear e0 e1 e2 e3; obtain ⟨e0, e1, e2, e3⟩ := box4 HV7.out.i2
  go_region_held3 (fun w' => w'.cell? ⟨(w6.heap.size + 1), 0, none⟩ = some (.int .i64 x1) ∧ w'.cell? ⟨(w6.heap.size + 1), 1, none⟩ = some (.int .i64 x3)) (first | (refine ⟨?_, ?_⟩ <;> (first | (with_reducible assumption) | (with_reducible refine cell_up d0 ?_) | (with_reducible refine cell_up d1 ?_)) <;> (repeat' (first | (with_reducible exact Below.refl _ _) | (with_reducible assumption) | (with_reducible refine below_over ?_ _ _) | (with_reducible refine Lw.below_alloc ?_ _) | (with_reducible refine Below.drew ?_) | (with_reducible refine below_drewN ?_ _) | (with_reducible refine Below.setCell ?_ ?_ _) | go_size)))) (first
    | (go_at_call 8; (with_reducible refine (CAD.out _).mono ?_); rintro e w8 ⟨rfl, hb⟩; obtain ⟨bs8, dd8, rfl⟩ := below_grow hb; clear hb))
  all_goals go_wp2_with (go_at_call 7; (with_reducible refine (CO.out p F5 _ (stI (HV7.out.up (by repeat' (first | (with_reducible exact Below.refl _ _) | (with_reducible assumption) | (with_reducible refine below_over ?_ _ _) | (with_reducible refine Lw.below_alloc ?_ _) | (with_reducible refine Below.drew ?_) | (with_reducible refine below_drewN ?_ _) | (with_reducible refine Below.setCell ?_ ?_ _) | go_size))).i1)).mono ?_); rintro e w9 ⟨rfl, hb⟩; have HV9 := Lib.hid ((HV7.out.up (by repeat' (first | (with_reducible exact Below.refl _ _) | (with_reducible assumption) | (with_reducible refine below_over ?_ _ _) | (with_reducible refine Lw.below_alloc ?_ _) | (with_reducible refine Below.drew ?_) | (with_reducible refine below_drewN ?_ _) | (with_reducible refine Below.setCell ?_ ?_ _) | go_size))).up hb); clear hb; clear d0 d1; clear e0 e1 e2 e3; obtain ⟨e0, e1, e2, e3⟩ := box4 HV9.out.i2)
  all_goals go_ret
  all_goals exact ⟨ret_bs (by first | rfl | (simp [*]; done)), HV9.out.below⟩
set_option maxRecDepth 100000 in
set_option maxHeartbeats 40000000 in
theorem far_12f (x0 x1 x2 x3 : Int) (z0 : -9223372036854775808 ≤ x0 ∧ x0 ≤ 9223372036854775807) (z1 : -9223372036854775808 ≤ x1 ∧ x1 ≤ 9223372036854775807) (z2 : -9223372036854775808 ≤ x2 ∧ x2 ≤ 9223372036854775807) (z3 : -9223372036854775808 ≤ x3 ∧ x3 ≤ 9223372036854775807) (a b : Int) (w : World) (hA : bits .and .i64 a 1 = 1) (hB : bits .and .i64 b 3 = 2) (hf : Wid.fit64 (x1 + x3) = false) :
    Calls Try.prog 3 #[.agg #[.int .i64 x0, .int .i64 x1, .int .i64 x2, .int .i64 x3], .int .i64 a, .int .i64 b] w fun e w' => e = .returned (.bool true) ∧ Below w.heap.size w w' := by
  have CAD := Lib.hid (fun w => add_any x1 x3 w z1.1 z1.2 z3.1 z3.2)
  have h0 := smF1 x0 x1 x2 x3
  obtain ⟨V, hV⟩ : ∃ V, x1 + x3 = V := ⟨_, rfl⟩
  rw [hV] at CAD h0 hf
  rw [hf] at CAD
  obtain ⟨WV, hWV⟩ : ∃ v, wrap64 V = v := ⟨_, rfl⟩
  rw [hWV] at CAD
  have CR : Hid (∀ p F w, ST w p F lF (stF2 x0 x1 x2 x3) → Calls Try.prog 7 #[.pointer (some p), .int .u64 1, .int .u64 3] w fun e w' => e = .returned (.tuple #[.int .i64 0, .int .i64 4]) ∧ Below w.heap.size w w') := Lib.hid (fun p F w hs => by
    have h := tr_F p F x0 x1 x2 x3 1 3 V false [(0, 1), (1, 1)] w hs cvF1 (by decide) (by decide) (by decide) h0 hf
    simp only [if_true, if_false, Bool.false_eq_true, eq_self_iff_true] at h; exact h)
  have CO : Hid (∀ p F w, ST w p F lF (stF2 x0 x1 x2 x3) → Calls Try.prog 7 #[.pointer (some p), .int .u64 2, .int .u64 2] w fun e w' => e = .returned (.tuple #[.int .i64 x2, .int .i64 0]) ∧ Below w.heap.size w w') := Lib.hid (fun p F w hs => by
    have h := tr_F p F x0 x1 x2 x3 2 2 x2 true [(0, 2)] w hs (cov_one 2 2) (by decide) (by decide) (by decide) (smO2 x0 x1 x2 x3) (decide_eq_true (by omega))
    simp only [if_true, if_false, Bool.false_eq_true, eq_self_iff_true] at h; exact h)
  have CL0 := Lib.hid (fun p F g cap w hs hr ha => fl_0 p F x0 x1 x2 x3 z0 z1 z2 z3 g cap w hs hr ha)
  have CL1 := Lib.hid (fun p F g cap w hs hr ha => fl_1 p F x0 x1 x2 x3 z0 z1 z2 z3 g cap w hs hr ha)
  have HBX : Hid (Have w (w.alloc (.cells #[.int .i64 x0, .int .i64 x1, .int .i64 x2, .int .i64 x3] 22)) [boxT w.heap.size 22 #[.int .i64 x0, .int .i64 x1, .int .i64 x2, .int .i64 x3]]) := Lib.hid (box_new w _ _)
  have q1 : wrap64 3 = 3 := IntWalk.wrap64_in _ ⟨by omega, by omega⟩
  have q2 : IntKind.i64.wrap 3 = 3 := IntWalk.i64_in _ ⟨by omega, by omega⟩
  clear h0 hV z0 z1 z2 z3
  go_enter Try.func3, Try.ntmps3
  go_upto_region 12 with (first
    | (go_at_call 7; (with_reducible refine (CR.out p F5 _ (stI HV5.out.i0)).mono ?_); rintro e w6 ⟨rfl, hb⟩; have HV6 := Lib.hid (HV5.out.up hb); clear hb; have hl6 := box_lt HV6.out.i1; clear e0 e1 e2 e3; obtain ⟨e0, e1, e2, e3⟩ := box4 HV6.out.i1)
    | (go_at_call 6; (with_reducible refine (CL1.out p F4 _ _ _ (stI (HV4.out.up (by repeat' (first | (with_reducible exact Below.refl _ _) | (with_reducible assumption) | (with_reducible refine below_over ?_ _ _) | (with_reducible refine Lw.below_alloc ?_ _) | (with_reducible refine Below.drew ?_) | (with_reducible refine below_drewN ?_ _) | (with_reducible refine Below.setCell ?_ ?_ _) | go_size))).i0) (lit2n _ x0 x3) (st_new HV4.out.i0)).mono ?_); rintro e w5 ⟨rfl, F5, h1, h2, h3⟩; have HV5 := Lib.hid ((HV4.out.up (by repeat' (first | (with_reducible exact Below.refl _ _) | (with_reducible assumption) | (with_reducible refine below_over ?_ _ _) | (with_reducible refine Lw.below_alloc ?_ _) | (with_reducible refine Below.drew ?_) | (with_reducible refine below_drewN ?_ _) | (with_reducible refine Below.setCell ?_ ?_ _) | go_size))).turn_0 (stT p F5 lF (stF2 x0 x1 x2 x3)) h1 h2 h3); clear h1 h2 h3; clear e0 e1 e2 e3; obtain ⟨e0, e1, e2, e3⟩ := box4 HV5.out.i1)
    | (go_at_call 6; (with_reducible refine (CL0.out p F _ _ _ (stI HV2.out.i0) (rd4 HV2.out.i1) (apart2 HV2.out)).mono ?_); rintro e w4 ⟨rfl, F4, h1, h2, h3⟩; have HV4 := Lib.hid (HV2.out.turn_0 (stT p F4 lF (stF1 x0 x1 x2 x3)) h1 h2 h3); clear h1 h2 h3; clear e0 e1 e2 e3; obtain ⟨e0, e1, e2, e3⟩ := box4 HV4.out.i1)
    | (go_at_call 5; (with_reducible refine (tn_F _).mono ?_); rintro e w2 ⟨p, F, rfl, hsk, hfr, hb⟩; have HV2 := Lib.hid (HV1.out.push (stT p F lF (stsOf lF [])) hb hsk hfr); clear hsk hfr hb; clear e0 e1 e2 e3; obtain ⟨e0, e1, e2, e3⟩ := box4 HV2.out.i1)
    | (go_at_call 4; (with_reducible refine (shown_any _).mono ?_); rintro e w1 ⟨rfl, hb⟩; have HV1 := Lib.hid (HBX.out.up hb); clear hb; obtain ⟨e0, e1, e2, e3⟩ := box4 HV1.out.i0))
  have HV7 := Lib.hid ((HV6.out.up (Lw.below_alloc (Below.refl _ _) (.cells #[.int .i64 x0, .int .i64 x2] 2))).push (boxT (w6.alloc (.cells #[.int .i64 x0, .int .i64 x2] 2)).heap.size 2 #[.int .i64 x1, .int .i64 x3]) (Lw.below_alloc (Below.refl _ _) _) (heap_alloc_new (w6.alloc (.cells #[.int .i64 x0, .int .i64 x2] 2)) _) (fun k hk => Nat.le_of_eq hk.symm))
  rw [show (w6.alloc (.cells #[.int .i64 x0, .int .i64 x2] 2)).heap.size = w6.heap.size + 1 by simp [go_sem]] at HV7
  obtain ⟨d0, d1⟩ := box2q HV7.out.i0
  clear e0 e1 e2 e3; obtain ⟨e0, e1, e2, e3⟩ := box4 HV7.out.i2
  go_region_held3 (fun w' => w'.cell? ⟨(w6.heap.size + 1), 0, none⟩ = some (.int .i64 x1) ∧ w'.cell? ⟨(w6.heap.size + 1), 1, none⟩ = some (.int .i64 x3)) (first | (refine ⟨?_, ?_⟩ <;> (first | (with_reducible assumption) | (with_reducible refine cell_up d0 ?_) | (with_reducible refine cell_up d1 ?_)) <;> (repeat' (first | (with_reducible exact Below.refl _ _) | (with_reducible assumption) | (with_reducible refine below_over ?_ _ _) | (with_reducible refine Lw.below_alloc ?_ _) | (with_reducible refine Below.drew ?_) | (with_reducible refine below_drewN ?_ _) | (with_reducible refine Below.setCell ?_ ?_ _) | go_size)))) (first
    | (go_at_call 8; (with_reducible refine (CAD.out _).mono ?_); rintro e w8 ⟨rfl, hb⟩; obtain ⟨bs8, dd8, rfl⟩ := below_grow hb; clear hb))
  all_goals go_wp2_with (go_at_call 7; (with_reducible refine (CO.out p F5 _ (stI (HV7.out.up (by repeat' (first | (with_reducible exact Below.refl _ _) | (with_reducible assumption) | (with_reducible refine below_over ?_ _ _) | (with_reducible refine Lw.below_alloc ?_ _) | (with_reducible refine Below.drew ?_) | (with_reducible refine below_drewN ?_ _) | (with_reducible refine Below.setCell ?_ ?_ _) | go_size))).i1)).mono ?_); rintro e w9 ⟨rfl, hb⟩; have HV9 := Lib.hid ((HV7.out.up (by repeat' (first | (with_reducible exact Below.refl _ _) | (with_reducible assumption) | (with_reducible refine below_over ?_ _ _) | (with_reducible refine Lw.below_alloc ?_ _) | (with_reducible refine Below.drew ?_) | (with_reducible refine below_drewN ?_ _) | (with_reducible refine Below.setCell ?_ ?_ _) | go_size))).up hb); clear hb; clear d0 d1; clear e0 e1 e2 e3; obtain ⟨e0, e1, e2, e3⟩ := box4 HV9.out.i2)
  all_goals go_ret
  all_goals exact ⟨ret_bs (by first | rfl | (simp [*]; done)), HV9.out.below⟩
set_option maxRecDepth 100000 in
set_option maxHeartbeats 40000000 in
theorem far_13t (x0 x1 x2 x3 : Int) (z0 : -9223372036854775808 ≤ x0 ∧ x0 ≤ 9223372036854775807) (z1 : -9223372036854775808 ≤ x1 ∧ x1 ≤ 9223372036854775807) (z2 : -9223372036854775808 ≤ x2 ∧ x2 ≤ 9223372036854775807) (z3 : -9223372036854775808 ≤ x3 ∧ x3 ≤ 9223372036854775807) (a b : Int) (w : World) (hA : bits .and .i64 a 1 = 1) (hB : bits .and .i64 b 3 = 3) (hf : Wid.fit64 (x1 + x3) = true) :
    Calls Try.prog 3 #[.agg #[.int .i64 x0, .int .i64 x1, .int .i64 x2, .int .i64 x3], .int .i64 a, .int .i64 b] w fun e w' => e = .returned (.bool true) ∧ Below w.heap.size w w' := by
  have CAD := Lib.hid (fun w => add_any x1 x3 w z1.1 z1.2 z3.1 z3.2)
  have h0 := smF1 x0 x1 x2 x3
  obtain ⟨V, hV⟩ : ∃ V, x1 + x3 = V := ⟨_, rfl⟩
  rw [hV] at CAD h0 hf
  rw [hf] at CAD
  rw [show wrap64 V = V from IntWalk.wrap64_in _ (by have := of_decide_eq_true hf; omega)] at CAD
  have CR : Hid (∀ p F w, ST w p F lF (stF2 x0 x1 x2 x3) → Calls Try.prog 7 #[.pointer (some p), .int .u64 1, .int .u64 3] w fun e w' => e = .returned (.tuple #[.int .i64 V, .int .i64 0]) ∧ Below w.heap.size w w') := Lib.hid (fun p F w hs => by
    have h := tr_F p F x0 x1 x2 x3 1 3 V true [(0, 1), (1, 1)] w hs cvF1 (by decide) (by decide) (by decide) h0 hf
    simp only [if_true, if_false, Bool.false_eq_true, eq_self_iff_true] at h; exact h)
  have CO : Hid (∀ p F w, ST w p F lF (stF2 x0 x1 x2 x3) → Calls Try.prog 7 #[.pointer (some p), .int .u64 3, .int .u64 3] w fun e w' => e = .returned (.tuple #[.int .i64 x3, .int .i64 0]) ∧ Below w.heap.size w w') := Lib.hid (fun p F w hs => by
    have h := tr_F p F x0 x1 x2 x3 3 3 x3 true [(0, 3)] w hs (cov_one 2 3) (by decide) (by decide) (by decide) (smO3 x0 x1 x2 x3) (decide_eq_true (by omega))
    simp only [if_true, if_false, Bool.false_eq_true, eq_self_iff_true] at h; exact h)
  have CL0 := Lib.hid (fun p F g cap w hs hr ha => fl_0 p F x0 x1 x2 x3 z0 z1 z2 z3 g cap w hs hr ha)
  have CL1 := Lib.hid (fun p F g cap w hs hr ha => fl_1 p F x0 x1 x2 x3 z0 z1 z2 z3 g cap w hs hr ha)
  have HBX : Hid (Have w (w.alloc (.cells #[.int .i64 x0, .int .i64 x1, .int .i64 x2, .int .i64 x3] 22)) [boxT w.heap.size 22 #[.int .i64 x0, .int .i64 x1, .int .i64 x2, .int .i64 x3]]) := Lib.hid (box_new w _ _)
  have q1 : wrap64 3 = 3 := IntWalk.wrap64_in _ ⟨by omega, by omega⟩
  have q2 : IntKind.i64.wrap 3 = 3 := IntWalk.i64_in _ ⟨by omega, by omega⟩
  clear h0 hV z0 z1 z2 z3
  go_enter Try.func3, Try.ntmps3
  go_upto_region 12 with (first
    | (go_at_call 7; (with_reducible refine (CR.out p F5 _ (stI HV5.out.i0)).mono ?_); rintro e w6 ⟨rfl, hb⟩; have HV6 := Lib.hid (HV5.out.up hb); clear hb; have hl6 := box_lt HV6.out.i1; clear e0 e1 e2 e3; obtain ⟨e0, e1, e2, e3⟩ := box4 HV6.out.i1)
    | (go_at_call 6; (with_reducible refine (CL1.out p F4 _ _ _ (stI (HV4.out.up (by repeat' (first | (with_reducible exact Below.refl _ _) | (with_reducible assumption) | (with_reducible refine below_over ?_ _ _) | (with_reducible refine Lw.below_alloc ?_ _) | (with_reducible refine Below.drew ?_) | (with_reducible refine below_drewN ?_ _) | (with_reducible refine Below.setCell ?_ ?_ _) | go_size))).i0) (lit2n _ x0 x3) (st_new HV4.out.i0)).mono ?_); rintro e w5 ⟨rfl, F5, h1, h2, h3⟩; have HV5 := Lib.hid ((HV4.out.up (by repeat' (first | (with_reducible exact Below.refl _ _) | (with_reducible assumption) | (with_reducible refine below_over ?_ _ _) | (with_reducible refine Lw.below_alloc ?_ _) | (with_reducible refine Below.drew ?_) | (with_reducible refine below_drewN ?_ _) | (with_reducible refine Below.setCell ?_ ?_ _) | go_size))).turn_0 (stT p F5 lF (stF2 x0 x1 x2 x3)) h1 h2 h3); clear h1 h2 h3; clear e0 e1 e2 e3; obtain ⟨e0, e1, e2, e3⟩ := box4 HV5.out.i1)
    | (go_at_call 6; (with_reducible refine (CL0.out p F _ _ _ (stI HV2.out.i0) (rd4 HV2.out.i1) (apart2 HV2.out)).mono ?_); rintro e w4 ⟨rfl, F4, h1, h2, h3⟩; have HV4 := Lib.hid (HV2.out.turn_0 (stT p F4 lF (stF1 x0 x1 x2 x3)) h1 h2 h3); clear h1 h2 h3; clear e0 e1 e2 e3; obtain ⟨e0, e1, e2, e3⟩ := box4 HV4.out.i1)
    | (go_at_call 5; (with_reducible refine (tn_F _).mono ?_); rintro e w2 ⟨p, F, rfl, hsk, hfr, hb⟩; have HV2 := Lib.hid (HV1.out.push (stT p F lF (stsOf lF [])) hb hsk hfr); clear hsk hfr hb; clear e0 e1 e2 e3; obtain ⟨e0, e1, e2, e3⟩ := box4 HV2.out.i1)
    | (go_at_call 4; (with_reducible refine (shown_any _).mono ?_); rintro e w1 ⟨rfl, hb⟩; have HV1 := Lib.hid (HBX.out.up hb); clear hb; obtain ⟨e0, e1, e2, e3⟩ := box4 HV1.out.i0))
  have HV7 := Lib.hid ((HV6.out.up (Lw.below_alloc (Below.refl _ _) (.cells #[.int .i64 x0, .int .i64 x2] 2))).push (boxT (w6.alloc (.cells #[.int .i64 x0, .int .i64 x2] 2)).heap.size 2 #[.int .i64 x1, .int .i64 x3]) (Lw.below_alloc (Below.refl _ _) _) (heap_alloc_new (w6.alloc (.cells #[.int .i64 x0, .int .i64 x2] 2)) _) (fun k hk => Nat.le_of_eq hk.symm))
  rw [show (w6.alloc (.cells #[.int .i64 x0, .int .i64 x2] 2)).heap.size = w6.heap.size + 1 by simp [go_sem]] at HV7
  obtain ⟨d0, d1⟩ := box2q HV7.out.i0
  clear e0 e1 e2 e3; obtain ⟨e0, e1, e2, e3⟩ := box4 HV7.out.i2
  go_region_held3 (fun w' => w'.cell? ⟨(w6.heap.size + 1), 0, none⟩ = some (.int .i64 x1) ∧ w'.cell? ⟨(w6.heap.size + 1), 1, none⟩ = some (.int .i64 x3)) (first | (refine ⟨?_, ?_⟩ <;> (first | (with_reducible assumption) | (with_reducible refine cell_up d0 ?_) | (with_reducible refine cell_up d1 ?_)) <;> (repeat' (first | (with_reducible exact Below.refl _ _) | (with_reducible assumption) | (with_reducible refine below_over ?_ _ _) | (with_reducible refine Lw.below_alloc ?_ _) | (with_reducible refine Below.drew ?_) | (with_reducible refine below_drewN ?_ _) | (with_reducible refine Below.setCell ?_ ?_ _) | go_size)))) (first
    | (go_at_call 8; (with_reducible refine (CAD.out _).mono ?_); rintro e w8 ⟨rfl, hb⟩; obtain ⟨bs8, dd8, rfl⟩ := below_grow hb; clear hb))
  all_goals go_wp2_with (go_at_call 7; (with_reducible refine (CO.out p F5 _ (stI (HV7.out.up (by repeat' (first | (with_reducible exact Below.refl _ _) | (with_reducible assumption) | (with_reducible refine below_over ?_ _ _) | (with_reducible refine Lw.below_alloc ?_ _) | (with_reducible refine Below.drew ?_) | (with_reducible refine below_drewN ?_ _) | (with_reducible refine Below.setCell ?_ ?_ _) | go_size))).i1)).mono ?_); rintro e w9 ⟨rfl, hb⟩; have HV9 := Lib.hid ((HV7.out.up (by repeat' (first | (with_reducible exact Below.refl _ _) | (with_reducible assumption) | (with_reducible refine below_over ?_ _ _) | (with_reducible refine Lw.below_alloc ?_ _) | (with_reducible refine Below.drew ?_) | (with_reducible refine below_drewN ?_ _) | (with_reducible refine Below.setCell ?_ ?_ _) | go_size))).up hb); clear hb; clear d0 d1; clear e0 e1 e2 e3; obtain ⟨e0, e1, e2, e3⟩ := box4 HV9.out.i2)
  all_goals go_ret
  all_goals exact ⟨ret_bs (by first | rfl | (simp [*]; done)), HV9.out.below⟩
set_option maxRecDepth 100000 in
set_option maxHeartbeats 40000000 in
theorem far_13f (x0 x1 x2 x3 : Int) (z0 : -9223372036854775808 ≤ x0 ∧ x0 ≤ 9223372036854775807) (z1 : -9223372036854775808 ≤ x1 ∧ x1 ≤ 9223372036854775807) (z2 : -9223372036854775808 ≤ x2 ∧ x2 ≤ 9223372036854775807) (z3 : -9223372036854775808 ≤ x3 ∧ x3 ≤ 9223372036854775807) (a b : Int) (w : World) (hA : bits .and .i64 a 1 = 1) (hB : bits .and .i64 b 3 = 3) (hf : Wid.fit64 (x1 + x3) = false) :
    Calls Try.prog 3 #[.agg #[.int .i64 x0, .int .i64 x1, .int .i64 x2, .int .i64 x3], .int .i64 a, .int .i64 b] w fun e w' => e = .returned (.bool true) ∧ Below w.heap.size w w' := by
  have CAD := Lib.hid (fun w => add_any x1 x3 w z1.1 z1.2 z3.1 z3.2)
  have h0 := smF1 x0 x1 x2 x3
  obtain ⟨V, hV⟩ : ∃ V, x1 + x3 = V := ⟨_, rfl⟩
  rw [hV] at CAD h0 hf
  rw [hf] at CAD
  obtain ⟨WV, hWV⟩ : ∃ v, wrap64 V = v := ⟨_, rfl⟩
  rw [hWV] at CAD
  have CR : Hid (∀ p F w, ST w p F lF (stF2 x0 x1 x2 x3) → Calls Try.prog 7 #[.pointer (some p), .int .u64 1, .int .u64 3] w fun e w' => e = .returned (.tuple #[.int .i64 0, .int .i64 4]) ∧ Below w.heap.size w w') := Lib.hid (fun p F w hs => by
    have h := tr_F p F x0 x1 x2 x3 1 3 V false [(0, 1), (1, 1)] w hs cvF1 (by decide) (by decide) (by decide) h0 hf
    simp only [if_true, if_false, Bool.false_eq_true, eq_self_iff_true] at h; exact h)
  have CO : Hid (∀ p F w, ST w p F lF (stF2 x0 x1 x2 x3) → Calls Try.prog 7 #[.pointer (some p), .int .u64 3, .int .u64 3] w fun e w' => e = .returned (.tuple #[.int .i64 x3, .int .i64 0]) ∧ Below w.heap.size w w') := Lib.hid (fun p F w hs => by
    have h := tr_F p F x0 x1 x2 x3 3 3 x3 true [(0, 3)] w hs (cov_one 2 3) (by decide) (by decide) (by decide) (smO3 x0 x1 x2 x3) (decide_eq_true (by omega))
    simp only [if_true, if_false, Bool.false_eq_true, eq_self_iff_true] at h; exact h)
  have CL0 := Lib.hid (fun p F g cap w hs hr ha => fl_0 p F x0 x1 x2 x3 z0 z1 z2 z3 g cap w hs hr ha)
  have CL1 := Lib.hid (fun p F g cap w hs hr ha => fl_1 p F x0 x1 x2 x3 z0 z1 z2 z3 g cap w hs hr ha)
  have HBX : Hid (Have w (w.alloc (.cells #[.int .i64 x0, .int .i64 x1, .int .i64 x2, .int .i64 x3] 22)) [boxT w.heap.size 22 #[.int .i64 x0, .int .i64 x1, .int .i64 x2, .int .i64 x3]]) := Lib.hid (box_new w _ _)
  have q1 : wrap64 3 = 3 := IntWalk.wrap64_in _ ⟨by omega, by omega⟩
  have q2 : IntKind.i64.wrap 3 = 3 := IntWalk.i64_in _ ⟨by omega, by omega⟩
  clear h0 hV z0 z1 z2 z3
  go_enter Try.func3, Try.ntmps3
  go_upto_region 12 with (first
    | (go_at_call 7; (with_reducible refine (CR.out p F5 _ (stI HV5.out.i0)).mono ?_); rintro e w6 ⟨rfl, hb⟩; have HV6 := Lib.hid (HV5.out.up hb); clear hb; have hl6 := box_lt HV6.out.i1; clear e0 e1 e2 e3; obtain ⟨e0, e1, e2, e3⟩ := box4 HV6.out.i1)
    | (go_at_call 6; (with_reducible refine (CL1.out p F4 _ _ _ (stI (HV4.out.up (by repeat' (first | (with_reducible exact Below.refl _ _) | (with_reducible assumption) | (with_reducible refine below_over ?_ _ _) | (with_reducible refine Lw.below_alloc ?_ _) | (with_reducible refine Below.drew ?_) | (with_reducible refine below_drewN ?_ _) | (with_reducible refine Below.setCell ?_ ?_ _) | go_size))).i0) (lit2n _ x0 x3) (st_new HV4.out.i0)).mono ?_); rintro e w5 ⟨rfl, F5, h1, h2, h3⟩; have HV5 := Lib.hid ((HV4.out.up (by repeat' (first | (with_reducible exact Below.refl _ _) | (with_reducible assumption) | (with_reducible refine below_over ?_ _ _) | (with_reducible refine Lw.below_alloc ?_ _) | (with_reducible refine Below.drew ?_) | (with_reducible refine below_drewN ?_ _) | (with_reducible refine Below.setCell ?_ ?_ _) | go_size))).turn_0 (stT p F5 lF (stF2 x0 x1 x2 x3)) h1 h2 h3); clear h1 h2 h3; clear e0 e1 e2 e3; obtain ⟨e0, e1, e2, e3⟩ := box4 HV5.out.i1)
    | (go_at_call 6; (with_reducible refine (CL0.out p F _ _ _ (stI HV2.out.i0) (rd4 HV2.out.i1) (apart2 HV2.out)).mono ?_); rintro e w4 ⟨rfl, F4, h1, h2, h3⟩; have HV4 := Lib.hid (HV2.out.turn_0 (stT p F4 lF (stF1 x0 x1 x2 x3)) h1 h2 h3); clear h1 h2 h3; clear e0 e1 e2 e3; obtain ⟨e0, e1, e2, e3⟩ := box4 HV4.out.i1)
    | (go_at_call 5; (with_reducible refine (tn_F _).mono ?_); rintro e w2 ⟨p, F, rfl, hsk, hfr, hb⟩; have HV2 := Lib.hid (HV1.out.push (stT p F lF (stsOf lF [])) hb hsk hfr); clear hsk hfr hb; clear e0 e1 e2 e3; obtain ⟨e0, e1, e2, e3⟩ := box4 HV2.out.i1)
    | (go_at_call 4; (with_reducible refine (shown_any _).mono ?_); rintro e w1 ⟨rfl, hb⟩; have HV1 := Lib.hid (HBX.out.up hb); clear hb; obtain ⟨e0, e1, e2, e3⟩ := box4 HV1.out.i0))
  have HV7 := Lib.hid ((HV6.out.up (Lw.below_alloc (Below.refl _ _) (.cells #[.int .i64 x0, .int .i64 x2] 2))).push (boxT (w6.alloc (.cells #[.int .i64 x0, .int .i64 x2] 2)).heap.size 2 #[.int .i64 x1, .int .i64 x3]) (Lw.below_alloc (Below.refl _ _) _) (heap_alloc_new (w6.alloc (.cells #[.int .i64 x0, .int .i64 x2] 2)) _) (fun k hk => Nat.le_of_eq hk.symm))
  rw [show (w6.alloc (.cells #[.int .i64 x0, .int .i64 x2] 2)).heap.size = w6.heap.size + 1 by simp [go_sem]] at HV7
  obtain ⟨d0, d1⟩ := box2q HV7.out.i0
  clear e0 e1 e2 e3; obtain ⟨e0, e1, e2, e3⟩ := box4 HV7.out.i2
  go_region_held3 (fun w' => w'.cell? ⟨(w6.heap.size + 1), 0, none⟩ = some (.int .i64 x1) ∧ w'.cell? ⟨(w6.heap.size + 1), 1, none⟩ = some (.int .i64 x3)) (first | (refine ⟨?_, ?_⟩ <;> (first | (with_reducible assumption) | (with_reducible refine cell_up d0 ?_) | (with_reducible refine cell_up d1 ?_)) <;> (repeat' (first | (with_reducible exact Below.refl _ _) | (with_reducible assumption) | (with_reducible refine below_over ?_ _ _) | (with_reducible refine Lw.below_alloc ?_ _) | (with_reducible refine Below.drew ?_) | (with_reducible refine below_drewN ?_ _) | (with_reducible refine Below.setCell ?_ ?_ _) | go_size)))) (first
    | (go_at_call 8; (with_reducible refine (CAD.out _).mono ?_); rintro e w8 ⟨rfl, hb⟩; obtain ⟨bs8, dd8, rfl⟩ := below_grow hb; clear hb))
  all_goals go_wp2_with (go_at_call 7; (with_reducible refine (CO.out p F5 _ (stI (HV7.out.up (by repeat' (first | (with_reducible exact Below.refl _ _) | (with_reducible assumption) | (with_reducible refine below_over ?_ _ _) | (with_reducible refine Lw.below_alloc ?_ _) | (with_reducible refine Below.drew ?_) | (with_reducible refine below_drewN ?_ _) | (with_reducible refine Below.setCell ?_ ?_ _) | go_size))).i1)).mono ?_); rintro e w9 ⟨rfl, hb⟩; have HV9 := Lib.hid ((HV7.out.up (by repeat' (first | (with_reducible exact Below.refl _ _) | (with_reducible assumption) | (with_reducible refine below_over ?_ _ _) | (with_reducible refine Lw.below_alloc ?_ _) | (with_reducible refine Below.drew ?_) | (with_reducible refine below_drewN ?_ _) | (with_reducible refine Below.setCell ?_ ?_ _) | go_size))).up hb); clear hb; clear d0 d1; clear e0 e1 e2 e3; obtain ⟨e0, e1, e2, e3⟩ := box4 HV9.out.i2)
  all_goals go_ret
  all_goals exact ⟨ret_bs (by first | rfl | (simp [*]; done)), HV9.out.below⟩
theorem far_law (x0 x1 x2 x3 : Int) (z0 : -9223372036854775808 ≤ x0 ∧ x0 ≤ 9223372036854775807) (z1 : -9223372036854775808 ≤ x1 ∧ x1 ≤ 9223372036854775807) (z2 : -9223372036854775808 ≤ x2 ∧ x2 ≤ 9223372036854775807) (z3 : -9223372036854775808 ≤ x3 ∧ x3 ≤ 9223372036854775807) (a b : Int) (w : World) :
    Calls Try.prog 3 #[.agg #[.int .i64 x0, .int .i64 x1, .int .i64 x2, .int .i64 x3], .int .i64 a, .int .i64 b] w fun e w' => e = .returned (.bool true) ∧ Below w.heap.size w w' := by
  obtain ⟨y, hy, hA⟩ := and_low a 1 (by decide)
  obtain ⟨v, hv, hB⟩ := and_low b 3 (by decide)
  match y, hy, v, hv with
  | 0, _, 0, _ =>
    cases hf : Wid.fit64 (x0 + x2) with
    | true => exact far_00t x0 x1 x2 x3 z0 z1 z2 z3 a b w hA hB hf
    | false => exact far_00f x0 x1 x2 x3 z0 z1 z2 z3 a b w hA hB hf
  | 0, _, 1, _ =>
    cases hf : Wid.fit64 (x0 + x2) with
    | true => exact far_01t x0 x1 x2 x3 z0 z1 z2 z3 a b w hA hB hf
    | false => exact far_01f x0 x1 x2 x3 z0 z1 z2 z3 a b w hA hB hf
  | 0, _, 2, _ =>
    cases hf : Wid.fit64 (x0 + x2) with
    | true => exact far_02t x0 x1 x2 x3 z0 z1 z2 z3 a b w hA hB hf
    | false => exact far_02f x0 x1 x2 x3 z0 z1 z2 z3 a b w hA hB hf
  | 0, _, 3, _ =>
    cases hf : Wid.fit64 (x0 + x2) with
    | true => exact far_03t x0 x1 x2 x3 z0 z1 z2 z3 a b w hA hB hf
    | false => exact far_03f x0 x1 x2 x3 z0 z1 z2 z3 a b w hA hB hf
  | 1, _, 0, _ =>
    cases hf : Wid.fit64 (x1 + x3) with
    | true => exact far_10t x0 x1 x2 x3 z0 z1 z2 z3 a b w hA hB hf
    | false => exact far_10f x0 x1 x2 x3 z0 z1 z2 z3 a b w hA hB hf
  | 1, _, 1, _ =>
    cases hf : Wid.fit64 (x1 + x3) with
    | true => exact far_11t x0 x1 x2 x3 z0 z1 z2 z3 a b w hA hB hf
    | false => exact far_11f x0 x1 x2 x3 z0 z1 z2 z3 a b w hA hB hf
  | 1, _, 2, _ =>
    cases hf : Wid.fit64 (x1 + x3) with
    | true => exact far_12t x0 x1 x2 x3 z0 z1 z2 z3 a b w hA hB hf
    | false => exact far_12f x0 x1 x2 x3 z0 z1 z2 z3 a b w hA hB hf
  | 1, _, 3, _ =>
    cases hf : Wid.fit64 (x1 + x3) with
    | true => exact far_13t x0 x1 x2 x3 z0 z1 z2 z3 a b w hA hB hf
    | false => exact far_13f x0 x1 x2 x3 z0 z1 z2 z3 a b w hA hB hf
theorem arr4_int64_u : Try.prog.underlying 22 = some (.array 4 2) := by kernel_rfl
theorem arr4_int64_c : Try.prog.cellsOf 22 = 4 := by kernel_rfl
theorem arr4_int64_e : Try.prog.cellsOf 2 = 1 := by kernel_rfl
theorem arr4_int64_k : Try.prog.underlying 2 = some (.int .i64) := by kernel_rfl
theorem arr4_int64_l {α : Type} (T : Array α) (h : T.size = 4) : ∃ x0 x1 x2 x3 : α, T = #[x0, x1, x2, x3] := by
  obtain ⟨l⟩ := T
  match l, h with
  | [x0, x1, x2, x3], _ => exact ⟨x0, x1, x2, x3, rfl⟩
theorem open_arr4_int64 {H : Type} {enc : TypeId × Value → H} {W : World} {v : Value} {d : DataW H} {p : List MemPlace} {base : Nat} (hv : Value.okWide Try.prog W .any base 22 v)
    (h : DataW.Trod enc Try.prog W 0 (fun _ => true) true 22 v d p) :
    ∃ x0 x1 x2 x3 : Int, v = .agg #[.int .i64 x0, .int .i64 x1, .int .i64 x2, .int .i64 x3] ∧ (-9223372036854775808 ≤ x0 ∧ x0 ≤ 9223372036854775807) ∧ (-9223372036854775808 ≤ x1 ∧ x1 ≤ 9223372036854775807) ∧ (-9223372036854775808 ≤ x2 ∧ x2 ≤ 9223372036854775807) ∧ (-9223372036854775808 ≤ x3 ∧ x3 ≤ 9223372036854775807) := by
  have hcs : ∃ cs : Array Value, v = .agg cs ∧ cs.size = Try.prog.cellsOf 22 := by
    simp only [Value.okWide, arr4_int64_u] at hv
    obtain ⟨cs, h1, h2, _⟩ := hv
    exact ⟨cs, h1, h2⟩
  obtain ⟨cs, rfl, hsz⟩ := hcs
  obtain ⟨c0, c1, c2, c3, rfl⟩ := arr4_int64_l _ (hsz.trans arr4_int64_c)
  obtain ⟨fuel, hf⟩ := h
  obtain ⟨xs, m, _, _, _, hlen, hg⟩ := DataW.trod_array arr4_int64_u hf
  have g0 := hg 0 (by omega)
  have g1 := hg 1 (by omega)
  have g2 := hg 2 (by omega)
  have g3 := hg 3 (by omega)
  rw [arr4_int64_e] at g0 g1 g2 g3
  match xs, hlen with
  | [y0, y1, y2, y3], _ =>
    simp [Value.cells] at g0 g1 g2 g3
    obtain ⟨x0, e0, _, w0⟩ := DataW.trod_int arr4_int64_k g0
    obtain ⟨x1, e1, _, w1⟩ := DataW.trod_int arr4_int64_k g1
    obtain ⟨x2, e2, _, w2⟩ := DataW.trod_int arr4_int64_k g2
    obtain ⟨x3, e3, _, w3⟩ := DataW.trod_int arr4_int64_k g3
    simp at e0 e1 e2 e3
    subst e0 e1 e2 e3
    exact ⟨x0, x1, x2, x3, rfl, Lw.wf_i64 w0, Lw.wf_i64 w1, Lw.wf_i64 w2, Lw.wf_i64 w3⟩
namespace spanFar
open Go.ChangeShapes Go.WideShapes Go.ChangeAt Go.Joins
set_option maxRecDepth 100000 in
theorem lifted (os : Os) (started : os.Started) (H : Type) (enc : TypeId × Value → H) :
    ReturnsInHanded {} Try.checked os 3 .any (Rows.spanFarSpec.pre6 enc Try.prog Try.f3 Rows.spanFarRow.domain false) (Rows.spanFarSpec.post enc Try.prog Try.f3 false true false false) := by
  refine Lw.lifted (C := Try.checked) (B := 4) (by kernel_rfl) os started (by kernel_rfl) Try.func3
    (ChangeSpec.witness6 (enc := enc) (C := Try.checked) false ⟨#[], #[.agg #[.int .i64 0, .int .i64 0, .int .i64 0, .int .i64 0], .int .i64 0, .int .i64 0], []⟩ 8 (by kernel_rfl) (by kernel_rfl) (by kernel_rfl) (by kernel_rfl)) rfl Try.underlying4 (by kernel_rfl) (by kernel_rfl) (by kernel_rfl) ?_ ?_
  · intro ds h
    rw [Try.params3] at h
    match ds, h with
    | [_, _, _], _ => rfl
  · intro W base args ds p hval hA
    rw [Try.params3] at hA hval
    obtain ⟨v0, vs0, d0, ds0, p0, q0, hargs, rfl, rfl, h0, r0⟩ := trodAll_cons hA
    obtain ⟨v1, vs1, d1, ds1, p1, q1, rfl, rfl, rfl, h1, r1⟩ := trodAll_cons r0
    obtain ⟨v2, vs2, d2, ds2, p2, q2, rfl, rfl, rfl, h2, r2⟩ := trodAll_cons r1
    obtain ⟨rfl, rfl, rfl⟩ := trodAll_nil r2
    obtain rfl : args = #[v0, v1, v2] := by cases args; simp_all
    obtain ⟨x0_0, x0_1, x0_2, x0_3, rfl, z0_0, z0_1, z0_2, z0_3⟩ := open_arr4_int64 (hval 0 22 v0 rfl rfl) h0
    obtain ⟨a1, rfl, rfl, rfl, w1⟩ := open_int Try.underlying3 (hval 1 3 v1 rfl rfl) h1
    have b1 := Lw.wf_i64 w1
    obtain ⟨a2, rfl, rfl, rfl, w2⟩ := open_int Try.underlying3 (hval 2 3 v2 rfl rfl) h2
    have b2 := Lw.wf_i64 w2
    exact far_law x0_0 x0_1 x0_2 x0_3 z0_0 z0_1 z0_2 z0_3 a1 a2 W
theorem over : Rows.spanFarRow.holds Try.pinned (OpenSpec.ofChange Rows.spanFarSpec) :=
  OpenClaim.holds_of_wide 3 Try.f3 rfl rfl rfl rfl rfl rfl rfl ⟨rfl, rfl, rfl, rfl, rfl⟩ rfl rfl rfl rfl rfl (by kernel_rfl) Try.func3 (by kernel_rfl)
    (of_decide_eq_true (by kernel_rfl)) (by unfold Func.isWrapper; first | (rw [if_pos (by decide +kernel)]; kernel_rfl) | (rw [if_neg (by decide +kernel)]; exact ⟨rfl, rfl⟩))
    (fun os started H enc _ => lifted os started H enc)
theorem proved : Rows.SpanFarSaid :=
  over
#print axioms proved
end spanFar
end Go.Proofs.Ytbifihhfoanmgaa.Spn
