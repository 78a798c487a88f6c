/- The statement ShapeWrong of layer 7 holds. Printed by wip/gen/shplaws.py. -/
import Derived.Test.YtnbmdlkeeabmjaaShpLawA
import Derived.Deep.LoopGhost
import Derived.Deep.RegionHeld3
import Derived.Deep.MidRow
import Derived.Deep.DeepCutAuto
import Derived.Deep.QuietTactic
import Derived.BigQuiet
namespace Go.Proofs.Ytnbmdlkeeabmjaa.Shp
open Go Go.RowKit Lw
set_option linter.unusedVariables false
set_option linter.unusedSimpArgs false
set_option maxRecDepth 100000 in
set_option maxHeartbeats 4000000 in
theorem wrong_law (c : Cfg) (l k : Int) (w : World) (h : c.Ok) (l0 : -9223372036854775808 ≤ l) (l1 : l ≤ 9223372036854775807) (k0 : 0 ≤ k) (k1 : k ≤ 18446744073709551615) :
    Calls Try.prog 8 #[.agg #[.int .i64 c.bt, .int .i64 c.rw, .int .i64 c.wd, .int .i64 c.md, .int .u64 c.sd], .int .i64 l, .int .u64 k] w fun e w' => e = .returned (.bool true) ∧ Below w.heap.size w w' := by
  have HO := Lib.hid h
  clear h
  by_cases hr : IsRight c
  · have e0 : right c = true := decide_eq_true hr
    clear hr
    go_enter Try.func8, Try.ntmps8
    go_wp2_with (first
      | (go_at_call 9; (with_reducible refine (shown_any _).mono ?_); rintro e w1 ⟨rfl, hb⟩; have HV := Lib.hid ((box_new w _ _).up hb); clear hb; have x0 := box_cell (bx0 HV.out) (i := 0) rfl; have x1 := box_cell (bx0 HV.out) (i := 1) rfl; have x2 := box_cell (bx0 HV.out) (i := 2) rfl; have x3 := box_cell (bx0 HV.out) (i := 3) rfl; have x4 := box_cell (bx0 HV.out) (i := 4) rfl; have hlt : w.heap.size < w1.heap.size := box_lt (bx0 HV.out))
      | (go_at_call 11; (with_reducible refine (rright_any c _ HO.out).mono ?_); rintro e w' ⟨rfl, hb⟩; obtain ⟨bs, d, rfl⟩ := below_grow hb; clear hb))
    all_goals go_ret
    all_goals exact ⟨ret_b (by first | rfl | (simp [*]; done)), below_call HV.out.below (by repeat' (first | (with_reducible exact Below.refl _ _) | (with_reducible assumption) | (with_reducible refine below_over ?_ _ _) | (with_reducible refine Lw.below_alloc ?_ _) | (with_reducible refine Below.drew ?_) | (with_reducible refine below_drewN ?_ _) | (with_reducible refine Below.setCell ?_ ?_ _) | go_size)) (Nat.le_refl _)⟩
  · have e0 : right c = false := decide_eq_false hr
    have e1 : ∀ l, keys c l = 0 := fun l => keys_no (fun h => hr h.1)
    have e2 : exactB c l = false := decide_eq_false (by rw [e1]; omega)
    have e3 : aboveOk c l k = false := decide_eq_false (fun h => h.1 (e1 l))
    have e4 : aboveV c l k = 0 := by unfold aboveV; rw [e3]; rfl
    have e5 : (cols c l k).length = 0 := by rw [cols_len, e1, if_neg (by omega)]
    have e6 := e1 l
    clear hr e1
    go_enter Try.func8, Try.ntmps8
    go_wp2_with (first
      | (go_at_call 9; (with_reducible refine (shown_any _).mono ?_); rintro e w1 ⟨rfl, hb⟩; have HV := Lib.hid ((box_new w _ _).up hb); clear hb; have x0 := box_cell (bx0 HV.out) (i := 0) rfl; have x1 := box_cell (bx0 HV.out) (i := 1) rfl; have x2 := box_cell (bx0 HV.out) (i := 2) rfl; have x3 := box_cell (bx0 HV.out) (i := 3) rfl; have x4 := box_cell (bx0 HV.out) (i := 4) rfl; have hlt : w.heap.size < w1.heap.size := box_lt (bx0 HV.out))
      | (go_at_call 11; (with_reducible refine (rright_any c _ HO.out).mono ?_); rintro e w' ⟨rfl, hb⟩; obtain ⟨bs, d, rfl⟩ := below_grow hb; clear hb)
      | (go_at_call 16; (with_reducible refine (above_any c l k _ HO.out l0 l1 k0 k1).mono ?_); rintro e w' ⟨rfl, hb⟩; obtain ⟨bs, d, rfl⟩ := below_grow hb; clear hb)
      | (go_at_call 12; (with_reducible refine (keys_any c l _ HO.out l0 l1).mono ?_); rintro e w' ⟨rfl, hb⟩; obtain ⟨bs, d, rfl⟩ := below_grow hb; clear hb)
      | (go_at_call 14; (with_reducible refine (exact_any c l _ HO.out l0 l1).mono ?_); rintro e w' ⟨rfl, hb⟩; obtain ⟨bs, d, rfl⟩ := below_grow hb; clear hb)
      | (go_at_call 19; (with_reducible refine (columns_at c l k 0 _ e5 HO.out l0 l1 k0 k1).mono ?_); rintro e w7 ⟨A7, cap7, rfl, hr7, hc7, hm7, hb⟩; obtain ⟨bs, d, rfl⟩ := below_grow hb; clear hb; have HR7 := Lib.hid hr7; clear hr7))
    all_goals go_ret
    all_goals exact ⟨ret_b (by first | rfl | (simp [*]; done)), below_call HV.out.below (by repeat' (first | (with_reducible exact Below.refl _ _) | (with_reducible assumption) | (with_reducible refine below_over ?_ _ _) | (with_reducible refine Lw.below_alloc ?_ _) | (with_reducible refine Below.drew ?_) | (with_reducible refine below_drewN ?_ _) | (with_reducible refine Below.setCell ?_ ?_ _) | go_size)) (Nat.le_refl _)⟩
namespace shapeWrong
open Go.ChangeShapes Go.WideShapes Go.ChangeAt Go.Joins
set_option maxRecDepth 100000 in
theorem lifted (os : Os) (started : os.Started) (H : Type) (enc : TypeId × Value → H) :
    ReturnsInHanded {} Try.checked os 8 .any (Rows.shapeWrongSpec.pre6 enc Try.prog Try.f8 Rows.shapeWrongRow.domain false) (Rows.shapeWrongSpec.post enc Try.prog Try.f8 false true false false) := by
  refine Lw.lifted (C := Try.checked) (B := 4) (by kernel_rfl) os started (by kernel_rfl) Try.func8
    (ChangeSpec.witness6 (enc := enc) (C := Try.checked) false ⟨#[], #[.agg #[.int .i64 0, .int .i64 0, .int .i64 0, .int .i64 0, .int .u64 0], .int .i64 0, .int .u64 0], []⟩ 8 (by kernel_rfl) (by kernel_rfl) (by kernel_rfl) (by kernel_rfl)) rfl Try.underlying4 (by kernel_rfl) (by kernel_rfl) (by kernel_rfl) ?_ ?_
  · intro ds h
    rw [Try.params8] at h
    match ds, h with
    | [_, _, _], _ => rfl
  · intro W base args ds p hval hA
    rw [Try.params8] at hA hval
    obtain ⟨v0, vs0, d0, ds0, p0, q0, hargs, rfl, rfl, h0, r0⟩ := trodAll_cons hA
    obtain ⟨v1, vs1, d1, ds1, p1, q1, rfl, rfl, rfl, h1, r1⟩ := trodAll_cons r0
    obtain ⟨v2, vs2, d2, ds2, p2, q2, rfl, rfl, rfl, h2, r2⟩ := trodAll_cons r1
    obtain ⟨rfl, rfl, rfl⟩ := trodAll_nil r2
    obtain rfl : args = #[v0, v1, v2] := by cases args; simp_all
    obtain ⟨x0, x1, x2, x3, x4, rfl, z0, z1, z2, z3, z4⟩ := open_cfg (hval 0 24 v0 rfl rfl) h0
    obtain ⟨a1, rfl, rfl, rfl, w1⟩ := open_int Try.underlying3 (hval 1 3 v1 rfl rfl) h1
    have b1 := Lw.wf_i64 w1
    obtain ⟨a2, rfl, rfl, rfl, w2⟩ := open_int Try.underlying22 (hval 2 22 v2 rfl rfl) h2
    have b2 := Lw.wf_u64 w2
    exact wrong_law ⟨x0, x1, x2, x3, x4⟩ a1 a2 W ⟨z0.1, z0.2, z1.1, z1.2, z2.1, z2.2, z3.1, z3.2, z4.1, z4.2⟩ b1.1 b1.2 b2.1 b2.2
theorem over : Rows.shapeWrongRow.holds Try.pinned (OpenSpec.ofChange Rows.shapeWrongSpec) :=
  OpenClaim.holds_of_wide 8 Try.f8 rfl rfl rfl rfl rfl rfl rfl ⟨rfl, rfl, rfl, rfl, rfl⟩ rfl rfl rfl rfl rfl (by kernel_rfl) Try.func8 (by kernel_rfl)
    (of_decide_eq_true (by kernel_rfl)) (by unfold Func.isWrapper; first | (rw [if_pos (by decide +kernel)]; kernel_rfl) | (rw [if_neg (by decide +kernel)]; exact ⟨rfl, rfl⟩))
    (fun os started H enc _ => lifted os started H enc)
theorem proved : Rows.ShapeWrongSaid :=
  over
#print axioms proved
end shapeWrong
end Go.Proofs.Ytnbmdlkeeabmjaa.Shp
