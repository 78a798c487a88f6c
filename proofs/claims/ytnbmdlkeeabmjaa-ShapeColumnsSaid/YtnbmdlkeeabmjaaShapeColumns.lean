/- The statement ShapeColumns of layer 7 holds. Printed by wip/gen/shplaws.py. -/
import Derived.Test.YtnbmdlkeeabmjaaShpLawA
import Derived.Deep.LoopGhost
import Derived.Deep.RegionHeld3
import Derived.Deep.MidRow
import Derived.Deep.DeepCutAuto
import Derived.Deep.QuietTactic
import Derived.BigQuiet
namespace Go.Proofs.Ytnbmdlkeeabmjaa.Shp
open Go Go.RowKit Lw
set_option linter.unusedVariables false
set_option linter.unusedSimpArgs false
set_option maxRecDepth 100000 in
set_option maxHeartbeats 4000000 in
theorem columns_law (c : Cfg) (l k : Int) (w : World) (h : c.Ok) (l0 : -9223372036854775808 ≤ l) (l1 : l ≤ 9223372036854775807) (k0 : 0 ≤ k) (k1 : k ≤ 18446744073709551615) :
    Calls Try.prog 4 #[.agg #[.int .i64 c.bt, .int .i64 c.rw, .int .i64 c.wd, .int .i64 c.md, .int .u64 c.sd], .int .i64 l, .int .u64 k] w fun e w' => e = .returned (.bool true) ∧ Below w.heap.size w w' := by
  have HO := Lib.hid h
  clear h
  obtain ⟨n, hn⟩ : ∃ n, (cols c l k).length = n := ⟨_, rfl⟩
  have hn8 : n ≤ 9223372036854775807 := by
    rw [cols_len] at hn
    have := HO.out.r1
    split at hn <;> omega
  have HN := Lib.hid hn
  clear hn
  go_enter Try.func4, Try.ntmps4
  go_wp2_with (first
    | (go_at_call 9; (with_reducible refine (shown_any _).mono ?_); rintro e w1 ⟨rfl, hb⟩; have HV := Lib.hid ((box_new w _ _).up hb); clear hb; have x0 := box_cell (bx0 HV.out) (i := 0) rfl; have x1 := box_cell (bx0 HV.out) (i := 1) rfl; have x2 := box_cell (bx0 HV.out) (i := 2) rfl; have x3 := box_cell (bx0 HV.out) (i := 3) rfl; have x4 := box_cell (bx0 HV.out) (i := 4) rfl; have hlt : w.heap.size < w1.heap.size := box_lt (bx0 HV.out))
    | (go_at_call 16; (with_reducible refine (above_any c l k _ HO.out l0 l1 k0 k1).mono ?_); rintro e w' ⟨rfl, hb⟩; obtain ⟨bs, d, rfl⟩ := below_grow hb; clear hb)
    | (go_at_call 17; (with_reducible refine (rabove_any c l k _ HO.out l0 l1 k0 k1).mono ?_); rintro e w' ⟨rfl, hb⟩; obtain ⟨bs, d, rfl⟩ := below_grow hb; clear hb))
  go_region_held3 (fun w' => w'.cell? ⟨w.heap.size, 0, none⟩ = some (.int .i64 c.bt) ∧ w'.cell? ⟨w.heap.size, 1, none⟩ = some (.int .i64 c.rw) ∧ w'.cell? ⟨w.heap.size, 2, none⟩ = some (.int .i64 c.wd) ∧ w'.cell? ⟨w.heap.size, 3, none⟩ = some (.int .i64 c.md) ∧ w'.cell? ⟨w.heap.size, 4, none⟩ = some (.int .u64 c.sd)) (refine ⟨cell_up x0 ?_, cell_up x1 ?_, cell_up x2 ?_, cell_up x3 ?_, cell_up x4 ?_⟩ <;> (repeat' (first | (with_reducible exact Below.refl _ _) | (with_reducible assumption) | (with_reducible exact HBW.out) | (with_reducible exact HB78.out) | (with_reducible refine below_over ?_ _ _) | (with_reducible refine Lw.below_alloc ?_ _) | (with_reducible refine Below.drew ?_) | (with_reducible refine below_drewN ?_ _) | (with_reducible refine Below.setCell ?_ ?_ _) | go_size))) (first
      | (go_at_call 18; (with_reducible refine (rsame_any A7 (some A8) n n cap7 cap8 (cols c l k) (cols c l k) _ (HR7.out.up (by repeat' (first | (with_reducible exact Below.refl _ _) | (with_reducible assumption) | (with_reducible exact HBW.out) | (with_reducible exact HB78.out) | (with_reducible refine below_over ?_ _ _) | (with_reducible refine Lw.below_alloc ?_ _) | (with_reducible refine Below.drew ?_) | (with_reducible refine below_drewN ?_ _) | (with_reducible refine Below.setCell ?_ ?_ _) | go_size))) (HR8.out.up (by repeat' (first | (with_reducible exact Below.refl _ _) | (with_reducible assumption) | (with_reducible exact HBW.out) | (with_reducible exact HB78.out) | (with_reducible refine below_over ?_ _ _) | (with_reducible refine Lw.below_alloc ?_ _) | (with_reducible refine Below.drew ?_) | (with_reducible refine below_drewN ?_ _) | (with_reducible refine Below.setCell ?_ ?_ _) | go_size))) HN.out HN.out hn8 hn8).mono ?_); rintro e w' ⟨rfl, hb⟩; obtain ⟨bs, d, rfl⟩ := below_grow hb; clear hb)
      | (go_at_call 19; (with_reducible refine (columns_at c l k n _ HN.out HO.out l0 l1 k0 k1).mono ?_); rintro e w7 ⟨A7, cap7, rfl, hr7, hc7, hm7, hb⟩; have HBW : Hid (Below w1.heap.size w1 w7) := Lib.hid (below_call (by repeat' (first | (with_reducible exact Below.refl _ _) | (with_reducible assumption) | (with_reducible exact HBW.out) | (with_reducible exact HB78.out) | (with_reducible refine below_over ?_ _ _) | (with_reducible refine Lw.below_alloc ?_ _) | (with_reducible refine Below.drew ?_) | (with_reducible refine below_drewN ?_ _) | (with_reducible refine Below.setCell ?_ ?_ _) | go_size)) hb (Nat.le_refl _)); clear hb; have HR7 := Lib.hid hr7; clear hr7)
      | (go_at_call 20; (with_reducible refine (rcols_at c l k n _ HN.out HO.out l0 l1 k0 k1).mono ?_); rintro e w8 ⟨A8, cap8, rfl, hr8, hc8, hm8, hb⟩; have HBW : Hid (Below w1.heap.size w1 w8) := Lib.hid (below_call (by repeat' (first | (with_reducible exact Below.refl _ _) | (with_reducible assumption) | (with_reducible exact HBW.out) | (with_reducible exact HB78.out) | (with_reducible refine below_over ?_ _ _) | (with_reducible refine Lw.below_alloc ?_ _) | (with_reducible refine Below.drew ?_) | (with_reducible refine below_drewN ?_ _) | (with_reducible refine Below.setCell ?_ ?_ _) | go_size)) hb (Nat.le_refl _)); have HB78 : Hid (Below w7.heap.size w7 w8) := Lib.hid (below_call (by repeat' (first | (with_reducible exact Below.refl _ _) | (with_reducible assumption) | (with_reducible exact HBW.out) | (with_reducible exact HB78.out) | (with_reducible refine below_over ?_ _ _) | (with_reducible refine Lw.below_alloc ?_ _) | (with_reducible refine Below.drew ?_) | (with_reducible refine below_drewN ?_ _) | (with_reducible refine Below.setCell ?_ ?_ _) | go_size)) hb (Nat.le_refl _)); clear hb; have HR8 := Lib.hid hr8; clear hr8))
  all_goals go_wp2
  all_goals go_ret
  all_goals exact ⟨ret_b (by first | rfl | (simp [*]; done)), below_call HV.out.below (by repeat' (first | (with_reducible exact Below.refl _ _) | (with_reducible assumption) | (with_reducible exact HBW.out) | (with_reducible exact HB78.out) | (with_reducible refine below_over ?_ _ _) | (with_reducible refine Lw.below_alloc ?_ _) | (with_reducible refine Below.drew ?_) | (with_reducible refine below_drewN ?_ _) | (with_reducible refine Below.setCell ?_ ?_ _) | go_size)) (Nat.le_refl _)⟩
namespace shapeColumns
open Go.ChangeShapes Go.WideShapes Go.ChangeAt Go.Joins
set_option maxRecDepth 100000 in
theorem lifted (os : Os) (started : os.Started) (H : Type) (enc : TypeId × Value → H) :
    ReturnsInHanded {} Try.checked os 4 .any (Rows.shapeColumnsSpec.pre6 enc Try.prog Try.f4 Rows.shapeColumnsRow.domain false) (Rows.shapeColumnsSpec.post enc Try.prog Try.f4 false true false false) := by
  refine Lw.lifted (C := Try.checked) (B := 4) (by kernel_rfl) os started (by kernel_rfl) Try.func4
    (ChangeSpec.witness6 (enc := enc) (C := Try.checked) false ⟨#[], #[.agg #[.int .i64 0, .int .i64 0, .int .i64 0, .int .i64 0, .int .u64 0], .int .i64 0, .int .u64 0], []⟩ 8 (by kernel_rfl) (by kernel_rfl) (by kernel_rfl) (by kernel_rfl)) rfl Try.underlying4 (by kernel_rfl) (by kernel_rfl) (by kernel_rfl) ?_ ?_
  · intro ds h
    rw [Try.params4] at h
    match ds, h with
    | [_, _, _], _ => rfl
  · intro W base args ds p hval hA
    rw [Try.params4] at hA hval
    obtain ⟨v0, vs0, d0, ds0, p0, q0, hargs, rfl, rfl, h0, r0⟩ := trodAll_cons hA
    obtain ⟨v1, vs1, d1, ds1, p1, q1, rfl, rfl, rfl, h1, r1⟩ := trodAll_cons r0
    obtain ⟨v2, vs2, d2, ds2, p2, q2, rfl, rfl, rfl, h2, r2⟩ := trodAll_cons r1
    obtain ⟨rfl, rfl, rfl⟩ := trodAll_nil r2
    obtain rfl : args = #[v0, v1, v2] := by cases args; simp_all
    obtain ⟨x0, x1, x2, x3, x4, rfl, z0, z1, z2, z3, z4⟩ := open_cfg (hval 0 24 v0 rfl rfl) h0
    obtain ⟨a1, rfl, rfl, rfl, w1⟩ := open_int Try.underlying3 (hval 1 3 v1 rfl rfl) h1
    have b1 := Lw.wf_i64 w1
    obtain ⟨a2, rfl, rfl, rfl, w2⟩ := open_int Try.underlying22 (hval 2 22 v2 rfl rfl) h2
    have b2 := Lw.wf_u64 w2
    exact columns_law ⟨x0, x1, x2, x3, x4⟩ a1 a2 W ⟨z0.1, z0.2, z1.1, z1.2, z2.1, z2.2, z3.1, z3.2, z4.1, z4.2⟩ b1.1 b1.2 b2.1 b2.2
theorem over : Rows.shapeColumnsRow.holds Try.pinned (OpenSpec.ofChange Rows.shapeColumnsSpec) :=
  OpenClaim.holds_of_wide 4 Try.f4 rfl rfl rfl rfl rfl rfl rfl ⟨rfl, rfl, rfl, rfl, rfl⟩ rfl rfl rfl rfl rfl (by kernel_rfl) Try.func4 (by kernel_rfl)
    (of_decide_eq_true (by kernel_rfl)) (by unfold Func.isWrapper; first | (rw [if_pos (by decide +kernel)]; kernel_rfl) | (rw [if_neg (by decide +kernel)]; exact ⟨rfl, rfl⟩))
    (fun os started H enc _ => lifted os started H enc)
theorem proved : Rows.ShapeColumnsSaid :=
  over
#print axioms proved
end shapeColumns
end Go.Proofs.Ytnbmdlkeeabmjaa.Shp
