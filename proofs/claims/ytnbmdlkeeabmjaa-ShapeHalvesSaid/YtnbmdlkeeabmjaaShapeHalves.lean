/- The statement ShapeHalves of layer 7 holds. Printed by wip/gen/shplaws.py. -/
import Derived.Test.YtnbmdlkeeabmjaaShpHalY
import Derived.Test.YtnbmdlkeeabmjaaShpHalN
import Derived.Deep.LoopGhost
import Derived.Deep.RegionHeld3
import Derived.Deep.MidRow
import Derived.Deep.DeepCutAuto
import Derived.Deep.QuietTactic
import Derived.BigQuiet
namespace Go.Proofs.Ytnbmdlkeeabmjaa.Shp
open Go Go.RowKit Lw
set_option linter.unusedVariables false
set_option linter.unusedSimpArgs false
theorem halves_law (c : Cfg) (l : Int) (w : World) (h : c.Ok) (l0 : -9223372036854775808 ≤ l) (l1 : l ≤ 9223372036854775807) :
    Calls Try.prog 6 #[.agg #[.int .i64 c.bt, .int .i64 c.rw, .int .i64 c.wd, .int .i64 c.md, .int .u64 c.sd], .int .i64 l] w fun e w' => e = .returned (.bool true) ∧ Below w.heap.size w w' := by
  cases he : exactB (anyC c 59 128) (Int.tmod (bits .and .i64 l 65535) (anyC c 59 128).bt)
  · exact halves_no c l w h l0 l1 (by rintro _ _ _ rfl rfl rfl; exact he)
  · exact halves_yes c l w h l0 l1 (by rintro _ _ _ rfl rfl rfl; exact he)
namespace shapeHalves
open Go.ChangeShapes Go.WideShapes Go.ChangeAt Go.Joins
set_option maxRecDepth 100000 in
theorem lifted (os : Os) (started : os.Started) (H : Type) (enc : TypeId × Value → H) :
    ReturnsInHanded {} Try.checked os 6 .any (Rows.shapeHalvesSpec.pre6 enc Try.prog Try.f6 Rows.shapeHalvesRow.domain false) (Rows.shapeHalvesSpec.post enc Try.prog Try.f6 false true false false) := by
  refine Lw.lifted (C := Try.checked) (B := 4) (by kernel_rfl) os started (by kernel_rfl) Try.func6
    (ChangeSpec.witness6 (enc := enc) (C := Try.checked) false ⟨#[], #[.agg #[.int .i64 0, .int .i64 0, .int .i64 0, .int .i64 0, .int .u64 0], .int .i64 0], []⟩ 8 (by kernel_rfl) (by kernel_rfl) (by kernel_rfl) (by kernel_rfl)) rfl Try.underlying4 (by kernel_rfl) (by kernel_rfl) (by kernel_rfl) ?_ ?_
  · intro ds h
    rw [Try.params6] at h
    match ds, h with
    | [_, _], _ => rfl
  · intro W base args ds p hval hA
    rw [Try.params6] at hA hval
    obtain ⟨v0, vs0, d0, ds0, p0, q0, hargs, rfl, rfl, h0, r0⟩ := trodAll_cons hA
    obtain ⟨v1, vs1, d1, ds1, p1, q1, rfl, rfl, rfl, h1, r1⟩ := trodAll_cons r0
    obtain ⟨rfl, rfl, rfl⟩ := trodAll_nil r1
    obtain rfl : args = #[v0, v1] := by cases args; simp_all
    obtain ⟨x0, x1, x2, x3, x4, rfl, z0, z1, z2, z3, z4⟩ := open_cfg (hval 0 24 v0 rfl rfl) h0
    obtain ⟨a1, rfl, rfl, rfl, w1⟩ := open_int Try.underlying3 (hval 1 3 v1 rfl rfl) h1
    have b1 := Lw.wf_i64 w1
    exact halves_law ⟨x0, x1, x2, x3, x4⟩ a1 W ⟨z0.1, z0.2, z1.1, z1.2, z2.1, z2.2, z3.1, z3.2, z4.1, z4.2⟩ b1.1 b1.2
theorem over : Rows.shapeHalvesRow.holds Try.pinned (OpenSpec.ofChange Rows.shapeHalvesSpec) :=
  OpenClaim.holds_of_wide 6 Try.f6 rfl rfl rfl rfl rfl rfl rfl ⟨rfl, rfl, rfl, rfl, rfl⟩ rfl rfl rfl rfl rfl (by kernel_rfl) Try.func6 (by kernel_rfl)
    (of_decide_eq_true (by kernel_rfl)) (by unfold Func.isWrapper; first | (rw [if_pos (by decide +kernel)]; kernel_rfl) | (rw [if_neg (by decide +kernel)]; exact ⟨rfl, rfl⟩))
    (fun os started H enc _ => lifted os started H enc)
theorem proved : Rows.ShapeHalvesSaid :=
  over
#print axioms proved
end shapeHalves
end Go.Proofs.Ytnbmdlkeeabmjaa.Shp
