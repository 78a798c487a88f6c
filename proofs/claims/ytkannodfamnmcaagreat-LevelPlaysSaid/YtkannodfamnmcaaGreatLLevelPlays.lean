/- The statement LevelPlays of layer 13 holds: two levels of a config are changed, merged, loaded, multiplied and asked as the document says. Printed by wip/gen/levplays.py. -/
import Derived.Test.YtkannodfamnmcaaGreatQo
import Derived.Test.YtkannodfamnmcaaGreatQp
import Derived.Test.YtkannodfamnmcaaGreatQq
import Derived.Deep.LoopGhost
import Derived.Deep.RegionHeld3
import Derived.Deep.DeepCutAuto
import Derived.Deep.QuietTactic
import Derived.BigQuiet
namespace Go.Proofs.YtkannodfamnmcaaGreat.Lev
open Go Go.RowKit Lw Grd Lin Con Shp Sk Exa Inn
set_option linter.unusedVariables false
set_option linter.unusedSimpArgs false
theorem plays_law (x : Cfg) (lv : Int) (A : Option Addr) (n0 k0 : Nat) (qs : List Opk) (w : World) (hx0 : x.Ok) (hlv : -9223372036854775808 ≤ lv ∧ lv ≤ 9223372036854775807) (hq : OpkV w A n0 k0 qs) :
    Calls Tryz.prog 3 #[.agg #[.int .i64 x.bt, .int .i64 x.rw, .int .i64 x.wd, .int .i64 x.md, .int .u64 x.sd], .int .i64 lv, .slice A n0 k0] w fun e w' => e = .returned (.bool true) ∧ Below w.heap.size w w' := by
  obtain ⟨c, hC⟩ : ∃ c, anyC x 6 9 = c := ⟨_, rfl⟩
  have hr := any_right x 6 9 (by omega) (by omega) (by omega) (by omega)
  rw [hC] at hr
  have hbt := hr.1
  have hbt6 := hr.2.1
  obtain ⟨X, l, a1, b1, c1, dd1, ee1, ff1⟩ := level_of lv (c.bt + 1) (by omega) (by omega)
  cases hx : exactB c l with
  | true => exact plays_A x lv A n0 k0 qs w hx0 hlv hq c hC X l a1 b1 c1 dd1 ee1 ff1 hx
  | false => exact plays_S x lv A n0 k0 qs w hx0 hlv hq c hC X l a1 b1 c1 dd1 ee1 ff1 hx
namespace levelPlays
open Go.ChangeShapes Go.WideShapes Go.ChangeAt Go.Joins
set_option maxRecDepth 100000 in
theorem lifted (os : Os) (started : os.Started) (H : Type) (enc : TypeId × Value → H) :
    ReturnsInHanded {} Tryz.checked os 3 .any (Rows.levelPlaysSpec.pre6 enc Tryz.prog Tryz.f3 Rows.levelPlaysRow.domain false) (Rows.levelPlaysSpec.post enc Tryz.prog Tryz.f3 false true false false) := by
  refine Lw.lifted (C := Tryz.checked) (B := 4) (by kernel_rfl) os started (by kernel_rfl) Tryz.func3
    (ChangeSpec.witness6 (enc := enc) (C := Tryz.checked) false ⟨#[], #[.agg #[.int .i64 0, .int .i64 0, .int .i64 0, .int .i64 0, .int .u64 0], .int .i64 0, .slice none 0 0], []⟩ 8 (by kernel_rfl) (by kernel_rfl) (by kernel_rfl) (by kernel_rfl)) rfl Tryz.underlying4 (by kernel_rfl) (by kernel_rfl) (by kernel_rfl) ?_ ?_
  · intro ds h
    rw [Tryz.params3] at h
    match ds, h with
    | [_, _, _], _ => rfl
  · intro W base args ds p hval hA
    rw [Tryz.params3] at hA hval
    obtain ⟨v0, vs0, d0, ds0, p0, q0, hargs, rfl, rfl, h0, r0⟩ := trodAll_cons hA
    obtain ⟨v1, vs1, d1, ds1, p1, q1, rfl, rfl, rfl, h1, r1⟩ := trodAll_cons r0
    obtain ⟨v2, vs2, d2, ds2, p2, q2, rfl, rfl, rfl, h2, r2⟩ := trodAll_cons r1
    obtain ⟨rfl, rfl, rfl⟩ := trodAll_nil r2
    obtain rfl : args = #[v0, v1, v2] := by cases args; simp_all
    obtain ⟨x0_0, x0_1, x0_2, x0_3, x0_4, rfl, z0_0, z0_1, z0_2, z0_3, z0_4⟩ := open_cfg (hval 0 24 v0 rfl rfl) h0
    obtain ⟨a1, rfl, rfl, rfl, w1⟩ := open_int Tryz.underlying3 (hval 1 3 v1 rfl rfl) h1
    have b1 := Lw.wf_i64 w1
    obtain ⟨fu2, hf2⟩ := h2
    obtain ⟨A2, n2, c2, qs2, e2, hA2, hn2, hc2, hl2, he2⟩ := open_opl hf2
    have ev2 : v2 = .slice A2 n2 c2 := by have h := hval 2 25 v2 rfl rfl; obtain ⟨a0, le, ca, rfl⟩ := Go.WideShapes.okWide_slice Tryz.underlying25 h; simpa [Value.cells] using e2
    subst ev2
    exact plays_law ⟨x0_0, x0_1, x0_2, x0_3, x0_4⟩ a1 A2 n2 c2 qs2 W ⟨z0_0.1, z0_0.2, z0_1.1, z0_1.2, z0_2.1, z0_2.2, z0_3.1, z0_3.2, z0_4.1, z0_4.2⟩ b1 ⟨hA2, hn2, hc2, hl2, he2⟩
theorem over : Rows.levelPlaysRow.holds Tryz.pinned (OpenSpec.ofChange Rows.levelPlaysSpec) :=
  OpenClaim.holds_of_wide 3 Tryz.f3 rfl rfl rfl rfl rfl rfl rfl ⟨rfl, rfl, rfl, rfl, rfl⟩ rfl rfl rfl rfl rfl (by kernel_rfl) Tryz.func3 (by kernel_rfl)
    (of_decide_eq_true (by kernel_rfl)) (by unfold Func.isWrapper; first | (rw [if_pos (by decide +kernel)]; kernel_rfl) | (rw [if_neg (by decide +kernel)]; exact ⟨rfl, rfl⟩))
    (fun os started H enc _ => lifted os started H enc)
theorem proved : Rows.LevelPlaysSaid :=
  over
#print axioms proved
end levelPlays
end Go.Proofs.YtkannodfamnmcaaGreat.Lev
