/- slices.Clone of a row of whole numbers, nil or not: a row of one's own. -/
import Derived.Test.YtonbidohhgenlaaRow
import Derived.Test.YtonbidohhgenlaaOrdMid
import Derived.Deep.LoopGhost
import Derived.Deep.RegionHeld3
import Derived.Laws.Cover3
import Derived.WalkMore
namespace Go.Proofs.Ytonbidohhgenlaa.Slc
open Go Go.RowKit Lw
set_option linter.unusedVariables false
set_option linter.unusedSimpArgs false
theorem i64_inf : (Try.prog.info? 2).map (fun i => (i.zero, i.size, i.bytes)) = some (some (.int .i64 0), 1, 8) := by kernel_rfl
theorem i64s_und : Try.prog.underlying 37 = some (.slice 2) := by kernel_rfl
theorem eql_nil {P : Program} (w : World) (t e : TypeId) (a : Option Addr) (l c : Nat) (h : P.underlying t = some (.slice e)) : (binOp .eql t (.slice a l c) (.slice none 0 0)).run P w = .ok (.bool a.isNone) w := by
  simp only [binOp]
  simp [run_equal_slice_nil w t e a l c h]
theorem clone_some (ad : Addr) (n cap : Nat) (zs : List Int) (w : World) (hn : n ≤ cap) (hcap : cap ≤ maxLen) (hr : Rd .i64 w (some ad) zs) (hl : zs.length = n) (hs : n ≤ 1048576) :
    Calls Try.prog 30 #[.slice (some ad) n cap] w fun e w' => ∃ (g cap2 : Nat), e = .returned (.slice (some ⟨g, 0, none⟩) n cap2) ∧ Ord.Mid w' g 0 zs ∧ w.heap.size ≤ g ∧ n ≤ cap2 ∧ cap2 ≤ maxLen ∧ Below w.heap.size w w' := by
  obtain ⟨i0, hi, hz0, hz1, hz2⟩ := info_parts i64_inf
  have HR := Lib.hid hr
  have HL := Lib.hid hl
  unfold maxLen at hcap
  have hq : ∀ w', (binOp .eql 37 (.slice (some ad) n cap) (.slice none 0 0)).run Try.prog w' = .ok (.bool false) w' := fun w' => eql_nil w' _ _ (some ad) n cap i64s_und
  clear hr hl
  go_enter Try.func30, Try.ntmps30
  go_wp2_with (at_builtin; refine app_any .i64 rfl _ _ 37 rfl w.heap.size 2 i0 8 i64s_und hi hz0 hz1 hz2 (.slice (some ⟨w.heap.size, 0, none⟩) 0 0) 0 [] rfl (own_empty w _ _ _ (Nat.le_refl _)) (fun h => by cases h) (some ad) n cap zs rfl (by simp) HL.out (HR.out.up (Lw.below_alloc (Below.refl _ _) _)) (by unfold maxLen; omega) (by omega) (by simp) ?_; intro A6 cap6 w6 own6 grow6 rd6 c6 d6; have hb6 : Below w.heap.size w w6 := app_below grow6 (Nat.le_refl _); (simp only [Nat.zero_add, List.nil_append] at own6 c6); (simp only [Nat.zero_add]); clear grow6 rd6)
  go_ret
  obtain ⟨g, rfl, hg, hm⟩ := Ord.mid_own own6
  exact ⟨g, cap6, rfl, hm, hg, c6, d6, hb6⟩
theorem clone_none (w : World) :
    Calls Try.prog 30 #[.slice none 0 0] w fun e w' => e = .returned (.slice none 0 0) ∧ w' = w := by
  have hq : ∀ w', (binOp .eql 37 (.slice none 0 0) (.slice none 0 0)).run Try.prog w' = .ok (.bool true) w' := fun w' => eql_nil w' _ _ none 0 0 i64s_und
  go_enter Try.func30, Try.ntmps30
  go_wp2
  go_ret
  exact ⟨rfl, rfl⟩
end Go.Proofs.Ytonbidohhgenlaa.Slc
