/- Texts that statements lean on, put together: SkLawA, SkDocC, StkFed. -/
import Derived.Test.YtkflggojiiebeaaGreatQaa
import Derived.Test.YtkflggojiiebeaaGreatQab
import Derived.Test.YtkflggojiiebeaaGreatQac
import Derived.Test.YtkflggojiiebeaaGreatQad
import Derived.Test.YtkflggojiiebeaaGreatQae
import Derived.Test.YtkflggojiiebeaaGreatQaf
import Derived.Test.YtkflggojiiebeaaGreatQag
import Derived.Test.YtkflggojiiebeaaGreatRows
import Derived.WalkKit
import Derived.ProofKit
import Derived.OpenShut
import Derived.DataShut
import Derived.Lib.SmallJoins
import Derived.Handy
import Derived.WalkSmall
import Derived.Deep.Draws
import Derived.WalkSpells
import Derived.Laws.AppendOwnNone
import Derived.Deep.AppendLies
import Derived.Lib.Hide
import Derived.Deep.MidRow
import Derived.Laws.BitsAllLaws
import Derived.WalkMore
import Derived.Deep.LoopGhost
import Derived.Deep.RegionHeld3
import Derived.Deep.QuietTactic
import Derived.BigQuiet
import Derived.Laws.Cover3
import Derived.Shelf.Spec.BitsCarry
import Derived.Laws.OwnMore
import Derived.Deep.DeepCutAuto
import Derived.Laws.EntriesVeiled
import Derived.Deep.CutRange
import Derived.RangeFuncNested
import Derived.RangeFuncBound
import Derived.RangeFuncCalls
import Derived.RangeFuncLeaves
import Derived.Shelf.Abstract
import Derived.Shelf.RegionOpen
import Derived.OwnWalkIn
import Derived.TacticsInMore
import Derived.LoopNIn
import Derived.LoopIn
import Derived.RangeFuncBox
import Derived.Maps.AppendAt
namespace Go.Proofs.YtkflggojiiebeaaGreat.Con
end Go.Proofs.YtkflggojiiebeaaGreat.Con
namespace Go.Proofs.YtkflggojiiebeaaGreat.Exa
end Go.Proofs.YtkflggojiiebeaaGreat.Exa
namespace Go.Proofs.YtkflggojiiebeaaGreat.Fld
end Go.Proofs.YtkflggojiiebeaaGreat.Fld
namespace Go.Proofs.YtkflggojiiebeaaGreat.Grd
end Go.Proofs.YtkflggojiiebeaaGreat.Grd
namespace Go.Proofs.YtkflggojiiebeaaGreat.Hsh
end Go.Proofs.YtkflggojiiebeaaGreat.Hsh
namespace Go.Proofs.YtkflggojiiebeaaGreat.Hvy
end Go.Proofs.YtkflggojiiebeaaGreat.Hvy
namespace Go.Proofs.YtkflggojiiebeaaGreat.Inn
end Go.Proofs.YtkflggojiiebeaaGreat.Inn
namespace Go.Proofs.YtkflggojiiebeaaGreat.Lev
end Go.Proofs.YtkflggojiiebeaaGreat.Lev
namespace Go.Proofs.YtkflggojiiebeaaGreat.Lin
end Go.Proofs.YtkflggojiiebeaaGreat.Lin
namespace Go.Proofs.YtkflggojiiebeaaGreat.Lw
end Go.Proofs.YtkflggojiiebeaaGreat.Lw
namespace Go.Proofs.YtkflggojiiebeaaGreat.Ord
end Go.Proofs.YtkflggojiiebeaaGreat.Ord
namespace Go.Proofs.YtkflggojiiebeaaGreat.Pcs
end Go.Proofs.YtkflggojiiebeaaGreat.Pcs
namespace Go.Proofs.YtkflggojiiebeaaGreat.Qnt
end Go.Proofs.YtkflggojiiebeaaGreat.Qnt
namespace Go.Proofs.YtkflggojiiebeaaGreat.Sed
end Go.Proofs.YtkflggojiiebeaaGreat.Sed
namespace Go.Proofs.YtkflggojiiebeaaGreat.Shp
end Go.Proofs.YtkflggojiiebeaaGreat.Shp
namespace Go.Proofs.YtkflggojiiebeaaGreat.Sk
end Go.Proofs.YtkflggojiiebeaaGreat.Sk
namespace Go.Proofs.YtkflggojiiebeaaGreat.Smr
end Go.Proofs.YtkflggojiiebeaaGreat.Smr
namespace Go.Proofs.YtkflggojiiebeaaGreat.Spn
end Go.Proofs.YtkflggojiiebeaaGreat.Spn
namespace Go.Proofs.YtkflggojiiebeaaGreat.Stk
end Go.Proofs.YtkflggojiiebeaaGreat.Stk
namespace Go.Proofs.YtkflggojiiebeaaGreat.Wid
end Go.Proofs.YtkflggojiiebeaaGreat.Wid
namespace Go.Proofs.YtkflggojiiebeaaGreat.Sk
open Go Go.RowKit Lw Grd Lin Con Shp
set_option linter.unusedVariables false
set_option linter.unusedSimpArgs false
theorem open_upds_u : Tryz.prog.underlying 25 = some (.slice 38) := by kernel_rfl
theorem open_upds_c : Tryz.prog.cellsOf 38 = 2 := by kernel_rfl
set_option maxRecDepth 100000 in
theorem open_upds {H : Type} {enc : TypeId × Value → H} {w : World} {base fuel : Nat} {spare : Nat → Bool} {held : Bool} {cs : List Value} {x : DataW H × List MemPlace} (h : DataW.trod enc Tryz.prog w base spare held fuel 25 cs = some x) :
    ∃ (A : Option Addr) (len cap : Nat) (qs : List (Int × Int)), cs = [.slice A len cap] ∧ (A = none → len = 0 ∧ cap = 0) ∧ len ≤ cap ∧ cap ≤ maxLen ∧ qs.length = len ∧ ∀ (i : Nat) q, qs[i]? = some q → ∃ a, A = some a ∧ w.cell? (a.add (i * 2)) = some (.int .u64 (q.1)) ∧ w.cell? (a.add (i * 2 + 1)) = some (.int .i64 (q.2)) ∧ (0 ≤ (q.1) ∧ (q.1) ≤ 18446744073709551615) ∧ (-9223372036854775808 ≤ (q.2) ∧ (q.2) ≤ 9223372036854775807) := by
  rcases Go.Deep.open_slice open_upds_u h with ⟨rfl, _⟩ | ⟨a, len, cap, m, n, D, Pl, rfl, hb, hl, hm, hmm, _, hx⟩
  · exact ⟨none, 0, 0, [], rfl, fun _ => ⟨rfl, rfl⟩, Nat.le_refl _, by simp, rfl, fun i q hq => by simp at hq⟩
  have hlm : len ≤ m := by rw [hmm]; split <;> omega
  have each : ∀ i, i < len → ∃ q : Int × Int, w.cell? (a.add (i * 2)) = some (.int .u64 (q.1)) ∧ w.cell? (a.add (i * 2 + 1)) = some (.int .i64 (q.2)) ∧ (0 ≤ (q.1) ∧ (q.1) ≤ 18446744073709551615) ∧ (-9223372036854775808 ≤ (q.2) ∧ (q.2) ≤ 9223372036854775807) := by
    intro i hi
    obtain ⟨cs', h1, h2⟩ := hx i (by omega)
    rw [open_upds_c] at h1
    obtain ⟨_, hlen, hcell⟩ := World.cells?_some h1
    obtain ⟨xs, k, _, _, _, hxl, hf⟩ := DataW.trod_struct Tryz.underlying38 h2
    match xs, hxl, cs', hlen with
    | [y0, y1], _, [v0, v1], _ =>
      have g0 := hf 0 _ rfl
      have g1 := hf 1 _ rfl
      have e0 := hcell 0 (by omega)
      have e1 := hcell 1 (by omega)
      rw [add_add'] at e0 e1
      simp [show Tryz.prog.cellsOf 22 = 1 from by kernel_rfl, show Tryz.prog.cellsOf 2 = 1 from by kernel_rfl] at g0 g1
      obtain ⟨x0, f0, _, w0⟩ := DataW.trod_int (show Tryz.prog.underlying 22 = some (.int .u64) by kernel_rfl) g0
      obtain ⟨x1, f1, _, w1⟩ := DataW.trod_int (show Tryz.prog.underlying 2 = some (.int .i64) by kernel_rfl) g1
      simp at f0 f1
      subst f0 f1
      exact ⟨(x0, x1), by simpa using e0, by simpa using e1, Lw.wf_u64 w0, Lw.wf_i64 w1⟩
  have each2 : ∀ i, ∃ q : Int × Int, i < len → (w.cell? (a.add (i * 2)) = some (.int .u64 (q.1)) ∧ w.cell? (a.add (i * 2 + 1)) = some (.int .i64 (q.2)) ∧ (0 ≤ (q.1) ∧ (q.1) ≤ 18446744073709551615) ∧ (-9223372036854775808 ≤ (q.2) ∧ (q.2) ≤ 9223372036854775807)) := fun i => by
    by_cases hi : i < len
    · obtain ⟨q, hq⟩ := each i hi
      exact ⟨q, fun _ => hq⟩
    · exact ⟨(0, 0), fun h => absurd h hi⟩
  refine ⟨some a, len, cap, (List.range len).map fun i => Classical.choose (each2 i), rfl, (fun h => by cases h), hl, hm, by simp, ?_⟩
  intro i q hq
  rw [List.getElem?_map] at hq
  obtain ⟨j, hj, rfl⟩ := Option.map_eq_some_iff.1 hq
  have hj2 := List.getElem?_eq_some_iff.1 hj
  obtain ⟨hj3, hj4⟩ := hj2
  simp at hj3 hj4
  subst hj4
  exact ⟨a, rfl, Classical.choose_spec (each2 i) hj3⟩
end Go.Proofs.YtkflggojiiebeaaGreat.Sk

namespace Go.Proofs.YtkflggojiiebeaaGreat.Sk
open Go Go.RowKit Lw Grd Lin Con Shp
set_option linter.unusedVariables false
set_option linter.unusedSimpArgs false
/-- A row of a grid of the document's is put in the place of another one. -/
theorem _root_.Go.Proofs.YtkflggojiiebeaaGreat.Grd.RG.setRow {w : World} {b gh cap : Nat} {R : List Row} (h : RG w b (.slice (some ⟨gh, 0, none⟩) R.length cap) R) {K : Nat} (hK : K < R.length) (g c : Nat) (zs : List Int) (hown : w.ownsRow 0 2 1 (rowHd (g, c, zs)) zs.length (zs.map (Value.int .i64))) (hf : ¬ RF b (.slice (some ⟨gh, 0, none⟩) R.length cap) R g) :
    RG (w.setCell ⟨gh, K, none⟩ (rowHd (g, c, zs))) b (.slice (some ⟨gh, 0, none⟩) (R.set K (g, c, zs)).length cap) (R.set K (g, c, zs)) := by
  have hgh : g ≠ gh := fun e => hf (.inr (.inl (by rw [e]; rfl)))
  have hgb : g ≠ b := fun e => hf (.inl e)
  have hgr : ∀ r ∈ R, r.1 ≠ g := fun r hr e => hf (.inr (.inr ⟨r, hr, e⟩))
  have hk : Kept (fun q => q = gh) w (w.setCell ⟨gh, K, none⟩ (rowHd (g, c, zs))) := Kept.set (F := fun q => q = gh) (Kept.refl _ w) (.inl rfl) K _
  have hbg : b ≠ gh := fun e => h.apart1 (by rw [e]; rfl)
  rw [List.length_set]
  refine ⟨hk.heap h.cell hbg, ?_, ?_, h.apart1, ?_, ?_⟩
  · have hs := (h.outer.stored (g := gh) (cap := cap) K (rowHd (g, c, zs))).1
    rw [List.length_set, List.map_set]
    exact hs
  · intro x hx
    rcases List.mem_or_eq_of_mem_set hx with hx | rfl
    · exact hk.own (h.rows x hx) (fun q hq e => (h.apart2 x hx).2 (by simp [rowHd, Value.ownBlock] at hq ⊢; omega))
    · exact hk.own hown (fun q hq e => hgh (by simp [rowHd, Value.ownBlock] at hq; omega))
  · intro x hx
    rcases List.mem_or_eq_of_mem_set hx with hx | rfl
    · exact h.apart2 x hx
    · exact ⟨hgb, fun e => hgh (by simp [Value.ownBlock] at e; exact e.symm)⟩
  · rw [List.map_set]
    have hnd := h.nd
    refine List.pairwise_iff_getElem.2 fun i j hi hj hij => ?_
    have hi2 : i < (R.map (·.1)).length := by simpa using hi
    have hj2 : j < (R.map (·.1)).length := by simpa using hj
    have hne := List.pairwise_iff_getElem.1 hnd i j hi2 hj2 hij
    rw [List.getElem_set, List.getElem_set]
    by_cases h1 : K = i
    · rw [if_pos h1, if_neg (by omega)]
      intro e
      have hm := List.getElem_mem (l := R) (n := j) (by simpa using hj2)
      exact hgr _ hm (by simpa using e.symm)
    · rw [if_neg h1]
      by_cases h2 : K = j
      · rw [if_pos h2]
        intro e
        have hm := List.getElem_mem (l := R) (n := i) (by simpa using hi2)
        exact hgr _ hm (by simpa using e)
      · rw [if_neg h2]
        exact hne
end Go.Proofs.YtkflggojiiebeaaGreat.Sk

namespace Go.Proofs.YtkflggojiiebeaaGreat.Stk
open Go Go.RowKit Lw Grd Lin Con Shp Sk Exa Lev
set_option linter.unusedVariables false
set_option linter.unusedSimpArgs false
theorem box6 {w : World} {b : Nat} {e : TypeId} {v0 v1 v2 v3 v4 v5 : Value} (h : (boxT b e #[v0, v1, v2, v3, v4, v5]).I w) : w.cell? ⟨b, 0, none⟩ = some v0 ∧ w.cell? ⟨b, 1, none⟩ = some v1 ∧ w.cell? ⟨b, 2, none⟩ = some v2 ∧ w.cell? ⟨b, 3, none⟩ = some v3 ∧ w.cell? ⟨b, 4, none⟩ = some v4 ∧ w.cell? ⟨b, 5, none⟩ = some v5 :=
  ⟨box_cell h rfl, box_cell h rfl, box_cell h rfl, box_cell h rfl, box_cell h rfl, box_cell h rfl⟩
end Go.Proofs.YtkflggojiiebeaaGreat.Stk

