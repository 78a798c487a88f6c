/- Texts that statements lean on, put together: HvyOrd, SmrTopM, SmrSel. -/
import Derived.Test.YtkflggojiiebeaaGreatQaa
import Derived.Test.YtkflggojiiebeaaGreatQab
import Derived.Test.YtkflggojiiebeaaGreatQac
import Derived.Test.YtkflggojiiebeaaGreatQad
import Derived.Test.YtkflggojiiebeaaGreatQae
import Derived.Test.YtkflggojiiebeaaGreatQaf
import Derived.Test.YtkflggojiiebeaaGreatQba
import Derived.Test.YtkflggojiiebeaaGreatQda
import Derived.Test.YtkflggojiiebeaaGreatQea
import Derived.Test.YtkflggojiiebeaaGreatQga
import Derived.Test.YtkflggojiiebeaaGreatQja
import Derived.Test.YtkflggojiiebeaaGreatRows
import Derived.WalkKit
import Derived.ProofKit
import Derived.OpenShut
import Derived.DataShut
import Derived.Lib.SmallJoins
import Derived.Handy
import Derived.WalkSmall
import Derived.Deep.Draws
import Derived.WalkSpells
import Derived.Laws.AppendOwnNone
import Derived.Deep.AppendLies
import Derived.Lib.Hide
import Derived.Deep.MidRow
import Derived.Laws.BitsAllLaws
import Derived.WalkMore
import Derived.Deep.LoopGhost
import Derived.Deep.RegionHeld3
import Derived.Deep.QuietTactic
import Derived.BigQuiet
import Derived.Laws.Cover3
import Derived.Shelf.Spec.BitsCarry
import Derived.Laws.OwnMore
import Derived.Deep.DeepCutAuto
import Derived.Laws.EntriesVeiled
import Derived.Deep.CutRange
import Derived.Shelf.SlSortCmp.NoneTotal
namespace Go.Proofs.YtkflggojiiebeaaGreat.Con
end Go.Proofs.YtkflggojiiebeaaGreat.Con
namespace Go.Proofs.YtkflggojiiebeaaGreat.Exa
end Go.Proofs.YtkflggojiiebeaaGreat.Exa
namespace Go.Proofs.YtkflggojiiebeaaGreat.Fld
end Go.Proofs.YtkflggojiiebeaaGreat.Fld
namespace Go.Proofs.YtkflggojiiebeaaGreat.Grd
end Go.Proofs.YtkflggojiiebeaaGreat.Grd
namespace Go.Proofs.YtkflggojiiebeaaGreat.Hsh
end Go.Proofs.YtkflggojiiebeaaGreat.Hsh
namespace Go.Proofs.YtkflggojiiebeaaGreat.Hvy
end Go.Proofs.YtkflggojiiebeaaGreat.Hvy
namespace Go.Proofs.YtkflggojiiebeaaGreat.Inn
end Go.Proofs.YtkflggojiiebeaaGreat.Inn
namespace Go.Proofs.YtkflggojiiebeaaGreat.Lev
end Go.Proofs.YtkflggojiiebeaaGreat.Lev
namespace Go.Proofs.YtkflggojiiebeaaGreat.Lin
end Go.Proofs.YtkflggojiiebeaaGreat.Lin
namespace Go.Proofs.YtkflggojiiebeaaGreat.Lw
end Go.Proofs.YtkflggojiiebeaaGreat.Lw
namespace Go.Proofs.YtkflggojiiebeaaGreat.Ord
end Go.Proofs.YtkflggojiiebeaaGreat.Ord
namespace Go.Proofs.YtkflggojiiebeaaGreat.Pcs
end Go.Proofs.YtkflggojiiebeaaGreat.Pcs
namespace Go.Proofs.YtkflggojiiebeaaGreat.Qnt
end Go.Proofs.YtkflggojiiebeaaGreat.Qnt
namespace Go.Proofs.YtkflggojiiebeaaGreat.Sed
end Go.Proofs.YtkflggojiiebeaaGreat.Sed
namespace Go.Proofs.YtkflggojiiebeaaGreat.Shp
end Go.Proofs.YtkflggojiiebeaaGreat.Shp
namespace Go.Proofs.YtkflggojiiebeaaGreat.Sk
end Go.Proofs.YtkflggojiiebeaaGreat.Sk
namespace Go.Proofs.YtkflggojiiebeaaGreat.Smr
end Go.Proofs.YtkflggojiiebeaaGreat.Smr
namespace Go.Proofs.YtkflggojiiebeaaGreat.Spn
end Go.Proofs.YtkflggojiiebeaaGreat.Spn
namespace Go.Proofs.YtkflggojiiebeaaGreat.Stk
end Go.Proofs.YtkflggojiiebeaaGreat.Stk
namespace Go.Proofs.YtkflggojiiebeaaGreat.Wid
end Go.Proofs.YtkflggojiiebeaaGreat.Wid
namespace Go.Proofs.YtkflggojiiebeaaGreat.Hvy
open Go Go.RowKit Lw Grd Lin Con Shp Sk Exa Lev Stk Pcs Spn Qnt
set_option linter.unusedVariables false
def Ahead (x y : (Nat × Nat) × Int) : Prop := y.1.1 < x.1.1 ∨ (x.1.1 = y.1.1 ∧ x.1.2 < y.1.2)
theorem foundQ_ahead (pt : Nat → Int → Int) (least : Int) (B : Nat) : ∀ d : Nat, d ≤ B + 1 → (foundQ pt least B d).Pairwise Ahead
  | 0, _ => List.Pairwise.nil
  | d + 1, hd => by
    show (foundQ pt least B d ++ tellQ pt least (B - d) (askQ pt least B d)).Pairwise _
    rw [List.pairwise_append]
    refine ⟨foundQ_ahead pt least B d (by omega), ?_, fun x hx y hy => ?_⟩
    · unfold tellQ
      rw [List.pairwise_map]
      exact ((askQ_rises pt least B d).filter _).imp (fun h => .inr ⟨rfl, h⟩)
    · obtain ⟨e, he, h1, -⟩ := mem_foundQ.1 hx
      obtain ⟨h2, -⟩ := mem_tellQ.1 hy
      exact .inl (by omega)
end Go.Proofs.YtkflggojiiebeaaGreat.Hvy

namespace Go.Proofs.YtkflggojiiebeaaGreat.Smr
open Go Go.RowKit Lw Grd Lin Con Shp Sk Exa Lev Stk Pcs Spn Qnt Hvy
set_option linter.unusedVariables false
set_option linter.unusedSimpArgs false
theorem keysK_len (l : List ((Nat × Nat) × Int)) : (keysK l).length ≤ l.length := by
  unfold keysK
  rw [List.length_map]
  exact List.length_filter_le _ _
end Go.Proofs.YtkflggojiiebeaaGreat.Smr

namespace Go.Proofs.YtkflggojiiebeaaGreat.Smr
open Go Go.RowKit Lw Grd Lin Con Shp Sk Exa Lev Stk Pcs Spn Qnt Hvy
set_option linter.unusedVariables false
set_option linter.unusedSimpArgs false
/-- A list of what is told: levels fall, Index rises. -/
structure Told (L : List ((Nat × Nat) × Int)) : Prop where
  row : L.Pairwise (fun x y => x.1 ≠ y.1)
  ord : L.Pairwise Ahead
theorem told_hv (c : Cfg) (pt : Nat → Int → Int) (least bud : Int) : Told (hvL c pt least bud) := by
  by_cases h : hvC c pt least bud = 0
  · have h1 : hvL c pt least bud = foundQ pt least c.bt.toNat (c.bt.toNat + 1) := if_pos h
    rw [h1]
    exact ⟨foundQ_row _ _ _ _ (Nat.le_refl _), foundQ_ahead _ _ _ _ (Nat.le_refl _)⟩
  · have h1 : hvL c pt least bud = [] := if_neg h
    rw [h1]
    exact ⟨List.Pairwise.nil, List.Pairwise.nil⟩
end Go.Proofs.YtkflggojiiebeaaGreat.Smr

