/- Texts that statements lean on, put together: WidRSum, StkDst. -/
import Derived.Test.YtkflggojiiebeaaGreatQaa
import Derived.Test.YtkflggojiiebeaaGreatQab
import Derived.Test.YtkflggojiiebeaaGreatQac
import Derived.Test.YtkflggojiiebeaaGreatQad
import Derived.Test.YtkflggojiiebeaaGreatQae
import Derived.Test.YtkflggojiiebeaaGreatQaf
import Derived.Test.YtkflggojiiebeaaGreatQca
import Derived.Test.YtkflggojiiebeaaGreatQcb
import Derived.Test.YtkflggojiiebeaaGreatRows
import Derived.WalkKit
import Derived.ProofKit
import Derived.OpenShut
import Derived.DataShut
import Derived.Lib.SmallJoins
import Derived.Handy
import Derived.WalkSmall
import Derived.Deep.Draws
import Derived.WalkSpells
import Derived.Laws.AppendOwnNone
import Derived.Deep.AppendLies
import Derived.Lib.Hide
import Derived.Deep.MidRow
import Derived.Laws.BitsAllLaws
import Derived.WalkMore
import Derived.Deep.LoopGhost
import Derived.Deep.RegionHeld3
import Derived.Deep.QuietTactic
import Derived.BigQuiet
import Derived.Laws.Cover3
import Derived.Shelf.Spec.BitsCarry
import Derived.Deep.RegionWith
import Derived.Laws.OwnMore
import Derived.Deep.DeepCutAuto
import Derived.Laws.EntriesVeiled
import Derived.Deep.CutRange
import Derived.Maps.AppendAt
namespace Go.Proofs.YtkflggojiiebeaaGreat.Con
end Go.Proofs.YtkflggojiiebeaaGreat.Con
namespace Go.Proofs.YtkflggojiiebeaaGreat.Exa
end Go.Proofs.YtkflggojiiebeaaGreat.Exa
namespace Go.Proofs.YtkflggojiiebeaaGreat.Fld
end Go.Proofs.YtkflggojiiebeaaGreat.Fld
namespace Go.Proofs.YtkflggojiiebeaaGreat.Grd
end Go.Proofs.YtkflggojiiebeaaGreat.Grd
namespace Go.Proofs.YtkflggojiiebeaaGreat.Hsh
end Go.Proofs.YtkflggojiiebeaaGreat.Hsh
namespace Go.Proofs.YtkflggojiiebeaaGreat.Hvy
end Go.Proofs.YtkflggojiiebeaaGreat.Hvy
namespace Go.Proofs.YtkflggojiiebeaaGreat.Inn
end Go.Proofs.YtkflggojiiebeaaGreat.Inn
namespace Go.Proofs.YtkflggojiiebeaaGreat.Lev
end Go.Proofs.YtkflggojiiebeaaGreat.Lev
namespace Go.Proofs.YtkflggojiiebeaaGreat.Lin
end Go.Proofs.YtkflggojiiebeaaGreat.Lin
namespace Go.Proofs.YtkflggojiiebeaaGreat.Lw
end Go.Proofs.YtkflggojiiebeaaGreat.Lw
namespace Go.Proofs.YtkflggojiiebeaaGreat.Ord
end Go.Proofs.YtkflggojiiebeaaGreat.Ord
namespace Go.Proofs.YtkflggojiiebeaaGreat.Pcs
end Go.Proofs.YtkflggojiiebeaaGreat.Pcs
namespace Go.Proofs.YtkflggojiiebeaaGreat.Qnt
end Go.Proofs.YtkflggojiiebeaaGreat.Qnt
namespace Go.Proofs.YtkflggojiiebeaaGreat.Sed
end Go.Proofs.YtkflggojiiebeaaGreat.Sed
namespace Go.Proofs.YtkflggojiiebeaaGreat.Shp
end Go.Proofs.YtkflggojiiebeaaGreat.Shp
namespace Go.Proofs.YtkflggojiiebeaaGreat.Sk
end Go.Proofs.YtkflggojiiebeaaGreat.Sk
namespace Go.Proofs.YtkflggojiiebeaaGreat.Smr
end Go.Proofs.YtkflggojiiebeaaGreat.Smr
namespace Go.Proofs.YtkflggojiiebeaaGreat.Spn
end Go.Proofs.YtkflggojiiebeaaGreat.Spn
namespace Go.Proofs.YtkflggojiiebeaaGreat.Stk
end Go.Proofs.YtkflggojiiebeaaGreat.Stk
namespace Go.Proofs.YtkflggojiiebeaaGreat.Wid
end Go.Proofs.YtkflggojiiebeaaGreat.Wid
namespace Go.Proofs.YtkflggojiiebeaaGreat.Wid
open Go.RowKit Lw
set_option linter.unusedVariables false
theorem blk_set {w : World} {b : Nat} {c : Array Value} {t : TypeId} {fr : Nat × Nat} (h : w.heap[b]? = some (.cells c t fr)) (i : Nat) (v : Value) : (w.setCell ⟨b, i, none⟩ v).heap[b]? = some (.cells (c.setIfInBounds i v) t fr) := by
  simp [World.setCell, Array.getElem?_modify, h]
def dcells (z : Int) : Array Value := #[Value.int .i64 (dg z 0), Value.int .i64 (dg z 1), Value.int .i64 (dg z 2), Value.int .i64 (dg z 3), Value.int .i64 (dg z 4), Value.int .i64 (dg z 5), Value.int .i64 (dg z 6), Value.int .i64 (dg z 7), Value.int .i64 (dg z 8), Value.int .i64 (dg z 9)]
def LBlk (w : World) (b : Nat) (z : Int) : Prop := w.heap[b]? = some (.cells (dcells z) 125 (0, 0))
theorem LBlk.set {w : World} {b : Nat} {z : Int} (h : LBlk w b z) (y : Int) : LBlk (((((((((((w).setCell ⟨b, 0, none⟩ (.int .i64 (dg y 0))).setCell ⟨b, 1, none⟩ (.int .i64 (dg y 1))).setCell ⟨b, 2, none⟩ (.int .i64 (dg y 2))).setCell ⟨b, 3, none⟩ (.int .i64 (dg y 3))).setCell ⟨b, 4, none⟩ (.int .i64 (dg y 4))).setCell ⟨b, 5, none⟩ (.int .i64 (dg y 5))).setCell ⟨b, 6, none⟩ (.int .i64 (dg y 6))).setCell ⟨b, 7, none⟩ (.int .i64 (dg y 7))).setCell ⟨b, 8, none⟩ (.int .i64 (dg y 8))).setCell ⟨b, 9, none⟩ (.int .i64 (dg y 9))) b y := by
  have h0 : w.heap[b]? = some (.cells (dcells z) 125 (0, 0)) := h
  have h1 := blk_set h0 0 (.int .i64 (dg y 0))
  have h2 := blk_set h1 1 (.int .i64 (dg y 1))
  have h3 := blk_set h2 2 (.int .i64 (dg y 2))
  have h4 := blk_set h3 3 (.int .i64 (dg y 3))
  have h5 := blk_set h4 4 (.int .i64 (dg y 4))
  have h6 := blk_set h5 5 (.int .i64 (dg y 5))
  have h7 := blk_set h6 6 (.int .i64 (dg y 6))
  have h8 := blk_set h7 7 (.int .i64 (dg y 7))
  have h9 := blk_set h8 8 (.int .i64 (dg y 8))
  have h10 := blk_set h9 9 (.int .i64 (dg y 9))
  have e : (((((((((((dcells z).setIfInBounds 0 (.int .i64 (dg y 0))).setIfInBounds 1 (.int .i64 (dg y 1))).setIfInBounds 2 (.int .i64 (dg y 2))).setIfInBounds 3 (.int .i64 (dg y 3))).setIfInBounds 4 (.int .i64 (dg y 4))).setIfInBounds 5 (.int .i64 (dg y 5))).setIfInBounds 6 (.int .i64 (dg y 6))).setIfInBounds 7 (.int .i64 (dg y 7))).setIfInBounds 8 (.int .i64 (dg y 8))).setIfInBounds 9 (.int .i64 (dg y 9))) = dcells y := by simp [dcells]
  rw [e] at h10
  exact h10
end Go.Proofs.YtkflggojiiebeaaGreat.Wid

namespace Go.Proofs.YtkflggojiiebeaaGreat.Stk
open Go Go.RowKit Lw Grd Lin Con Shp Sk Exa Lev
set_option linter.unusedVariables false
set_option linter.unusedSimpArgs false
theorem DK.right {w : World} {p : Addr} {F : Nat → Prop} {c : Cfg} {sts : List LS} (h : DK w p F c sts) : IsRight c ∧ c.Ok ∧ sts.length = c.bt.toNat + 1 := ⟨h.1, h.2.1, h.2.2.1⟩
end Go.Proofs.YtkflggojiiebeaaGreat.Stk

