/- Texts that statements lean on, put together: Thing, Things, GrdJoin, Rows2, HvyDef, HvyHeavy, HvyGK. -/
import Derived.Test.YtkflggojiiebeaaGreatQaa
import Derived.Test.YtkflggojiiebeaaGreatQab
import Derived.Test.YtkflggojiiebeaaGreatQac
import Derived.Test.YtkflggojiiebeaaGreatQad
import Derived.Test.YtkflggojiiebeaaGreatQae
import Derived.Test.YtkflggojiiebeaaGreatQaf
import Derived.Test.YtkflggojiiebeaaGreatQag
import Derived.Test.YtkflggojiiebeaaGreatQba
import Derived.Test.YtkflggojiiebeaaGreatQga
import Derived.Test.YtkflggojiiebeaaGreatRows
import Derived.WalkKit
import Derived.ProofKit
import Derived.OpenShut
import Derived.DataShut
import Derived.Lib.SmallJoins
import Derived.Handy
import Derived.WalkSmall
import Derived.Deep.Draws
import Derived.WalkSpells
import Derived.Laws.AppendOwnNone
import Derived.Deep.AppendLies
import Derived.Lib.Hide
import Derived.Deep.MidRow
import Derived.Laws.BitsAllLaws
import Derived.WalkMore
import Derived.Deep.LoopGhost
import Derived.Deep.RegionHeld3
import Derived.Deep.QuietTactic
import Derived.BigQuiet
import Derived.Laws.Cover3
import Derived.Shelf.Spec.BitsCarry
import Derived.Laws.OwnMore
import Derived.Deep.DeepCutAuto
import Derived.Laws.EntriesVeiled
import Derived.Deep.CutRange
import Derived.Defers
import Derived.RangeFuncNested
import Derived.RangeFuncBound
import Derived.RangeFuncCalls
import Derived.RangeFuncLeaves
import Derived.Deep.WholeRow
import Derived.Shelf.Abstract
import Derived.Shelf.RegionOpen
import Derived.OwnWalkIn
import Derived.TacticsInMore
import Derived.LoopNIn
import Derived.LoopIn
import Derived.RangeFuncBox
import Derived.Maps.AppendAt
import Derived.Maps.OwnSet
import Derived.Maps.Own
import Derived.DeepKeys4
import Derived.Lib.AppendZerosOnto
import Derived.Lib.SliceRun
namespace Go.Proofs.YtkflggojiiebeaaGreat.Con
end Go.Proofs.YtkflggojiiebeaaGreat.Con
namespace Go.Proofs.YtkflggojiiebeaaGreat.Exa
end Go.Proofs.YtkflggojiiebeaaGreat.Exa
namespace Go.Proofs.YtkflggojiiebeaaGreat.Fld
end Go.Proofs.YtkflggojiiebeaaGreat.Fld
namespace Go.Proofs.YtkflggojiiebeaaGreat.Grd
end Go.Proofs.YtkflggojiiebeaaGreat.Grd
namespace Go.Proofs.YtkflggojiiebeaaGreat.Hsh
end Go.Proofs.YtkflggojiiebeaaGreat.Hsh
namespace Go.Proofs.YtkflggojiiebeaaGreat.Hvy
end Go.Proofs.YtkflggojiiebeaaGreat.Hvy
namespace Go.Proofs.YtkflggojiiebeaaGreat.Inn
end Go.Proofs.YtkflggojiiebeaaGreat.Inn
namespace Go.Proofs.YtkflggojiiebeaaGreat.Lev
end Go.Proofs.YtkflggojiiebeaaGreat.Lev
namespace Go.Proofs.YtkflggojiiebeaaGreat.Lin
end Go.Proofs.YtkflggojiiebeaaGreat.Lin
namespace Go.Proofs.YtkflggojiiebeaaGreat.Lw
end Go.Proofs.YtkflggojiiebeaaGreat.Lw
namespace Go.Proofs.YtkflggojiiebeaaGreat.Ord
end Go.Proofs.YtkflggojiiebeaaGreat.Ord
namespace Go.Proofs.YtkflggojiiebeaaGreat.Pcs
end Go.Proofs.YtkflggojiiebeaaGreat.Pcs
namespace Go.Proofs.YtkflggojiiebeaaGreat.Qnt
end Go.Proofs.YtkflggojiiebeaaGreat.Qnt
namespace Go.Proofs.YtkflggojiiebeaaGreat.Sed
end Go.Proofs.YtkflggojiiebeaaGreat.Sed
namespace Go.Proofs.YtkflggojiiebeaaGreat.Shp
end Go.Proofs.YtkflggojiiebeaaGreat.Shp
namespace Go.Proofs.YtkflggojiiebeaaGreat.Sk
end Go.Proofs.YtkflggojiiebeaaGreat.Sk
namespace Go.Proofs.YtkflggojiiebeaaGreat.Smr
end Go.Proofs.YtkflggojiiebeaaGreat.Smr
namespace Go.Proofs.YtkflggojiiebeaaGreat.Spn
end Go.Proofs.YtkflggojiiebeaaGreat.Spn
namespace Go.Proofs.YtkflggojiiebeaaGreat.Stk
end Go.Proofs.YtkflggojiiebeaaGreat.Stk
namespace Go.Proofs.YtkflggojiiebeaaGreat.Wid
end Go.Proofs.YtkflggojiiebeaaGreat.Wid
namespace Go.Proofs.YtkflggojiiebeaaGreat.Lw
open Go Go.RowKit
set_option linter.unusedVariables false
theorem Have.apart {w0 w : World} {t u : Thing} {ts : List Thing} (h : Have w0 w (t :: ts)) (hu : u ∈ ts) : ∀ k, t.F k → ¬ u.F k := h.2.2.1 u hu
end Go.Proofs.YtkflggojiiebeaaGreat.Lw

namespace Go.Proofs.YtkflggojiiebeaaGreat.Lw
open Go Go.RowKit
set_option linter.unusedVariables false
theorem Have.far {w0 w : World} {ts : List Thing} (h : Have w0 w ts) {t : Thing} (ht : t ∈ ts) : ∀ k, t.F k → w0.heap.size ≤ k := (h.one t ht).2
end Go.Proofs.YtkflggojiiebeaaGreat.Lw

namespace Go.Proofs.YtkflggojiiebeaaGreat.Grd
open Go Go.RowKit Lw
set_option linter.unusedVariables false
/-- Rows of one's own, behind a slice of headers. -/
structure RO (w : World) (B : Nat) (hdr : Value) (R : List Row) : Prop where
  outer : w.ownsRow B 54 1 hdr R.length (R.map rowHd)
  rows : ∀ r ∈ R, w.ownsRow B 2 1 (rowHd r) r.2.2.length (r.2.2.map (Value.int .i64))
  apart : ∀ r ∈ R, hdr.ownBlock ≠ some r.1
  nd : (R.map (·.1)).Nodup
theorem RO.keep {F : Nat → Prop} {w w' : World} {B : Nat} {hdr : Value} {R : List Row} (h : RO w B hdr R) (k : Kept F w w') (hf : ∀ q, B ≤ q → ¬ F q) : RO w' B hdr R where
  outer := k.own h.outer (fun q hq => hf q (own_ge h.outer q hq))
  rows := fun r hr => k.own (h.rows r hr) (fun q hq => hf q (own_ge (h.rows r hr) q hq))
  apart := h.apart
  nd := h.nd
end Go.Proofs.YtkflggojiiebeaaGreat.Grd

namespace Go.Proofs.YtkflggojiiebeaaGreat.Lw
open Go Go.RowKit Grd
set_option linter.unusedVariables false
theorem RR.keep {F : Nat → Prop} {w w' : World} {B : Nat} {eo : TypeId} {hdr : Value} {R : List Row} (h : RR w B eo hdr R) (k : Kept F w w') (hf : ∀ q, RRF hdr R q → ¬ F q) : RR w' B eo hdr R := by
  refine ⟨k.own h.outer (fun q hq => hf q (.inl hq)), fun r hr => ?_⟩
  obtain ⟨h1, h2, h3, h4, h5, h6⟩ := h.rows r hr
  exact ⟨h1, Nat.lt_of_lt_of_le h2 k.size, h3, h4, h5, h6.keep k (fun a ha => by injection ha with ha; subst ha; exact hf r.1 (.inr ⟨r, hr, rfl⟩))⟩
end Go.Proofs.YtkflggojiiebeaaGreat.Lw

namespace Go.Proofs.YtkflggojiiebeaaGreat.Hvy
open Go Go.RowKit Lw Grd Lin Con Shp Sk Exa Lev Stk Pcs Spn Qnt
set_option linter.unusedVariables false
def encR (x : Kp) : List Value := [.int .i64 (x.1.1 : Int), .int .u64 (x.1.2 : Int), .int .i64 x.2.1, .int .i64 x.2.2]
end Go.Proofs.YtkflggojiiebeaaGreat.Hvy

namespace Go.Proofs.YtkflggojiiebeaaGreat.Hvy
open Go Go.RowKit Lw Grd Lin Con Shp Sk Exa Lev Stk Pcs Spn Qnt
set_option linter.unusedVariables false
set_option linter.unusedSimpArgs false
set_option linter.unusedSimpArgs false
theorem hv_heavy (p : Addr) (F : Nat → Prop) (c : Cfg) (sts : List LS) (least bud : Int) (w : World) (h : ST w p F c sts) (l0 : -9223372036854775808 ≤ least) (l1 : least ≤ 9223372036854775807) (u0 : -9223372036854775808 ≤ bud) (u1 : bud ≤ 9223372036854775807) :
    Calls Tryz.prog 17 #[.pointer (some p), .int .i64 least, .int .i64 bud] w fun e w' => ∃ (A : Option Addr) (n cap : Nat), e = .returned (.tuple #[.slice A n cap, .int .i64 (hvC c (fun L i => spV c sts (L : Int) i) least bud)]) ∧ (stRowT 3 encF A n cap (hvL c (fun L i => spV c sts (L : Int) i) least bud)).I w' ∧ (∀ q, (stRowT 3 encF A n cap (hvL c (fun L i => spV c sts (L : Int) i) least bud)).F q → w.heap.size ≤ q) ∧ Below w.heap.size w w' := by
  refine (hv_own p F c sts least bud w h l0 l1 u0 u1).mono ?_
  rintro e w' ⟨A, n, cap, rfl, ho, hl, hb⟩
  obtain ⟨A2, cap2, e2, hso, hsf⟩ := st_own encF_len ho hl
  injection e2 with e2a e2b e2c
  subst e2a e2c
  exact ⟨A, n, cap, rfl, hso, hsf, hb⟩
end Go.Proofs.YtkflggojiiebeaaGreat.Hvy

namespace Go.Proofs.YtkflggojiiebeaaGreat.Hvy
open Go Go.RowKit Go.Maps Lw Grd Lin Con Shp Sk Exa Lev Stk Pcs Spn Qnt
set_option linter.unusedVariables false
set_option linter.unusedSimpArgs false
/-- The rows that are kept, one for each level, and whether each rest fits. -/
structure GK (B0 kb ab N : Nat) (hv : Array Value) (ls : Nat → List Kp) (b : Bool) (w : World) : Prop where
  size : hv.size = N
  row : w.heap[kb]? = some (.cells hv 45 (0, 0))
  flag : w.heap[ab]? = some (.cells #[.bool b] 4 (0, 0))
  own : ∀ (M : Nat) v, hv[M]? = some v → w.ownsRow B0 101 4 v (ls M).length ((ls M).flatMap encR)
  nil : ∀ (M : Nat) v, hv[M]? = some v → (ls M).length = 0 → v = .slice none 0 0
  apart : ∀ (M M' : Nat) v v' k, M ≠ M' → hv[M]? = some v → hv[M']? = some v' → v.ownBlock = some k → v'.ownBlock ≠ some k
  far : kb < B0 ∧ ab < B0 ∧ kb ≠ ab
def gkF (kb ab : Nat) (hv : Array Value) (k : Nat) : Prop := k = kb ∨ k = ab ∨ ∃ (M : Nat) (v : Value), hv[M]? = some v ∧ v.ownBlock = some k
theorem GK.keep {B0 kb ab N : Nat} {hv : Array Value} {ls : Nat → List Kp} {b : Bool} {w w' : World} {H : Nat → Prop} (h : GK B0 kb ab N hv ls b w) (hk : Kept H w w') (hf : ∀ k, gkF kb ab hv k → ¬ H k) : GK B0 kb ab N hv ls b w' :=
  ⟨h.size, hk.heap h.row (hf _ (.inl rfl)), hk.heap h.flag (hf _ (.inr (.inl rfl))), fun M v hv => hk.own (h.own M v hv) (fun q hq => hf q (.inr (.inr ⟨M, v, hv, hq⟩))), h.nil, h.apart, h.far⟩
theorem CTI.keep {tb mb bb gb lb sb kb N BB : Nat} {D : DataW Unit} {least : Int} {fn : Value} {w w' : World} {H : Nat → Prop} (h : CTI tb mb bb gb lb sb kb N BB D least fn w) (hk : Kept H w w') (hf : ∀ k, ctF tb mb bb gb lb sb k → ¬ H k) : CTI tb mb bb gb lb sb kb N BB D least fn w' := by
  refine ⟨hk.cell h.tcell (hf _ (.inl rfl)), ?_, hk.cell h.bcell (hf _ (.inr (.inr (.inl rfl)))), hk.cell h.gcell (hf _ (.inr (.inr (.inr (.inl rfl))))), hk.cell h.lcell (hf _ (.inr (.inr (.inr (.inr (.inl rfl)))))), hk.cell h.scell (hf _ (.inr (.inr (.inr (.inr (.inr rfl))))))⟩
  obtain ⟨es, clock, h1, h2⟩ := h.tmap
  exact ⟨es, clock, hk.heap h1 (hf _ (.inr (.inl rfl))), h2⟩
end Go.Proofs.YtkflggojiiebeaaGreat.Hvy

