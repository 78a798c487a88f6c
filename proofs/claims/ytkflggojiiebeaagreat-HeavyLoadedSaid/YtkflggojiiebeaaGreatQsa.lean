/- Texts that statements lean on, put together: WidMulMath, InnDoc, StkOps, StkPlN. -/
import Derived.Test.YtkflggojiiebeaaGreatQaa
import Derived.Test.YtkflggojiiebeaaGreatQab
import Derived.Test.YtkflggojiiebeaaGreatQac
import Derived.Test.YtkflggojiiebeaaGreatQad
import Derived.Test.YtkflggojiiebeaaGreatQae
import Derived.Test.YtkflggojiiebeaaGreatQaf
import Derived.Test.YtkflggojiiebeaaGreatQag
import Derived.Test.YtkflggojiiebeaaGreatQca
import Derived.Test.YtkflggojiiebeaaGreatQcb
import Derived.Test.YtkflggojiiebeaaGreatQcc
import Derived.Test.YtkflggojiiebeaaGreatQda
import Derived.Test.YtkflggojiiebeaaGreatQha
import Derived.Test.YtkflggojiiebeaaGreatQla
import Derived.Test.YtkflggojiiebeaaGreatRows
import Derived.WalkKit
import Derived.ProofKit
import Derived.OpenShut
import Derived.DataShut
import Derived.Lib.SmallJoins
import Derived.Handy
import Derived.WalkSmall
import Derived.Deep.Draws
import Derived.WalkSpells
import Derived.Laws.AppendOwnNone
import Derived.Deep.AppendLies
import Derived.Lib.Hide
import Derived.Deep.MidRow
import Derived.Laws.BitsAllLaws
import Derived.WalkMore
import Derived.Deep.LoopGhost
import Derived.Deep.RegionHeld3
import Derived.Deep.QuietTactic
import Derived.BigQuiet
import Derived.Laws.Cover3
import Derived.Shelf.Spec.BitsCarry
import Derived.Deep.RegionWith
import Derived.Laws.OwnMore
import Derived.Deep.DeepCutAuto
import Derived.Laws.EntriesVeiled
import Derived.Deep.CutRange
import Derived.RangeFuncNested
import Derived.RangeFuncBound
import Derived.RangeFuncCalls
import Derived.RangeFuncLeaves
import Derived.Maps.AppendAt
import Derived.Shelf.Abstract
import Derived.Shelf.RegionOpen
import Derived.OwnWalkIn
import Derived.TacticsInMore
import Derived.LoopNIn
import Derived.LoopIn
import Derived.RangeFuncBox
namespace Go.Proofs.YtkflggojiiebeaaGreat.Con
end Go.Proofs.YtkflggojiiebeaaGreat.Con
namespace Go.Proofs.YtkflggojiiebeaaGreat.Exa
end Go.Proofs.YtkflggojiiebeaaGreat.Exa
namespace Go.Proofs.YtkflggojiiebeaaGreat.Fld
end Go.Proofs.YtkflggojiiebeaaGreat.Fld
namespace Go.Proofs.YtkflggojiiebeaaGreat.Grd
end Go.Proofs.YtkflggojiiebeaaGreat.Grd
namespace Go.Proofs.YtkflggojiiebeaaGreat.Hsh
end Go.Proofs.YtkflggojiiebeaaGreat.Hsh
namespace Go.Proofs.YtkflggojiiebeaaGreat.Hvy
end Go.Proofs.YtkflggojiiebeaaGreat.Hvy
namespace Go.Proofs.YtkflggojiiebeaaGreat.Inn
end Go.Proofs.YtkflggojiiebeaaGreat.Inn
namespace Go.Proofs.YtkflggojiiebeaaGreat.Lev
end Go.Proofs.YtkflggojiiebeaaGreat.Lev
namespace Go.Proofs.YtkflggojiiebeaaGreat.Lin
end Go.Proofs.YtkflggojiiebeaaGreat.Lin
namespace Go.Proofs.YtkflggojiiebeaaGreat.Lw
end Go.Proofs.YtkflggojiiebeaaGreat.Lw
namespace Go.Proofs.YtkflggojiiebeaaGreat.Ord
end Go.Proofs.YtkflggojiiebeaaGreat.Ord
namespace Go.Proofs.YtkflggojiiebeaaGreat.Pcs
end Go.Proofs.YtkflggojiiebeaaGreat.Pcs
namespace Go.Proofs.YtkflggojiiebeaaGreat.Qnt
end Go.Proofs.YtkflggojiiebeaaGreat.Qnt
namespace Go.Proofs.YtkflggojiiebeaaGreat.Sed
end Go.Proofs.YtkflggojiiebeaaGreat.Sed
namespace Go.Proofs.YtkflggojiiebeaaGreat.Shp
end Go.Proofs.YtkflggojiiebeaaGreat.Shp
namespace Go.Proofs.YtkflggojiiebeaaGreat.Sk
end Go.Proofs.YtkflggojiiebeaaGreat.Sk
namespace Go.Proofs.YtkflggojiiebeaaGreat.Smr
end Go.Proofs.YtkflggojiiebeaaGreat.Smr
namespace Go.Proofs.YtkflggojiiebeaaGreat.Spn
end Go.Proofs.YtkflggojiiebeaaGreat.Spn
namespace Go.Proofs.YtkflggojiiebeaaGreat.Stk
end Go.Proofs.YtkflggojiiebeaaGreat.Stk
namespace Go.Proofs.YtkflggojiiebeaaGreat.Wid
end Go.Proofs.YtkflggojiiebeaaGreat.Wid
namespace Go.Proofs.YtkflggojiiebeaaGreat.Wid
open Go.RowKit
def pp (x y : Int) (i : Nat) : Int := x % 65536 ^ i * y
def cy (x y : Int) (i k : Nat) : Int := (pp x y i % 65536 ^ (i + k) + 65536 ^ i * (dg x i * (y % 65536 ^ k))) / 65536 ^ (i + k)
theorem mul_bd (x y : Int) (i k : Nat) : 0 ≤ dg x i * dg y k ∧ dg x i * dg y k ≤ 4294836225 := by
  have h1 := dg_bd x i
  have h2 := dg_bd y k
  refine ⟨Int.mul_nonneg h1.1 h2.1, ?_⟩
  have := Int.mul_le_mul h1.2 h2.2 h2.1 (by omega : (0 : Int) ≤ 65535)
  omega
end Go.Proofs.YtkflggojiiebeaaGreat.Wid

namespace Go.Proofs.YtkflggojiiebeaaGreat.Inn
open Go Go.RowKit Lw Grd Lin Con Shp Sk
set_option linter.unusedVariables false
set_option linter.unusedSimpArgs false
/-- What a sketch of the document lies in, cell for cell. -/
theorem _root_.Go.Proofs.YtkflggojiiebeaaGreat.Sk.DS.row {w : World} {p : Addr} {F : Nat → Prop} {c : Cfg} {l : Int} {L : List (List Int)} (h : DS w p F c l L) : ∃ (b gb : Nat) (gh : Addr) (cap : Nat), p = ⟨b, 0, none⟩ ∧ w.cell? ⟨b, 0, none⟩ = some (.int .i64 c.bt) ∧ w.cell? ⟨b, 1, none⟩ = some (.int .i64 c.rw) ∧ w.cell? ⟨b, 2, none⟩ = some (.int .i64 c.wd) ∧ w.cell? ⟨b, 3, none⟩ = some (.int .i64 c.md) ∧ w.cell? ⟨b, 4, none⟩ = some (.int .u64 c.sd) ∧ w.cell? ⟨b, 5, none⟩ = some (.int .i64 l) ∧ w.cell? ⟨b, 6, none⟩ = some (.pointer (some ⟨gb, 0, none⟩)) ∧ w.cell? ⟨gb, 0, none⟩ = some (.slice (some gh) (rws c) cap) ∧ rws c ≤ cap ∧ ∀ (r : Nat) xs, L[r]? = some xs → ∃ (rb rc : Nat), w.cell? (gh.add r) = some (.slice (some ⟨rb, 0, none⟩) (wds c) rc) ∧ Rd .i64 w (some ⟨rb, 0, none⟩) xs ∧ xs.length = wds c ∧ In64 xs := by
  obtain ⟨hr, hok, hl0, hl1, b, gp, G, rfl, hb, ⟨gb, hdr, R, rfl, hg, rfl, hG, hd⟩, hGb, rfl⟩ := h
  obtain ⟨A, cap, rfl, hcap, hA, hrow⟩ := hg.hd
  have hlen : R.length = rws c := by have := hd.len; rwa [nums_len] at this
  have hpos := (rws_bd hr).1
  cases A with
  | none => have := hA rfl; omega
  | some gh =>
    refine ⟨b, gb, gh, cap, rfl, grd_cell hb 0 rfl, grd_cell hb 1 rfl, grd_cell hb 2 rfl, grd_cell hb 3 rfl, grd_cell hb 4 rfl, grd_cell hb 5 rfl, grd_cell hb 6 rfl, by rw [← hlen]; exact grd_cell hg.cell 0 rfl, by omega, fun r xs hx => ?_⟩
    unfold nums at hx
    rw [List.getElem?_map] at hx
    cases hr2 : R[r]? with
    | none => rw [hr2] at hx; cases hx
    | some ro =>
      rw [hr2] at hx
      injection hx with hx
      subst hx
      have hm := List.mem_of_getElem? hr2
      obtain ⟨ad, had, hc⟩ := hrow r ro hr2
      injection had with had
      subst had
      have hdr := hd.rows ro.2.2 (nums_mem hm)
      refine ⟨ro.1, ro.2.1, ?_, fun j v hv => ⟨_, rfl, hg.numAt hm hv⟩, hdr.1, hdr.2⟩
      rw [hc]
      unfold rowHd
      rw [hdr.1]
end Go.Proofs.YtkflggojiiebeaaGreat.Inn

namespace Go.Proofs.YtkflggojiiebeaaGreat.Stk
open Go Go.RowKit Lw Grd Lin Con Shp Sk Exa Lev
set_option linter.unusedVariables false
set_option linter.unusedSimpArgs false
abbrev Opz := Int × Int × Int × Int
/-- A row of ops, handed in. -/
structure OpzV (w : World) (A : Option Addr) (n c : Nat) (qs : List Opz) : Prop where
  nil : A = none → n = 0 ∧ c = 0
  nc : n ≤ c
  cm : c ≤ maxLen
  len : qs.length = n
  each : ∀ (i : Nat) q, qs[i]? = some q → ∃ a, A = some a ∧ w.cell? (a.add (i * 4)) = some (.int .i64 (q.1)) ∧ w.cell? (a.add (i * 4 + 1)) = some (.int .i64 (q.2.1)) ∧ w.cell? (a.add (i * 4 + 2)) = some (.int .u64 (q.2.2.1)) ∧ w.cell? (a.add (i * 4 + 3)) = some (.int .i64 (q.2.2.2)) ∧ (-9223372036854775808 ≤ (q.1) ∧ (q.1) ≤ 9223372036854775807) ∧ (-9223372036854775808 ≤ (q.2.1) ∧ (q.2.1) ≤ 9223372036854775807) ∧ (0 ≤ (q.2.2.1) ∧ (q.2.2.1) ≤ 18446744073709551615) ∧ (-9223372036854775808 ≤ (q.2.2.2) ∧ (q.2.2.2) ≤ 9223372036854775807)
theorem OpzV.at {w : World} {A : Option Addr} {n c : Nat} {qs : List Opz} (h : OpzV w A n c qs) {i : Nat} {q : Opz} (hq : qs[i]? = some q) : ∃ (a : Addr) (g o : Nat), A = some a ∧ a.add (i * 4) = ⟨g, o, none⟩ ∧ w.cell? ⟨g, o, none⟩ = some (.int .i64 q.1) ∧ w.cell? ⟨g, o + 1, none⟩ = some (.int .i64 q.2.1) ∧ w.cell? ⟨g, o + 2, none⟩ = some (.int .u64 q.2.2.1) ∧ w.cell? ⟨g, o + 3, none⟩ = some (.int .i64 q.2.2.2) ∧ (-9223372036854775808 ≤ q.2.1 ∧ q.2.1 ≤ 9223372036854775807) ∧ (0 ≤ q.2.2.1 ∧ q.2.2.1 ≤ 18446744073709551615) ∧ (-9223372036854775808 ≤ q.2.2.2 ∧ q.2.2.2 ≤ 9223372036854775807) := by
  obtain ⟨a, e, h1, h2, h3, h4, _, h5, h6, h7⟩ := h.each i q hq
  rw [← add_add'] at h2 h3 h4
  have hs : (a.add (i * 4)).spot = none := by
    unfold World.cell? at h1
    split at h1
    · split at h1
      · cases h1
      · rename_i hs; simpa using hs
    · cases h1
  obtain ⟨ad, had⟩ : ∃ ad, a.add (i * 4) = ad := ⟨_, rfl⟩
  rw [had] at h1 h2 h3 h4 hs
  obtain ⟨g, o, sp⟩ := ad
  simp only at hs
  subst hs
  rw [Ord.add_at] at h2 h3 h4
  exact ⟨a, g, o, e, had, h1, h2, h3, h4, h5, h6, h7⟩
end Go.Proofs.YtkflggojiiebeaaGreat.Stk

namespace Go.Proofs.YtkflggojiiebeaaGreat.Stk
open Go Go.RowKit Lw Grd Lin Con Shp Sk Exa Lev Go.Shelf
set_option linter.unusedVariables false
set_option linter.unusedSimpArgs false
theorem dk_ptr {w : World} {r : Addr} {F : Nat → Prop} {c : Cfg} {sts : List LS} (h : DK w r F c sts) : ∃ b0, r = ⟨b0, 0, none⟩ := by
  obtain ⟨hr, hc, hl, b1, B0, hdr0, vals0, ts0, e0, _⟩ := h
  exact ⟨b1, e0⟩
end Go.Proofs.YtkflggojiiebeaaGreat.Stk

