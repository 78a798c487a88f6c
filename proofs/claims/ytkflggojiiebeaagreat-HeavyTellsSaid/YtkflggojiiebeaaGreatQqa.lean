/- Texts that statements lean on, put together: Kept, Thing, WidSum, LinDone, SkCode, ExaCode, LevDef, SpnMath, HvyHier, HvyDef, HvyGat, HvySame, HvyIn, HvyKeptM, HvyRHM, HvyHalf, HvyMap, HvyConc, HvyGK. -/
import Derived.Test.YtkflggojiiebeaaGreatQaa
import Derived.Test.YtkflggojiiebeaaGreatQab
import Derived.Test.YtkflggojiiebeaaGreatQac
import Derived.Test.YtkflggojiiebeaaGreatQad
import Derived.Test.YtkflggojiiebeaaGreatQae
import Derived.Test.YtkflggojiiebeaaGreatQaf
import Derived.Test.YtkflggojiiebeaaGreatQag
import Derived.Test.YtkflggojiiebeaaGreatQba
import Derived.Test.YtkflggojiiebeaaGreatQca
import Derived.Test.YtkflggojiiebeaaGreatQcb
import Derived.Test.YtkflggojiiebeaaGreatQfa
import Derived.Test.YtkflggojiiebeaaGreatQga
import Derived.Test.YtkflggojiiebeaaGreatQka
import Derived.Test.YtkflggojiiebeaaGreatQma
import Derived.Test.YtkflggojiiebeaaGreatQna
import Derived.Test.YtkflggojiiebeaaGreatRows
import Derived.WalkKit
import Derived.ProofKit
import Derived.OpenShut
import Derived.DataShut
import Derived.Lib.SmallJoins
import Derived.Handy
import Derived.WalkSmall
import Derived.Deep.Draws
import Derived.WalkSpells
import Derived.Laws.AppendOwnNone
import Derived.Deep.AppendLies
import Derived.Lib.Hide
import Derived.Deep.MidRow
import Derived.Laws.BitsAllLaws
import Derived.WalkMore
import Derived.Deep.LoopGhost
import Derived.Deep.RegionHeld3
import Derived.Deep.QuietTactic
import Derived.BigQuiet
import Derived.Laws.Cover3
import Derived.Shelf.Spec.BitsCarry
import Derived.Deep.RegionWith
import Derived.Laws.OwnMore
import Derived.Deep.DeepCutAuto
import Derived.Laws.EntriesVeiled
import Derived.Deep.CutRange
import Derived.Defers
import Derived.RangeFuncNested
import Derived.RangeFuncBound
import Derived.RangeFuncCalls
import Derived.RangeFuncLeaves
import Derived.Deep.WholeRow
import Derived.Shelf.SlSortCmp.QuietGrown
import Derived.Shelf.Abstract
import Derived.Shelf.RegionOpen
import Derived.OwnWalkIn
import Derived.TacticsInMore
import Derived.LoopNIn
import Derived.LoopIn
import Derived.RangeFuncBox
import Derived.Maps.AppendAt
import Derived.Maps.OwnSet
import Derived.Maps.Own
import Derived.DeepKeys4
import Derived.Lib.AppendZerosOnto
import Derived.Lib.SliceRun
namespace Go.Proofs.YtkflggojiiebeaaGreat.Con
end Go.Proofs.YtkflggojiiebeaaGreat.Con
namespace Go.Proofs.YtkflggojiiebeaaGreat.Exa
end Go.Proofs.YtkflggojiiebeaaGreat.Exa
namespace Go.Proofs.YtkflggojiiebeaaGreat.Fld
end Go.Proofs.YtkflggojiiebeaaGreat.Fld
namespace Go.Proofs.YtkflggojiiebeaaGreat.Grd
end Go.Proofs.YtkflggojiiebeaaGreat.Grd
namespace Go.Proofs.YtkflggojiiebeaaGreat.Hsh
end Go.Proofs.YtkflggojiiebeaaGreat.Hsh
namespace Go.Proofs.YtkflggojiiebeaaGreat.Hvy
end Go.Proofs.YtkflggojiiebeaaGreat.Hvy
namespace Go.Proofs.YtkflggojiiebeaaGreat.Inn
end Go.Proofs.YtkflggojiiebeaaGreat.Inn
namespace Go.Proofs.YtkflggojiiebeaaGreat.Lev
end Go.Proofs.YtkflggojiiebeaaGreat.Lev
namespace Go.Proofs.YtkflggojiiebeaaGreat.Lin
end Go.Proofs.YtkflggojiiebeaaGreat.Lin
namespace Go.Proofs.YtkflggojiiebeaaGreat.Lw
end Go.Proofs.YtkflggojiiebeaaGreat.Lw
namespace Go.Proofs.YtkflggojiiebeaaGreat.Ord
end Go.Proofs.YtkflggojiiebeaaGreat.Ord
namespace Go.Proofs.YtkflggojiiebeaaGreat.Pcs
end Go.Proofs.YtkflggojiiebeaaGreat.Pcs
namespace Go.Proofs.YtkflggojiiebeaaGreat.Qnt
end Go.Proofs.YtkflggojiiebeaaGreat.Qnt
namespace Go.Proofs.YtkflggojiiebeaaGreat.Sed
end Go.Proofs.YtkflggojiiebeaaGreat.Sed
namespace Go.Proofs.YtkflggojiiebeaaGreat.Shp
end Go.Proofs.YtkflggojiiebeaaGreat.Shp
namespace Go.Proofs.YtkflggojiiebeaaGreat.Sk
end Go.Proofs.YtkflggojiiebeaaGreat.Sk
namespace Go.Proofs.YtkflggojiiebeaaGreat.Smr
end Go.Proofs.YtkflggojiiebeaaGreat.Smr
namespace Go.Proofs.YtkflggojiiebeaaGreat.Spn
end Go.Proofs.YtkflggojiiebeaaGreat.Spn
namespace Go.Proofs.YtkflggojiiebeaaGreat.Stk
end Go.Proofs.YtkflggojiiebeaaGreat.Stk
namespace Go.Proofs.YtkflggojiiebeaaGreat.Wid
end Go.Proofs.YtkflggojiiebeaaGreat.Wid
namespace Go.Proofs.YtkflggojiiebeaaGreat.Lw
open Go Go.RowKit
set_option linter.unusedVariables false
theorem Kept.over {F : Nat → Prop} {w w1 : World} (h : Kept F w w1) (bs : Array Obj) (d : Nat) : Kept F w (grow w1 bs d) := h.then (grow_below _ _ _)
end Go.Proofs.YtkflggojiiebeaaGreat.Lw

namespace Go.Proofs.YtkflggojiiebeaaGreat.Lw
open Go Go.RowKit
set_option linter.unusedVariables false
theorem box_range {w : World} {b : Nat} {e : TypeId} {vs : List Value} (h : (boxT b e vs.toArray).I w) : w.rangeAt b 0 vs := fun j v hj => by
  rw [Nat.zero_add]
  exact box_cell h (by simpa using hj)
end Go.Proofs.YtkflggojiiebeaaGreat.Lw

namespace Go.Proofs.YtkflggojiiebeaaGreat.Wid
open Go.RowKit
set_option linter.unusedVariables false
theorem RdI.below {w w1 : World} {A : Option Addr} {zs : List Int} (h : RdI w A zs) (hb : Below w.heap.size w w1) : RdI w1 A zs := by
  intro k v hv
  obtain ⟨ad, e, hc⟩ := h k v hv
  exact ⟨ad, e, by rw [hb.cell (cell_lt hc)]; exact hc⟩
end Go.Proofs.YtkflggojiiebeaaGreat.Wid

namespace Go.Proofs.YtkflggojiiebeaaGreat.Lin
open Go Go.RowKit Lw Grd
set_option linter.unusedVariables false
set_option linter.unusedSimpArgs false
theorem StepV.In.up {q : StepV} {w w' : World} (h : q.In w) (hb : Below w.heap.size w w') : q.In w' := ⟨h.nil, h.nc, h.cm, h.rd.up hb, h.len, h.zb, h.db⟩
theorem Steps.up {w w' : World} {A : Option Addr} {n c : Nat} {qs : List StepV} (h : Steps w A n c qs) (hb : Below w.heap.size w w') : Steps w' A n c qs :=
  ⟨h.nil, h.nc, h.cm, h.len, fun i q hq => by
    obtain ⟨h1, a, e, h2, h3⟩ := h.each i q hq
    exact ⟨h1.up hb, a, e, cell_up h2 hb, cell_up h3 hb⟩⟩
end Go.Proofs.YtkflggojiiebeaaGreat.Lin

namespace Go.Proofs.YtkflggojiiebeaaGreat.Sk
open Go Go.RowKit Lw Grd Lin Con Shp
set_option linter.unusedVariables false
set_option linter.unusedSimpArgs false
theorem SK.right {w : World} {p : Addr} {F : Nat → Prop} {c : Cfg} {l : Int} {L : List (List Int)} (h : SK w p F c l L) : IsRight c ∧ 0 ≤ l ∧ l ≤ c.bt := ⟨h.1, h.2.2.1, h.2.2.2.1⟩
end Go.Proofs.YtkflggojiiebeaaGreat.Sk

namespace Go.Proofs.YtkflggojiiebeaaGreat.Exa
open Go Go.RowKit Lw Grd Lin Con Shp Sk
set_option linter.unusedVariables false
set_option linter.unusedSimpArgs false
theorem EX.right {w : World} {p : Addr} {F : Nat → Prop} {c : Cfg} {l : Int} {L : List Int} (h : EX w p F c l L) : IsRight c ∧ 0 ≤ l ∧ l ≤ c.bt := ⟨h.1, h.2.2.1, h.2.2.2.1⟩
end Go.Proofs.YtkflggojiiebeaaGreat.Exa

namespace Go.Proofs.YtkflggojiiebeaaGreat.Lev
open Go Go.RowKit Lw Grd Lin Con Shp Sk Exa
set_option linter.unusedVariables false
set_option linter.unusedSimpArgs false
theorem DL.up {v0 v1 : Value} {t : Thing} {w w' : World} {p : Addr} {F : Nat → Prop} (h : DL v0 v1 t w p F) (hk : Below w.heap.size w w') : DL v0 v1 t w' p F := h.keep (Kept.of_below (F := fun _ => False) hk) (fun _ _ h => h)
theorem DLA.up {w w' : World} {p : Addr} {F : Nat → Prop} {c : Cfg} {l : Int} {L : List Int} (h : DLA w p F c l L) (hk : Below w.heap.size w w') : DLA w' p F c l L := by
  obtain ⟨a, G, h⟩ := h
  exact ⟨a, G, h.up hk⟩
theorem DLS.up {w w' : World} {p : Addr} {F : Nat → Prop} {c : Cfg} {l : Int} {L : List (List Int)} (h : DLS w p F c l L) (hk : Below w.heap.size w w') : DLS w' p F c l L := by
  obtain ⟨a, G, h⟩ := h
  exact ⟨a, G, h.up hk⟩
end Go.Proofs.YtkflggojiiebeaaGreat.Lev

namespace Go.Proofs.YtkflggojiiebeaaGreat.Spn
open Go Go.RowKit Lw Grd Lin Con Shp Sk Exa Lev Stk Pcs
set_option linter.unusedVariables false
theorem sum_bd {α : Type} {f : α → Int} {b : Int} : ∀ {l : List α}, (∀ p ∈ l, -b ≤ f p ∧ f p ≤ b) → -(b * l.length) ≤ (l.map f).sum ∧ (l.map f).sum ≤ b * l.length
  | [], _ => by simp
  | p :: l, h => by
    have ih := sum_bd (l := l) (fun q hq => h q (List.mem_cons_of_mem _ hq))
    have h1 := h p (by simp)
    simp only [List.map_cons, List.sum_cons, List.length_cons]
    have e : b * ((l.length + 1 : Nat) : Int) = b * (l.length : Int) + b := by
      rw [Int.natCast_add, Int.mul_add]
      simp
    omega
end Go.Proofs.YtkflggojiiebeaaGreat.Spn

namespace Go.Proofs.YtkflggojiiebeaaGreat.Hvy
open Go Go.RowKit Lw Grd Lin Con Shp Sk Exa Lev Stk Pcs Spn Qnt
set_option linter.unusedVariables false
def restQ (K : List Kp) (q : (Nat × Nat) × Int) : Int := q.2 - withinQ K q.1
/-- What is kept of some pieces, one behind the other; none: some rest does not fit. -/
def hierF (least : Int) : List ((Nat × Nat) × Int) → List Kp → Option (List Kp)
  | [], K => some K
  | q :: l, K => if Wid.fit64 (restQ K q) = true then hierF least l (if least ≤ restQ K q then K ++ [(q.1, q.2, restQ K q)] else K) else none
theorem hierF_app (least : Int) : ∀ (l m : List ((Nat × Nat) × Int)) (K : List Kp), hierF least (l ++ m) K = (hierF least l K).bind (hierF least m)
  | [], m, K => rfl
  | q :: l, m, K => by
    rw [List.cons_append, hierF, hierF]
    by_cases h : Wid.fit64 (restQ K q) = true
    · rw [if_pos h, if_pos h, hierF_app least l m]
    · rw [if_neg h, if_neg h]
      rfl
/-- The lowest level first. -/
def orderQ (B : Nat) (l : List ((Nat × Nat) × Int)) : List ((Nat × Nat) × Int) := (List.range (B + 1)).flatMap (fun L => l.filter (fun q => decide (q.1.1 = L)))
theorem mem_orderQ {B : Nat} {l : List ((Nat × Nat) × Int)} {q : (Nat × Nat) × Int} : q ∈ orderQ B l ↔ q ∈ l ∧ q.1.1 ≤ B := by
  unfold orderQ
  rw [List.mem_flatMap]
  constructor
  · rintro ⟨L, h1, h2⟩
    rw [List.mem_filter] at h2
    have h3 : q.1.1 = L := of_decide_eq_true h2.2
    rw [List.mem_range] at h1
    exact ⟨h2.1, by omega⟩
  · rintro ⟨h1, h2⟩
    exact ⟨q.1.1, List.mem_range.2 (by omega), List.mem_filter.2 ⟨h1, decide_eq_true rfl⟩⟩
theorem Good.snoc {least : Int} {K : List Kp} (h : Good least K) {q : (Nat × Nat) × Int} (hr : least ≤ restQ K q) : Good least (K ++ [(q.1, q.2, restQ K q)]) := by
  intro i x hx
  by_cases hi : i < K.length
  · rw [List.getElem?_append_left hi] at hx
    rw [List.take_append_of_le_length (by omega)]
    exact h i x hx
  · rw [List.getElem?_append_right (by omega)] at hx
    have h2 := (List.getElem?_eq_some_iff.1 hx).1
    have h3 : i = K.length := by simp at h2; omega
    subst h3
    rw [Nat.sub_self] at hx
    have h4 : (q.1, q.2, restQ K q) = x := by simpa using hx
    subst h4
    rw [List.take_append_of_le_length (Nat.le_refl _), List.take_length]
    exact ⟨hr, rfl⟩
theorem hierF_good {least : Int} : ∀ {l : List ((Nat × Nat) × Int)} {K K' : List Kp}, Good least K → hierF least l K = some K' → Good least K' ∧ ∃ E : List Kp, K' = K ++ E ∧ (E.map (fun x => (x.1, x.2.1))).Sublist l
  | [], K, K', h, e => by
    injection e with e
    subst e
    exact ⟨h, [], by simp, List.Sublist.refl _⟩
  | q :: l, K, K', h, e => by
    rw [hierF] at e
    by_cases hf : Wid.fit64 (restQ K q) = true
    · rw [if_pos hf] at e
      by_cases hr : least ≤ restQ K q
      · rw [if_pos hr] at e
        obtain ⟨g1, E, rfl, g2⟩ := hierF_good (h.snoc hr) e
        exact ⟨g1, (q.1, q.2, restQ K q) :: E, by simp, by simpa using g2⟩
      · rw [if_neg hr] at e
        obtain ⟨g1, E, rfl, g2⟩ := hierF_good h e
        exact ⟨g1, E, rfl, g2.trans (List.sublist_cons_self _ _)⟩
    · rw [if_neg hf] at e
      cases e
theorem sum_zero {l : List Nat} {f : Nat → Int} (h : ∀ k ∈ l, f k = 0) : (l.map f).sum = 0 := by
  induction l with
  | nil => rfl
  | cons a l ih =>
    rw [List.map_cons, List.sum_cons, h a (by simp), ih (fun k hk => h k (List.mem_cons_of_mem _ hk))]
    rfl
/-- Within a key there is nothing else. -/
theorem within_key {K : List Kp} {i : Nat} (h : ∀ x ∈ K, x.1 ≠ (0, i)) : withinQ K (0, i) = 0 := by
  refine sum_zero (fun k hk => ?_)
  rw [if_neg]
  intro ha
  unfold aloneQ at ha
  cases hx : K[k]? with
  | none => rw [hx] at ha; cases ha
  | some x =>
    rw [hx] at ha
    have h1 : inQ x.1 (0, i) = true := (Bool.and_eq_true _ _ ▸ ha).1
    have h2 := of_decide_eq_true h1
    have h3 : x.1.1 = 0 := by have := h2.1; simpa using this
    have h4 : x.1.2 = i := by
      have := h2.2
      rw [h3] at this
      simpa using this
    refine h x (List.mem_of_getElem? hx) ?_
    obtain ⟨⟨a, b⟩, c⟩ := x
    simp only at h3 h4
    subst h3 h4
    rfl
theorem in_same {p q : Nat × Nat} (h : inQ p q = true) (hl : q.1 ≤ p.1) : p = q := by
  have h2 := of_decide_eq_true h
  obtain ⟨a, b⟩ := p
  obtain ⟨c, d⟩ := q
  simp only at h2 hl
  obtain rfl : a = c := by omega
  have h3 := h2.2
  rw [Nat.sub_self, Nat.pow_zero, Nat.div_one] at h3
  rw [h3]
/-- The order in which pieces are gone through. -/
theorem orderQ_row {B : Nat} {l : List ((Nat × Nat) × Int)} (hn : l.Pairwise (fun x y => x.1 ≠ y.1)) : (orderQ B l).Pairwise (fun x y => x.1.1 ≤ y.1.1 ∧ x.1 ≠ y.1) := by
  unfold orderQ
  rw [List.pairwise_flatMap]
  constructor
  · intro L _
    have h1 := List.Pairwise.filter (fun q : (Nat × Nat) × Int => decide (q.1.1 = L)) hn
    refine List.Pairwise.imp_of_mem ?_ h1
    intro x y hx hy hxy
    have e1 : x.1.1 = L := of_decide_eq_true (List.mem_filter.1 hx).2
    have e2 : y.1.1 = L := of_decide_eq_true (List.mem_filter.1 hy).2
    exact ⟨by omega, hxy⟩
  · refine List.Pairwise.imp ?_ (List.pairwise_lt_range (n := B + 1))
    intro L M hLM x hx y hy
    have e1 : x.1.1 = L := of_decide_eq_true (List.mem_filter.1 hx).2
    have e2 : y.1.1 = M := of_decide_eq_true (List.mem_filter.1 hy).2
    exact ⟨by omega, fun e => by rw [e] at e1; omega⟩
end Go.Proofs.YtkflggojiiebeaaGreat.Hvy

namespace Go.Proofs.YtkflggojiiebeaaGreat.Hvy
open Go Go.RowKit Lw Grd Lin Con Shp Sk Exa Lev Stk Pcs Spn Qnt
set_option linter.unusedVariables false
theorem encR_len (x : Kp) : (encR x).length = 4 := rfl
def hierQ (c : Cfg) (pt : Nat → Int → Int) (least : Int) : Option (List Kp) := hierF least (orderQ c.bt.toNat (foundQ pt least c.bt.toNat (c.bt.toNat + 1))) []
def hrC (c : Cfg) (pt : Nat → Int → Int) (least bud : Int) : Int := if hvC c pt least bud = 0 then (if (hierQ c pt least).isSome = true then 0 else 4) else hvC c pt least bud
def hrL (c : Cfg) (pt : Nat → Int → Int) (least bud : Int) : List Kp := if hrC c pt least bud = 0 then (hierQ c pt least).getD [] else []
theorem hr_no {c : Cfg} {pt : Nat → Int → Int} {least bud : Int} (h : hvC c pt least bud ≠ 0) : hrC c pt least bud = hvC c pt least bud ∧ hrL c pt least bud = [] := by
  have e : hrC c pt least bud = hvC c pt least bud := by unfold hrC; rw [if_neg h]
  exact ⟨e, by unfold hrL; rw [e, if_neg h]⟩
theorem hr_yes {c : Cfg} {pt : Nat → Int → Int} {least bud : Int} (h : hvC c pt least bud = 0) {K : List Kp} (hk : hierQ c pt least = some K) : hrC c pt least bud = 0 ∧ hrL c pt least bud = K := by
  have e : hrC c pt least bud = 0 := by unfold hrC; rw [if_pos h, hk]; rfl
  exact ⟨e, by unfold hrL; rw [if_pos e, hk]; rfl⟩
theorem hr_over {c : Cfg} {pt : Nat → Int → Int} {least bud : Int} (h : hvC c pt least bud = 0) (hk : hierQ c pt least = none) : hrC c pt least bud = 4 ∧ hrL c pt least bud = [] := by
  have e : hrC c pt least bud = 4 := by unfold hrC; rw [if_pos h, hk]; rfl
  exact ⟨e, by unfold hrL; rw [if_neg (by omega)]⟩
end Go.Proofs.YtkflggojiiebeaaGreat.Hvy

namespace Go.Proofs.YtkflggojiiebeaaGreat.Hvy
open Go Go.RowKit Lw Grd Lin Con Shp Sk Exa Lev Stk Pcs Spn Qnt
set_option linter.unusedVariables false
/-- What is told of a piece. -/
def toldQ (pt : Nat → Int → Int) (least : Int) (B L i : Nat) : Option Int := if L ≤ B ∧ i ∈ askQ pt least B (B - L) ∧ least ≤ pt L ((i : Nat) : Int) then some (pt L ((i : Nat) : Int)) else none
/-- The sum of one piece, by that of what lies in it. -/
def gOne (T : Nat → Nat → Option Int) (least : Int) (L i : Nat) (s : Int) : Int :=
  match T L i with
  | none => 0
  | some n => if Wid.f64 (n - s) < least then s else n
def gW (T : Nat → Nat → Option Int) (least : Int) : Nat → Nat → Int
  | 0, i => gOne T least 0 i 0
  | L + 1, i => gOne T least (L + 1) i (gW T least L (2 * i) + gW T least L (2 * i + 1))
/-- The sum of what is kept within a piece, but for itself. -/
def gS (T : Nat → Nat → Option Int) (least : Int) : Nat → Nat → Int
  | 0, _ => 0
  | L + 1, i => gW T least L (2 * i) + gW T least L (2 * i + 1)
theorem gW_eq (T : Nat → Nat → Option Int) (least : Int) (L i : Nat) : gW T least L i = gOne T least L i (gS T least L i) := by
  cases L <;> rfl
/-- What is kept of one piece. -/
def gTop (T : Nat → Nat → Option Int) (least : Int) (L i : Nat) : List Kp :=
  match T L i with
  | none => []
  | some n => if Wid.f64 (n - gS T least L i) < least then [] else [((L, i), n, Wid.f64 (n - gS T least L i))]
/-- What is kept within a piece of one level. -/
def gL (T : Nat → Nat → Option Int) (least : Int) : Nat → Nat → Nat → List Kp
  | 0, i, M => if M = 0 then gTop T least 0 i else []
  | L + 1, i, M =>
    match T (L + 1) i with
    | none => []
    | some _ => gL T least L (2 * i) M ++ gL T least L (2 * i + 1) M ++ (if M = L + 1 then gTop T least (L + 1) i else [])
/-- Does each rest fit? -/
def gF (T : Nat → Nat → Option Int) (least : Int) : Nat → Nat → Bool
  | 0, i =>
    match T 0 i with
    | none => true
    | some n => Wid.fit64 n
  | L + 1, i =>
    match T (L + 1) i with
    | none => true
    | some n => gF T least L (2 * i) && gF T least L (2 * i + 1) && Wid.fit64 (n - gS T least (L + 1) i)
theorem gW_none {T : Nat → Nat → Option Int} {least : Int} {L i : Nat} (h : T L i = none) : gW T least L i = 0 := by
  rw [gW_eq, gOne, h]
theorem gL_none {T : Nat → Nat → Option Int} {least : Int} {L i : Nat} (h : T L i = none) (M : Nat) : gL T least L i M = [] := by
  cases L with
  | zero =>
    rw [gL, gTop, h]
    simp
  | succ L =>
    rw [gL, h]
theorem gF_none {T : Nat → Nat → Option Int} {least : Int} {L i : Nat} (h : T L i = none) : gF T least L i = true := by
  cases L with
  | zero => rw [gF, h]
  | succ L => rw [gF, h]
theorem gL_above {T : Nat → Nat → Option Int} {least : Int} : ∀ {L i M : Nat}, L < M → gL T least L i M = []
  | 0, i, M, h => by
    rw [gL, if_neg (by omega)]
  | L + 1, i, M, h => by
    rw [gL]
    cases T (L + 1) i with
    | none => rfl
    | some n =>
      simp only
      rw [gL_above (by omega), gL_above (by omega), if_neg (by omega)]
      rfl
theorem gL_self {T : Nat → Nat → Option Int} {least : Int} (L i : Nat) : gL T least L i L = gTop T least L i := by
  cases L with
  | zero => rw [gL, if_pos rfl]
  | succ L =>
    cases h : T (L + 1) i with
    | none =>
      rw [gL_none h, gTop, h]
    | some n =>
      rw [gL, h]
      simp only
      rw [gL_above (by omega), gL_above (by omega)]
      simp
/-- Sums are bounded. -/
theorem gW_bd {T : Nat → Nat → Option Int} {least : Int} (hT : ∀ (L i : Nat) (n : Int), T L i = some n → -9223372036854775808 ≤ n ∧ n ≤ 9223372036854775807) : ∀ (L i : Nat), -((2 : Int) ^ L * 9223372036854775808) ≤ gW T least L i ∧ gW T least L i ≤ (2 : Int) ^ L * 9223372036854775808
  | 0, i => by
    rw [gW, gOne]
    cases h : T 0 i with
    | none => simp
    | some n =>
      have := hT 0 i n h
      simp only
      split <;> simp <;> omega
  | L + 1, i => by
    have h1 := gW_bd (least := least) hT L (2 * i)
    have h2 := gW_bd (least := least) hT L (2 * i + 1)
    have hp : (1 : Int) ≤ (2 : Int) ^ L := by have := Int.pow_pos (n := 2) (m := L) (by decide); omega
    have e : (2 : Int) ^ (L + 1) = 2 * (2 : Int) ^ L := by rw [Int.pow_succ, Int.mul_comm]
    rw [gW, gOne, e]
    generalize (2 : Int) ^ L = P at *
    cases h : T (L + 1) i with
    | none => simp only; omega
    | some n =>
      have := hT (L + 1) i n h
      simp only
      split <;> omega
theorem gS_bd {T : Nat → Nat → Option Int} {least : Int} (hT : ∀ (L i : Nat) (n : Int), T L i = some n → -9223372036854775808 ≤ n ∧ n ≤ 9223372036854775807) (L i : Nat) : -((2 : Int) ^ L * 9223372036854775808) ≤ gS T least L i ∧ gS T least L i ≤ (2 : Int) ^ L * 9223372036854775808 := by
  cases L with
  | zero => rw [gS]; simp
  | succ L =>
    have h1 := gW_bd (least := least) hT L (2 * i)
    have h2 := gW_bd (least := least) hT L (2 * i + 1)
    have e : (2 : Int) ^ (L + 1) = 2 * (2 : Int) ^ L := by rw [Int.pow_succ, Int.mul_comm]
    rw [gS, e]
    omega
theorem in_split {x : Nat × Nat} {L i : Nat} : inQ x (L + 1, i) = true ↔ x = (L + 1, i) ∨ inQ x (L, 2 * i) = true ∨ inQ x (L, 2 * i + 1) = true := by
  obtain ⟨a, b⟩ := x
  unfold inQ
  simp only [decide_eq_true_eq, Prod.mk.injEq]
  by_cases h : a = L + 1
  · subst h
    simp
    omega
  · by_cases h2 : a ≤ L
    · have e : L + 1 - a = (L - a) + 1 := by omega
      rw [e, Nat.pow_succ, ← Nat.div_div_eq_div_mul]
      generalize b / 2 ^ (L - a) = q
      omega
    · omega
theorem in_apart {x : Nat × Nat} {L i : Nat} (h1 : inQ x (L, 2 * i) = true) (h2 : inQ x (L, 2 * i + 1) = true) : False := by
  have a := of_decide_eq_true h1
  have b := of_decide_eq_true h2
  have e1 := a.2
  have e2 := b.2
  simp only at e1 e2
  omega
theorem in_trans {x y z : Nat × Nat} (h1 : inQ x y = true) (h2 : inQ y z = true) : inQ x z = true := by
  have a := of_decide_eq_true h1
  have b := of_decide_eq_true h2
  refine decide_eq_true ⟨by omega, ?_⟩
  rw [← b.2, ← a.2, Nat.div_div_eq_div_mul, ← Nat.pow_add]
  congr 2
  omega
theorem in_refl (x : Nat × Nat) : inQ x x = true := decide_eq_true ⟨Nat.le_refl _, by rw [Nat.sub_self, Nat.pow_zero, Nat.div_one]⟩
theorem alone_iff {K : List Kp} {k : Nat} {p : Nat × Nat} : aloneQ K k p = true ↔ ∃ x, K[k]? = some x ∧ inQ x.1 p = true ∧ ∀ (m : Nat) (y : Kp), m ≠ k → K[m]? = some y → inQ x.1 y.1 = true → inQ y.1 p = true → False := by
  unfold aloneQ
  cases hx : K[k]? with
  | none => simp
  | some x =>
    simp only [Bool.and_eq_true, List.all_eq_true, Bool.or_eq_true]
    constructor
    · rintro ⟨h1, h2⟩
      refine ⟨x, rfl, h1, fun m y hm hy a b => ?_⟩
      have hlt := (List.getElem?_eq_some_iff.1 hy).1
      rcases h2 m (List.mem_range.2 hlt) with h3 | h3
      · exact hm (by simpa using h3)
      · rw [hy] at h3
        simp only [a, b] at h3
        cases h3
    · rintro ⟨x', e, h1, h2⟩
      injection e with e
      subst e
      refine ⟨h1, fun m hm => ?_⟩
      by_cases hmk : m = k
      · exact .inl (by simpa using hmk)
      · right
        cases hy : K[m]? with
        | none => rfl
        | some y =>
          simp only
          cases a : inQ x.1 y.1 with
          | false => rfl
          | true =>
            cases b : inQ y.1 p with
            | false => rfl
            | true => exact (h2 m y hmk hy a b).elim
theorem sum_add {f g h : Nat → Int} {l : List Nat} (e : ∀ k ∈ l, f k = g k + h k) : (l.map f).sum = (l.map g).sum + (l.map h).sum := by
  induction l with
  | nil => rfl
  | cons a l ih =>
    rw [List.map_cons, List.map_cons, List.map_cons, List.sum_cons, List.sum_cons, List.sum_cons, e a (by simp), ih (fun k hk => e k (List.mem_cons_of_mem _ hk))]
    omega
theorem sum_one {f : Nat → Int} {n k : Nat} (hk : k < n) (h : ∀ j, j < n → j ≠ k → f j = 0) : ((List.range n).map f).sum = f k := by
  induction n with
  | zero => omega
  | succ n ih =>
    rw [List.range_succ, List.map_append, List.sum_append]
    simp only [List.map_cons, List.map_nil, List.sum_cons, List.sum_nil]
    by_cases e : k = n
    · subst e
      rw [sum_zero (fun j hj => h j (by have := List.mem_range.1 hj; omega) (by have := List.mem_range.1 hj; omega))]
      omega
    · rw [ih (by omega) (fun j hj hne => h j (by omega) hne), h n (by omega) (by omega)]
      omega
/-- What lies in a piece that is not kept itself lies in its halves. -/
theorem within_split {K : List Kp} {L i : Nat} (hn : ∀ x ∈ K, x.1 ≠ (L + 1, i)) : withinQ K (L + 1, i) = withinQ K (L, 2 * i) + withinQ K (L, 2 * i + 1) := by
  unfold withinQ
  refine sum_add (fun k _ => ?_)
  have hb : aloneQ K k (L, 2 * i) = true → aloneQ K k (L, 2 * i + 1) = true → False := by
    intro a b
    obtain ⟨x, hx, a1, -⟩ := alone_iff.1 a
    obtain ⟨y, hy, b1, -⟩ := alone_iff.1 b
    rw [hx] at hy
    injection hy with e
    subst e
    exact in_apart a1 b1
  have he : aloneQ K k (L + 1, i) = true ↔ aloneQ K k (L, 2 * i) = true ∨ aloneQ K k (L, 2 * i + 1) = true := by
    constructor
    · intro a
      obtain ⟨x, hx, a1, a2⟩ := alone_iff.1 a
      rcases in_split.1 a1 with e | e | e
      · exact (hn x (List.mem_of_getElem? hx) e).elim
      · exact .inl (alone_iff.2 ⟨x, hx, e, fun m y hm hy c d => a2 m y hm hy c (in_split.2 (.inr (.inl d)))⟩)
      · exact .inr (alone_iff.2 ⟨x, hx, e, fun m y hm hy c d => a2 m y hm hy c (in_split.2 (.inr (.inr d)))⟩)
    · rintro (a | a)
      · obtain ⟨x, hx, a1, a2⟩ := alone_iff.1 a
        refine alone_iff.2 ⟨x, hx, in_split.2 (.inr (.inl a1)), fun m y hm hy c d => ?_⟩
        rcases in_split.1 d with e | e | e
        · exact hn y (List.mem_of_getElem? hy) e
        · exact a2 m y hm hy c e
        · exact in_apart a1 (in_trans c e)
      · obtain ⟨x, hx, a1, a2⟩ := alone_iff.1 a
        refine alone_iff.2 ⟨x, hx, in_split.2 (.inr (.inr a1)), fun m y hm hy c d => ?_⟩
        rcases in_split.1 d with e | e | e
        · exact hn y (List.mem_of_getElem? hy) e
        · exact in_apart (in_trans c e) a1
        · exact a2 m y hm hy c e
  cases ha : aloneQ K k (L, 2 * i) with
  | true =>
    have hc : aloneQ K k (L, 2 * i + 1) = false := by
      cases hc : aloneQ K k (L, 2 * i + 1) with
      | false => rfl
      | true => exact (hb ha hc).elim
    rw [he.2 (.inl ha), hc]
    simp
  | false =>
    cases hc : aloneQ K k (L, 2 * i + 1) with
    | true =>
      rw [he.2 (.inr hc)]
      simp
    | false =>
      have hd : aloneQ K k (L + 1, i) = false := by
        cases hd : aloneQ K k (L + 1, i) with
        | false => rfl
        | true => rcases he.1 hd with h | h
                  · rw [ha] at h; cases h
                  · rw [hc] at h; cases h
      rw [hd]
      simp
/-- A piece that is kept itself stands for all in it. -/
theorem within_self {K : List Kp} (hr : Row K) {x : Kp} (hx : x ∈ K) : withinQ K x.1 = x.2.1 := by
  obtain ⟨k, hk⟩ := List.getElem?_of_mem hx
  have hlt := (List.getElem?_eq_some_iff.1 hk).1
  have hone : ∀ (m : Nat) (y : Kp), K[m]? = some y → y.1 = x.1 → m = k := by
    intro m y hy e
    rcases Nat.lt_trichotomy m k with h | h | h
    · exact ((hr.at hy hk h).2 e).elim
    · exact h
    · exact ((hr.at hk hy h).2 e.symm).elim
  unfold withinQ
  rw [sum_one hlt (fun j hj hne => ?_)]
  · have ha : aloneQ K k x.1 = true := alone_iff.2 ⟨x, hk, in_refl _, fun m y hm hy c d => by
      have h1 := of_decide_eq_true c
      have h2 := of_decide_eq_true d
      exact hm (hone m y hy (in_same d h1.1))⟩
    rw [if_pos ha, numK, hk]
    rfl
  · rw [if_neg]
    intro ha
    obtain ⟨y, hy, a1, a2⟩ := alone_iff.1 ha
    exact a2 k x (fun e => hne e.symm) hk a1 (in_refl _)
/-- Closed upward: within a piece that is not told none is. -/
def Shut (T : Nat → Nat → Option Int) (B : Nat) : Prop := ∀ L i, L + 1 ≤ B → T (L + 1) i = none → T L (2 * i) = none ∧ T L (2 * i + 1) = none
/-- The rows that are kept, up to one level: just those that the closure keeps. -/
structure Upto (T : Nat → Nat → Option Int) (least : Int) (K : List Kp) (L : Nat) : Prop where
  row : Row K
  of : ∀ x ∈ K, x ∈ gTop T least x.1.1 x.1.2
  all : ∀ M j, M ≤ L → ∀ x ∈ gTop T least M j, x ∈ K
theorem mem_gTop {T : Nat → Nat → Option Int} {least : Int} {L i : Nat} {x : Kp} : x ∈ gTop T least L i ↔ ∃ n, T L i = some n ∧ ¬ Wid.f64 (n - gS T least L i) < least ∧ x = ((L, i), n, Wid.f64 (n - gS T least L i)) := by
  unfold gTop
  cases h : T L i with
  | none => simp
  | some n =>
    simp only
    by_cases g : Wid.f64 (n - gS T least L i) < least
    · rw [if_pos g]
      constructor
      · intro h2; cases h2
      · rintro ⟨m, e, h2, -⟩
        injection e with e
        subst e
        exact (h2 g).elim
    · rw [if_neg g]
      constructor
      · intro h2
        exact ⟨n, rfl, g, List.mem_singleton.1 h2⟩
      · rintro ⟨m, e, -, h2⟩
        injection e with e
        subst e
        rw [h2]
        simp
theorem gTop_at {T : Nat → Nat → Option Int} {least : Int} {L i : Nat} {x : Kp} (h : x ∈ gTop T least L i) : x.1 = (L, i) := by
  obtain ⟨n, -, -, rfl⟩ := mem_gTop.1 h
  rfl
theorem within_upto {T : Nat → Nat → Option Int} {least : Int} {B : Nat} (hs : Shut T B) {K : List Kp} : ∀ {L i : Nat}, L ≤ B → Upto T least K L → withinQ K (L, i) = gW T least L i := by
  intro L
  induction L with
  | zero =>
    intro i hLB h
    rw [gW_eq, gOne]
    cases ht : T 0 i with
    | none =>
      simp only
      refine within_key (fun x hx e => ?_)
      have h1 := h.of x hx
      rw [e] at h1
      obtain ⟨n, h2, -⟩ := mem_gTop.1 h1
      rw [ht] at h2
      cases h2
    | some n =>
      simp only
      by_cases g : Wid.f64 (n - gS T least 0 i) < least
      · rw [if_pos g]
        refine within_key (fun x hx e => ?_)
        have h1 := h.of x hx
        rw [e] at h1
        obtain ⟨m, h2, h3, -⟩ := mem_gTop.1 h1
        rw [ht] at h2
        injection h2 with h2
        subst h2
        exact h3 g
      · rw [if_neg g]
        exact within_self h.row (h.all 0 i (Nat.le_refl _) _ (mem_gTop.2 ⟨n, ht, g, rfl⟩))
  | succ L ih =>
    intro i hLB h
    have ih := @ih
    have hL : Upto T least K L := ⟨h.row, h.of, fun M j hM => h.all M j (by omega)⟩
    rw [gW_eq, gOne]
    cases ht : T (L + 1) i with
    | none =>
      simp only
      rw [within_split (fun x hx e => by
        have h1 := h.of x hx
        rw [e] at h1
        obtain ⟨n, h2, -⟩ := mem_gTop.1 h1
        rw [ht] at h2
        cases h2), ih (by omega) hL, ih (by omega) hL, gW_none (hs L i hLB ht).1, gW_none (hs L i hLB ht).2]
      rfl
    | some n =>
      simp only
      by_cases g : Wid.f64 (n - gS T least (L + 1) i) < least
      · rw [if_pos g, within_split (fun x hx e => by
          have h1 := h.of x hx
          rw [e] at h1
          obtain ⟨m, h2, h3, -⟩ := mem_gTop.1 h1
          rw [ht] at h2
          injection h2 with h2
          subst h2
          exact h3 g), ih (by omega) hL, ih (by omega) hL]
        rfl
      · rw [if_neg g]
        exact within_self h.row (h.all (L + 1) i (Nat.le_refl _) _ (mem_gTop.2 ⟨n, ht, g, rfl⟩))
/-- What is kept within a piece ahead of its own turn. -/
theorem within_turn {T : Nat → Nat → Option Int} {least : Int} {B : Nat} (hs : Shut T B) {K : List Kp} {L i : Nat} (hr : Row K) (hof : ∀ x ∈ K, x ∈ gTop T least x.1.1 x.1.2) (hall : ∀ M j, M < L → ∀ x ∈ gTop T least M j, x ∈ K) (hLB : L ≤ B) (hn : ∀ x ∈ K, x.1 ≠ (L, i)) : withinQ K (L, i) = gS T least L i := by
  cases L with
  | zero => rw [gS]; exact within_key hn
  | succ L =>
    have h : Upto T least K L := ⟨hr, hof, fun M j hM => hall M j (by omega)⟩
    rw [within_split hn, gS, within_upto hs (by omega) h, within_upto hs (by omega) h]
def keepQ (T : Nat → Nat → Option Int) (least : Int) (o : List ((Nat × Nat) × Int)) : List Kp := o.flatMap (fun q => gTop T least q.1.1 q.1.2)
theorem keep_row {T : Nat → Nat → Option Int} {least : Int} {o : List ((Nat × Nat) × Int)} (h : o.Pairwise (fun x y => x.1.1 ≤ y.1.1 ∧ x.1 ≠ y.1)) : Row (keepQ T least o) := by
  unfold Row keepQ
  rw [List.pairwise_flatMap]
  constructor
  · intro q _
    unfold gTop
    cases T q.1.1 q.1.2 with
    | none => exact List.Pairwise.nil
    | some n =>
      simp only
      split
      · exact List.Pairwise.nil
      · exact List.pairwise_singleton _ _
  · refine List.Pairwise.imp ?_ h
    intro a b hab x hx y hy
    rw [gTop_at hx, gTop_at hy]
    exact hab
theorem hier_go {T : Nat → Nat → Option Int} {least : Int} {B : Nat} (hs : Shut T B) {o : List ((Nat × Nat) × Int)} (ho : Ord T B o) : ∀ (l P : List ((Nat × Nat) × Int)), P ++ l = o →
    hierF least l (keepQ T least P) = if l.all (fun q => Wid.fit64 (q.2 - gS T least q.1.1 q.1.2)) = true then some (keepQ T least o) else none
  | [], P, e => by
    rw [List.append_nil] at e
    subst e
    rfl
  | q :: l, P, e => by
    have ih := hier_go (least := least) hs ho l (P ++ [q]) (by rw [List.append_assoc, List.singleton_append]; exact e)
    have hrow := ho.row
    rw [← e, List.pairwise_append] at hrow
    obtain ⟨r1, r2, r3⟩ := hrow
    rw [List.pairwise_cons] at r2
    have hT : T q.1.1 q.1.2 = some q.2 := (ho.mem q).1 (by rw [← e]; simp)
    have hw : withinQ (keepQ T least P) (q.1.1, q.1.2) = gS T least q.1.1 q.1.2 := by
      refine within_turn hs (keep_row r1) (fun x hx => ?_) (fun M j hM x hx => ?_) (ho.le q (by rw [← e]; simp)) (fun x hx h => ?_)
      · obtain ⟨p, _, h2⟩ := List.mem_flatMap.1 hx
        have h3 := gTop_at h2
        rw [h3]
        exact h2
      · obtain ⟨n, h2, -⟩ := mem_gTop.1 hx
        have h3 : (((M, j), n) : (Nat × Nat) × Int) ∈ o := (ho.mem _).2 h2
        rw [← e] at h3
        refine List.mem_flatMap.2 ⟨((M, j), n), ?_, hx⟩
        rcases List.mem_append.1 h3 with h4 | h4
        · exact h4
        · rcases List.mem_cons.1 h4 with h5 | h5
          · rw [← h5] at hM
            exact absurd hM (Nat.lt_irrefl _)
          · have := (r2.1 _ h5).1
            simp only at this
            omega
      · obtain ⟨p, h1, h2⟩ := List.mem_flatMap.1 hx
        have h3 := gTop_at h2
        exact (r3 p h1 q (by simp)).2 (by rw [h3] at h; exact h)
    have hrest : restQ (keepQ T least P) q = q.2 - gS T least q.1.1 q.1.2 := by
      unfold restQ
      rw [← hw]
    rw [hierF, hrest, List.all_cons]
    by_cases hf : Wid.fit64 (q.2 - gS T least q.1.1 q.1.2) = true
    · have hc : Wid.f64 (q.2 - gS T least q.1.1 q.1.2) = q.2 - gS T least q.1.1 q.1.2 := by
        unfold Wid.f64
        rw [if_pos hf]
      rw [if_pos hf, hf, Bool.true_and, ← ih]
      congr 1
      have e2 : keepQ T least (P ++ [q]) = keepQ T least P ++ gTop T least q.1.1 q.1.2 := by
        unfold keepQ
        rw [List.flatMap_append]
        simp
      rw [e2, gTop, hT]
      simp only
      rw [hc]
      by_cases hl : least ≤ q.2 - gS T least q.1.1 q.1.2
      · rw [if_pos hl, if_neg (by omega)]
      · rw [if_neg hl, if_pos (by omega), List.append_nil]
    · rw [if_neg hf]
      have hf2 : Wid.fit64 (q.2 - gS T least q.1.1 q.1.2) = false := by simpa using hf
      rw [hf2, Bool.false_and]
      rfl
theorem told_some {pt : Nat → Int → Int} {least : Int} {B L i : Nat} {n : Int} : toldQ pt least B L i = some n ↔ L ≤ B ∧ i ∈ askQ pt least B (B - L) ∧ least ≤ pt L ((i : Nat) : Int) ∧ n = pt L ((i : Nat) : Int) := by
  unfold toldQ
  by_cases h : L ≤ B ∧ i ∈ askQ pt least B (B - L) ∧ least ≤ pt L ((i : Nat) : Int)
  · rw [if_pos h]
    constructor
    · intro e
      injection e with e
      exact ⟨h.1, h.2.1, h.2.2, e.symm⟩
    · rintro ⟨-, -, -, rfl⟩
      rfl
  · rw [if_neg h]
    constructor
    · intro e; cases e
    · rintro ⟨a, b, c, -⟩
      exact (h ⟨a, b, c⟩).elim
theorem told_shut (pt : Nat → Int → Int) (least : Int) (B : Nat) : Shut (toldQ pt least B) B := by
  intro L i hL h
  have e : B - L = (B - (L + 1)) + 1 := by omega
  have e2 : B - (B - (L + 1)) = L + 1 := by omega
  have hno : ∀ j : Nat, j / 2 = i → toldQ pt least B L j = none := by
    intro j hj
    cases h2 : toldQ pt least B L j with
    | none => rfl
    | some n =>
      obtain ⟨h3, h4, h5, -⟩ := told_some.1 h2
      rw [e] at h4
      obtain ⟨h6, h7⟩ := mem_halvesQ.1 h4
      rw [e2, hj] at h7
      rw [hj] at h6
      have := told_some.2 ⟨hL, h6, h7, rfl⟩
      rw [h] at this
      cases this
  exact ⟨hno _ (by omega), hno _ (by omega)⟩
theorem told_ord (pt : Nat → Int → Int) (least : Int) (B : Nat) : Ord (toldQ pt least B) B (orderQ B (foundQ pt least B (B + 1))) := by
  refine ⟨orderQ_row (foundQ_row pt least B (B + 1) (Nat.le_refl _)), fun q hq => (mem_orderQ.1 hq).2, fun q => ?_⟩
  rw [mem_orderQ, mem_foundQ, told_some]
  constructor
  · rintro ⟨⟨e, h1, h2, h3, h4, h5⟩, h6⟩
    have e1 : B - (B - e) = e := by omega
    rw [h2, e1]
    exact ⟨by omega, h3, h4, h5⟩
  · rintro ⟨h1, h2, h3, h4⟩
    have e1 : B - (B - q.1.1) = q.1.1 := by omega
    exact ⟨⟨B - q.1.1, by omega, by omega, h2, by rw [e1]; exact h3, by rw [e1]; exact h4⟩, h1⟩
theorem found_level (pt : Nat → Int → Int) (least : Int) {B M : Nat} (hM : M ≤ B) : ∀ D : Nat, D ≤ B + 1 → (foundQ pt least B D).filter (fun q => decide (q.1.1 = M)) = if B - M < D then tellQ pt least M (askQ pt least B (B - M)) else []
  | 0, _ => by rw [if_neg (by omega)]; rfl
  | D + 1, hD => by
    have ih := found_level pt least hM D (by omega)
    show (foundQ pt least B D ++ tellQ pt least (B - D) (askQ pt least B D)).filter _ = _
    rw [List.filter_append, ih]
    by_cases h : D = B - M
    · have e : B - D = M := by omega
      rw [if_neg (by omega), if_pos (by omega), e, h, List.nil_append]
      refine List.filter_eq_self.2 (fun q hq => ?_)
      exact decide_eq_true (mem_tellQ.1 hq).1
    · have e2 : (tellQ pt least (B - D) (askQ pt least B D)).filter (fun q => decide (q.1.1 = M)) = [] := by
        refine List.filter_eq_nil_iff.2 (fun q hq => ?_)
        rw [(mem_tellQ.1 hq).1]
        simp
        omega
      rw [e2, List.append_nil]
      by_cases h2 : B - M < D
      · rw [if_pos h2, if_pos (by omega)]
      · rw [if_neg h2, if_neg (by omega)]
theorem flat_congr {α β : Type} {f g : α → List β} : ∀ {l : List α}, (∀ x ∈ l, f x = g x) → l.flatMap f = l.flatMap g
  | [], _ => rfl
  | a :: l, h => by rw [List.flatMap_cons, List.flatMap_cons, h a (by simp), flat_congr (fun x hx => h x (List.mem_cons_of_mem _ hx))]
theorem flat_filter {α β : Type} {f : α → Bool} {g : α → List β} : ∀ {l : List α}, (∀ x ∈ l, f x = false → g x = []) → (l.filter f).flatMap g = l.flatMap g
  | [], _ => rfl
  | a :: l, h => by
    have ih := flat_filter (f := f) (g := g) (l := l) (fun x hx => h x (List.mem_cons_of_mem _ hx))
    by_cases e : f a = true
    · rw [List.filter_cons_of_pos e, List.flatMap_cons, List.flatMap_cons, ih]
    · rw [List.filter_cons_of_neg e, List.flatMap_cons, ih, h a (by simp) (by simpa using e), List.nil_append]
theorem tell_top (pt : Nat → Int → Int) (least : Int) {B M : Nat} (row : List Nat) : (tellQ pt least M row).flatMap (fun q => gTop (toldQ pt least B) least q.1.1 q.1.2) = row.flatMap (fun i => gTop (toldQ pt least B) least M i) := by
  unfold tellQ
  rw [List.flatMap_map]
  refine flat_filter (fun i hi h => ?_)
  have hn : toldQ pt least B M i = none := by
    cases h2 : toldQ pt least B M i with
    | none => rfl
    | some n =>
      have h3 := (told_some.1 h2).2.2.1
      unfold big at h
      exact absurd h3 (of_decide_eq_false h)
  unfold gTop
  rw [hn]
theorem gL_deep (pt : Nat → Int → Int) (least : Int) {B M : Nat} (hM : M ≤ B) : ∀ d : Nat, d ≤ B - M → gL (toldQ pt least B) least B 0 M = (askQ pt least B d).flatMap (fun i => gL (toldQ pt least B) least (B - d) i M)
  | 0, _ => by
    show _ = [0].flatMap _
    simp
  | d + 1, hd => by
    rw [gL_deep pt least hM d (by omega)]
    obtain ⟨L, hL⟩ : ∃ L, B - d = L + 1 := ⟨B - d - 1, by omega⟩
    have hL2 : B - (d + 1) = L := by omega
    have e2 : B - (L + 1) = d := by omega
    show _ = (halvesQ pt least (B - d) (askQ pt least B d)).flatMap _
    unfold halvesQ
    rw [List.flatMap_assoc, hL, hL2]
    have e3 : ∀ i ∈ askQ pt least B d, gL (toldQ pt least B) least (L + 1) i M = if big pt least (L + 1) i = true then gL (toldQ pt least B) least L (2 * i) M ++ gL (toldQ pt least B) least L (2 * i + 1) M else [] := by
      intro i hi
      by_cases hb : big pt least (L + 1) i = true
      · rw [if_pos hb, gL, told_some.2 ⟨by omega, by rw [e2]; exact hi, of_decide_eq_true hb, rfl⟩]
        simp only
        rw [if_neg (by omega), List.append_nil]
      · rw [if_neg hb]
        refine gL_none ?_ M
        cases h2 : toldQ pt least B (L + 1) i with
        | none => rfl
        | some n => exact absurd (decide_eq_true (told_some.1 h2).2.2.1) hb
    rw [← flat_filter (f := big pt least (L + 1)) (l := askQ pt least B d) (fun i hi h => by rw [e3 i hi, if_neg (by rw [h]; decide)])]
    refine flat_congr (fun i hi => ?_)
    obtain ⟨h1, h2⟩ := List.mem_filter.1 hi
    rw [e3 i h1, if_pos h2]
    simp
/-- What the closure keeps, level by level, is what is kept of the row. -/
theorem keep_levels (pt : Nat → Int → Int) (least : Int) (B : Nat) : keepQ (toldQ pt least B) least (orderQ B (foundQ pt least B (B + 1))) = (List.range (B + 1)).flatMap (fun M => gL (toldQ pt least B) least B 0 M) := by
  unfold keepQ orderQ
  rw [List.flatMap_assoc]
  refine flat_congr (fun M hM => ?_)
  have hM2 : M ≤ B := by have := List.mem_range.1 hM; omega
  have e : B - (B - M) = M := by omega
  rw [found_level pt least hM2 (B + 1) (Nat.le_refl _), if_pos (by omega), tell_top, gL_deep pt least hM2 (B - M) (Nat.le_refl _), e]
  exact flat_congr (fun i _ => (gL_self M i).symm)
theorem gF_all {T : Nat → Nat → Option Int} {least : Int} (h : ∀ L i n, T L i = some n → Wid.fit64 (n - gS T least L i) = true) : ∀ L i, gF T least L i = true
  | 0, i => by
    cases ht : T 0 i with
    | none => exact gF_none ht
    | some n =>
      have := h 0 i n ht
      rw [gS, Int.sub_zero] at this
      rw [gF, ht]
      exact this
  | L + 1, i => by
    cases ht : T (L + 1) i with
    | none => exact gF_none ht
    | some n =>
      rw [gF, ht]
      simp only
      rw [gF_all h L, gF_all h L, h (L + 1) i n ht]
      rfl
theorem gF_down (pt : Nat → Int → Int) (least : Int) {B : Nat} (h : gF (toldQ pt least B) least B 0 = true) : ∀ d : Nat, d ≤ B → ∀ i ∈ askQ pt least B d, gF (toldQ pt least B) least (B - d) i = true
  | 0, _, i, hi => by
    have : i = 0 := List.mem_singleton.1 hi
    subst this
    exact h
  | d + 1, hd, i, hi => by
    obtain ⟨h1, h2⟩ := mem_halvesQ.1 hi
    have ih := gF_down pt least h d (by omega) _ h1
    obtain ⟨L, hL⟩ : ∃ L, B - d = L + 1 := ⟨B - d - 1, by omega⟩
    have hL2 : B - (d + 1) = L := by omega
    have e2 : B - (L + 1) = d := by omega
    rw [hL] at ih h2
    rw [hL2]
    rw [gF, told_some.2 ⟨by omega, by rw [e2]; exact h1, h2, rfl⟩] at ih
    simp only [Bool.and_eq_true] at ih
    have e3 : i = 2 * (i / 2) ∨ i = 2 * (i / 2) + 1 := by omega
    rcases e3 with e3 | e3
    · rw [e3]; exact ih.1.1
    · rw [e3]; exact ih.1.2
theorem gF_fit {T : Nat → Nat → Option Int} {least : Int} {L i : Nat} {n : Int} (h : T L i = some n) (hg : gF T least L i = true) : Wid.fit64 (n - gS T least L i) = true := by
  cases L with
  | zero =>
    rw [gF, h] at hg
    rw [gS, Int.sub_zero]
    exact hg
  | succ L =>
    rw [gF, h] at hg
    simp only [Bool.and_eq_true] at hg
    exact hg.2
/-- What is kept, by what the closure gathers. -/
theorem gat_hier (pt : Nat → Int → Int) (least : Int) (B : Nat) :
    hierF least (orderQ B (foundQ pt least B (B + 1))) [] = if gF (toldQ pt least B) least B 0 = true then some ((List.range (B + 1)).flatMap (fun M => gL (toldQ pt least B) least B 0 M)) else none := by
  have ho := told_ord pt least B
  have h := hier_go (least := least) (told_shut pt least B) ho _ [] (List.nil_append _)
  have e0 : keepQ (toldQ pt least B) least [] = [] := rfl
  rw [e0] at h
  rw [h, keep_levels]
  have e : (orderQ B (foundQ pt least B (B + 1))).all (fun q => Wid.fit64 (q.2 - gS (toldQ pt least B) least q.1.1 q.1.2)) = gF (toldQ pt least B) least B 0 := by
    rw [Bool.eq_iff_iff, List.all_eq_true]
    constructor
    · intro g
      exact gF_all (fun L i n ht => g ((L, i), n) ((ho.mem _).2 ht)) B 0
    · intro g q hq
      have ht := (ho.mem q).1 hq
      obtain ⟨h1, h2, -⟩ := told_some.1 ht
      have h3 := gF_down pt least g (B - q.1.1) (by omega) _ h2
      have e1 : B - (B - q.1.1) = q.1.1 := by omega
      rw [e1] at h3
      exact gF_fit ht h3
  rw [e]
end Go.Proofs.YtkflggojiiebeaaGreat.Hvy

namespace Go.Proofs.YtkflggojiiebeaaGreat.Hvy
open Go Go.RowKit Lw Grd Lin Con Shp Sk Exa Lev Stk Pcs Spn Qnt
set_option linter.unusedVariables false
set_option linter.unusedSimpArgs false
set_option linter.unusedSimpArgs false
set_option maxRecDepth 100000 in
set_option maxHeartbeats 4000000 in
theorem same_any (A B : Option Addr) (n ca cb : Nat) (xs : List ((Nat × Nat) × Int)) (w : World) (ha : StV 3 encF w A n ca xs) (hb : StV 3 encF w B n cb xs) :
    Calls Tryz.prog 21 #[.slice A n ca, .slice B n cb] w fun e w' => e = .returned (.bool true) ∧ Below w.heap.size w w' := by
  have HA := Lib.hid ha
  have HB := Lib.hid hb
  have HLA := Lib.hid ha.len
  have hn1 := ha.nc
  have hn2 := ha.cm
  unfold maxLen at hn2
  clear ha hb
  go_enter Tryz.func21, Tryz.ntmps21
  go_wp2
  go_loopw [5] (fun i wr => ∃ k d : Nat, k ≤ n ∧ i = .int .i64 k ∧ wr = w.drewN d) (fun i _ => n - (intOf i).toNat)
  case atStart => exact ⟨0, 0, Nat.zero_le _, rfl, rfl⟩
  case round =>
    obtain ⟨k, d, hk, rfl, rfl⟩ := hrel
    by_cases hlt : k < n
    · obtain ⟨x, hx⟩ : ∃ x, xs[k]? = some x := ⟨_, List.getElem?_eq_getElem (by rw [HLA.out]; exact hlt)⟩
      obtain ⟨ad, g1, q1, rfl, had, hx1⟩ := HA.out.at hx (v0 := .int .i64 (x.1.1 : Int)) rfl
      obtain ⟨bd, g2, q2, rfl, hbd, hy1⟩ := HB.out.at hx (v0 := .int .i64 (x.1.1 : Int)) rfl
      have x0 := hx1 0 _ rfl
      have y0 := hy1 0 _ rfl
      have x1 := hx1 1 _ rfl
      have y1 := hy1 1 _ rfl
      have x2 := hx1 2 _ rfl
      have y2 := hy1 2 _ rfl
      rw [Nat.add_zero] at x0 y0
      obtain ⟨⟨xa, xb⟩, xc⟩ := x
      simp only at x0 y0 x1 y1 x2 y2
      clear hx hx1 hy1
      go_wp2
      go_quiet (fail)
      go_wp2
      go_roundw
      case rel => exact ⟨k + 1, _, by omega, by go_num, rfl⟩
      case measure => simp [intOf]; omega
    · have e : k = n := by omega
      subst e
      go_wp2
      go_ret
      exact ⟨rfl, by first | exact below_drewN (Below.refl _ _) _ | exact below_drewN (below_drewN (Below.refl _ _) _) _⟩
set_option maxRecDepth 100000 in
set_option maxHeartbeats 4000000 in
theorem rests_any (A B : Option Addr) (n ca cb : Nat) (xs : List Kp) (w : World) (ha : StV 4 encR w A n ca xs) (hb : StV 4 encR w B n cb xs) :
    Calls Tryz.prog 22 #[.slice A n ca, .slice B n cb] w fun e w' => e = .returned (.bool true) ∧ Below w.heap.size w w' := by
  have HA := Lib.hid ha
  have HB := Lib.hid hb
  have HLA := Lib.hid ha.len
  have hn1 := ha.nc
  have hn2 := ha.cm
  unfold maxLen at hn2
  clear ha hb
  go_enter Tryz.func22, Tryz.ntmps22
  go_wp2
  go_loopw [5] (fun i wr => ∃ k d : Nat, k ≤ n ∧ i = .int .i64 k ∧ wr = w.drewN d) (fun i _ => n - (intOf i).toNat)
  case atStart => exact ⟨0, 0, Nat.zero_le _, rfl, rfl⟩
  case round =>
    obtain ⟨k, d, hk, rfl, rfl⟩ := hrel
    by_cases hlt : k < n
    · obtain ⟨x, hx⟩ : ∃ x, xs[k]? = some x := ⟨_, List.getElem?_eq_getElem (by rw [HLA.out]; exact hlt)⟩
      obtain ⟨ad, g1, q1, rfl, had, hx1⟩ := HA.out.at hx (v0 := .int .i64 (x.1.1 : Int)) rfl
      obtain ⟨bd, g2, q2, rfl, hbd, hy1⟩ := HB.out.at hx (v0 := .int .i64 (x.1.1 : Int)) rfl
      have x0 := hx1 0 _ rfl
      have y0 := hy1 0 _ rfl
      have x1 := hx1 1 _ rfl
      have y1 := hy1 1 _ rfl
      have x2 := hx1 2 _ rfl
      have y2 := hy1 2 _ rfl
      have x3 := hx1 3 _ rfl
      have y3 := hy1 3 _ rfl
      rw [Nat.add_zero] at x0 y0
      obtain ⟨⟨xa, xb⟩, xc, xd⟩ := x
      simp only at x0 y0 x1 y1 x2 y2 x3 y3
      clear hx hx1 hy1
      go_wp2
      go_quiet (fail)
      go_wp2
      go_roundw
      case rel => exact ⟨k + 1, _, by omega, by go_num, rfl⟩
      case measure => simp [intOf]; omega
    · have e : k = n := by omega
      subst e
      go_wp2
      go_ret
      exact ⟨rfl, by first | exact below_drewN (Below.refl _ _) _ | exact below_drewN (below_drewN (Below.refl _ _) _) _⟩
end Go.Proofs.YtkflggojiiebeaaGreat.Hvy

namespace Go.Proofs.YtkflggojiiebeaaGreat.Hvy
open Go Go.RowKit Lw Grd Lin Con Shp Sk Exa Lev Stk Pcs Spn Qnt
set_option linter.unusedVariables false
set_option linter.unusedSimpArgs false
theorem in_no {a b c d : Nat} (h : ¬ a ≤ c) : inQ (a, b) (c, d) = false := decide_eq_false (fun g => h g.1)
theorem in_yes {a b c d : Nat} (h : a ≤ c) : inQ (a, b) (c, d) = (b / 2 ^ (c - a) == d) := by
  unfold inQ
  by_cases e : b / 2 ^ (c - a) = d
  · rw [decide_eq_true ⟨h, e⟩]
    exact (beq_iff_eq.2 e).symm
  · rw [decide_eq_false (fun g => e g.2)]
    exact (beq_eq_false_iff_ne.2 e).symm
theorem cast_beq (a b : Nat) : ((a : Int) == (b : Int)) = (a == b) := by
  by_cases h : a = b
  · subst h
    rw [beq_self_eq_true, beq_self_eq_true]
  · rw [beq_eq_false_iff_ne.2 h]
    exact beq_eq_false_iff_ne.2 (by omega)
set_option maxRecDepth 100000 in
set_option maxHeartbeats 4000000 in
theorem rin_ex (a b c d : Nat) (w : World) (ha : a ≤ 60) (hc : c ≤ 60) :
    Calls Tryz.prog 59 #[.agg #[.int .i64 (a : Int), .int .u64 (b : Int)], .agg #[.int .i64 (c : Int), .int .u64 (d : Int)]] w fun e w' => e = .returned (.bool (inQ (a, b) (c, d))) ∧ w' = (w.alloc (.cells #[.int .i64 (a : Int), .int .u64 (b : Int)] 82)).alloc (.cells #[.int .i64 (c : Int), .int .u64 (d : Int)] 82) := by
  obtain ⟨A1, hA1⟩ : ∃ v : Int, (a : Int) = v := ⟨_, rfl⟩
  obtain ⟨C1, hC1⟩ : ∃ v : Int, (c : Int) = v := ⟨_, rfl⟩
  obtain ⟨D1, hD1⟩ : ∃ v : Int, (d : Int) = v := ⟨_, rfl⟩
  obtain ⟨B1, hB1⟩ : ∃ v : Int, (b : Int) = v := ⟨_, rfl⟩
  rw [hA1, hB1, hC1, hD1]
  by_cases h : a ≤ c
  · rw [in_yes h, ← cast_beq, hD1]
    obtain ⟨n, hn⟩ : ∃ n, c - a = n := ⟨_, rfl⟩
    rw [hn]
    obtain ⟨Q1, hQ1⟩ : ∃ v : Int, ((b / 2 ^ n : Nat) : Int) = v := ⟨_, rfl⟩
    have w1 : wrap64 (C1 - A1) = (n : Int) := (IntWalk.wrap64_in _ ⟨by omega, by omega⟩).trans (by omega)
    have w2 : IntKind.i64.wrap (C1 - A1) = (n : Int) := (IntWalk.i64_in _ ⟨by omega, by omega⟩).trans (by omega)
    have w3 : IntKind.u64.wrap (n : Int) = (n : Int) := by rw [IntKind.wrap_u64]; omega
    have w4 : B1 / 2 ^ min n 64 = Q1 := by rw [Nat.min_eq_left (by omega), ← hB1, ← hQ1]; simp
    have w5 : B1 / 2 ^ n = Q1 := by rw [← hB1, ← hQ1]; simp
    have w6 : decide (A1 ≤ C1) = true := decide_eq_true (by omega)
    have w7 : A1 ≤ C1 := by omega
    rw [hQ1]
    clear hn hA1 hC1 hD1 hB1 hQ1 h ha hc
    go_enter Tryz.func59, Tryz.ntmps59
    go_wp2
    go_ret
    exact ⟨ret_bs (by first | rfl | (simp [*]; done)), rfl⟩
  · rw [in_no h]
    have w6 : decide (A1 ≤ C1) = false := decide_eq_false (by omega)
    have w7 : ¬ A1 ≤ C1 := by omega
    have w8 : C1 < A1 := by omega
    clear hA1 hC1 hD1 hB1 h ha hc
    go_enter Tryz.func59, Tryz.ntmps59
    go_wp2
    go_ret
    exact ⟨ret_bs (by first | rfl | (simp [*]; done)), rfl⟩
theorem rin_any (a b c d : Nat) (w : World) (ha : a ≤ 60) (hc : c ≤ 60) :
    Calls Tryz.prog 59 #[.agg #[.int .i64 (a : Int), .int .u64 (b : Int)], .agg #[.int .i64 (c : Int), .int .u64 (d : Int)]] w fun e w' => e = .returned (.bool (inQ (a, b) (c, d))) ∧ Below w.heap.size w w' :=
  (rin_ex a b c d w ha hc).mono (fun e w' ⟨h1, h2⟩ => ⟨h1, by rw [h2]; exact Lw.below_alloc (Lw.below_alloc (Below.refl _ _) _) _⟩)
/-- In, as a region that only reads and lays blocks meets it. -/
theorem rin_grown (a b c d : Nat) (w : World) (n : Nat) (os : Array Obj) (ha : a ≤ 60) (hc : c ≤ 60) {v : Bool} (hv : inQ (a, b) (c, d) = v) :
    Calls Tryz.prog 59 #[.agg #[.int .i64 (a : Int), .int .u64 (b : Int)], .agg #[.int .i64 (c : Int), .int .u64 (d : Int)]] (Go.Sort.grow (w.drewN n) os) fun e w'' => e = .returned (.bool v) ∧ ∃ p : GrownBy, w'' = Go.Sort.grow (w.drewN p.n) p.os := by
  refine Calls.grown_of ((rin_ex a b c d _ ha hc).mono (fun e w' ⟨h1, h2⟩ => ⟨by rw [h1, hv], 0, #[.cells #[.int .i64 (a : Int), .int .u64 (b : Int)] 82, .cells #[.int .i64 (c : Int), .int .u64 (d : Int)] 82], ?_⟩))
  rw [h2]
  unfold World.alloc Go.Sort.grow World.drewN
  simp
  congr 1
theorem below_sgrow (w : World) (n : Nat) (os : Array Obj) : Below w.heap.size w (Go.Sort.grow (w.drewN n) os) :=
  ⟨rfl, rfl, rfl, by unfold Go.Sort.grow World.drewN; simp, fun k hk => by
    unfold Go.Sort.grow World.drewN
    simp only
    rw [Array.getElem?_append_left hk]⟩
theorem cell_sgrow {w : World} {a : Addr} {v : Value} (h : w.cell? a = some v) : ∀ (n : Nat) (os : Array Obj), (Go.Sort.grow (w.drewN n) os).cell? a = some v := fun n os => cell_grown (cell_lt h) h n os
end Go.Proofs.YtkflggojiiebeaaGreat.Hvy

namespace Go.Proofs.YtkflggojiiebeaaGreat.Hvy
open Go Go.RowKit Lw Grd Lin Con Shp Sk Exa Lev Stk Pcs Spn Qnt
set_option linter.unusedVariables false
def Small (M : Int) (K : List Kp) : Prop := ∀ x ∈ K, -M ≤ x.2.1 ∧ x.2.1 ≤ M
theorem numK_bd {M : Int} (hM : 0 ≤ M) {K : List Kp} (h : Small M K) (k : Nat) : -M ≤ numK K k ∧ numK K k ≤ M := by
  unfold numK
  cases hx : K[k]? with
  | none => simp; omega
  | some x => exact h x (List.mem_of_getElem? hx)
end Go.Proofs.YtkflggojiiebeaaGreat.Hvy

namespace Go.Proofs.YtkflggojiiebeaaGreat.Hvy
open Go Go.RowKit Lw Grd Lin Con Shp Sk Exa Lev Stk Pcs Spn Qnt
set_option linter.unusedVariables false
/-- Alone so far: of the first m none but itself stands between. -/
def alnQ (K : List Kp) (k : Nat) (p : Nat × Nat) (m : Nat) : Bool :=
  match K[k]? with
  | none => false
  | some x => inQ x.1 p && (List.range m).all (fun j => j == k || (match K[j]? with
    | none => true
    | some y => !(inQ x.1 y.1 && inQ y.1 p)))
theorem alnQ_end (K : List Kp) (k : Nat) (p : Nat × Nat) : alnQ K k p K.length = aloneQ K k p := rfl
theorem alnQ_next {K : List Kp} {k m : Nat} {p : Nat × Nat} {x y : Kp} (hx : K[k]? = some x) (hy : K[m]? = some y) : alnQ K k p (m + 1) = (alnQ K k p m && (m == k || !(inQ x.1 y.1 && inQ y.1 p))) := by
  unfold alnQ
  rw [hx]
  simp only [List.range_succ, List.all_append, List.all_cons, List.all_nil, Bool.and_true, hy]
  rw [Bool.and_assoc]
theorem alnQ_first {K : List Kp} {k : Nat} {p : Nat × Nat} {x : Kp} (hx : K[k]? = some x) : alnQ K k p 0 = inQ x.1 p := by
  unfold alnQ
  rw [hx]
  simp
theorem alnQ_out {K : List Kp} {k : Nat} {p : Nat × Nat} {x : Kp} (hx : K[k]? = some x) (h : inQ x.1 p = false) : aloneQ K k p = false := by
  unfold aloneQ
  rw [hx]
  simp [h]
/-- The sum of the first k that are alone. -/
def wsumQ (K : List Kp) (p : Nat × Nat) (k : Nat) : Int := ((List.range k).map (fun j => if aloneQ K j p = true then numK K j else 0)).sum
theorem wsumQ_0 (K : List Kp) (p : Nat × Nat) : wsumQ K p 0 = 0 := rfl
theorem wsumQ_end (K : List Kp) (p : Nat × Nat) : wsumQ K p K.length = withinQ K p := rfl
theorem wsumQ_next (K : List Kp) (p : Nat × Nat) (k : Nat) : wsumQ K p (k + 1) = wsumQ K p k + (if aloneQ K k p = true then numK K k else 0) := by
  unfold wsumQ
  rw [List.range_succ, List.map_append, List.sum_append]
  simp
theorem wsumQ_bd {M : Int} (hM : 0 ≤ M) {K : List Kp} (h : Small M K) (p : Nat × Nat) (k : Nat) : -(M * k) ≤ wsumQ K p k ∧ wsumQ K p k ≤ M * k := by
  have h2 := sum_bd (f := fun j => if aloneQ K j p = true then numK K j else 0) (b := M) (l := List.range k) (fun j _ => by
    show -M ≤ (if aloneQ K j p = true then numK K j else 0) ∧ (if aloneQ K j p = true then numK K j else 0) ≤ M
    have := numK_bd hM h j
    split <;> omega)
  rw [List.length_range] at h2
  exact h2
/-- The pieces of the levels below v, and of the first i those of level v. -/
def rowO (l : List ((Nat × Nat) × Int)) (v i : Nat) : List ((Nat × Nat) × Int) := (List.range v).flatMap (fun L => l.filter (fun q => decide (q.1.1 = L))) ++ (l.take i).filter (fun q => decide (q.1.1 = v))
theorem rowO_00 (l : List ((Nat × Nat) × Int)) : rowO l 0 0 = [] := by
  unfold rowO
  simp
theorem rowO_no {l : List ((Nat × Nat) × Int)} {v i : Nat} {q : (Nat × Nat) × Int} (h : l[i]? = some q) (hv : q.1.1 ≠ v) : rowO l v (i + 1) = rowO l v i := by
  unfold rowO
  obtain ⟨h1, h2⟩ := List.getElem?_eq_some_iff.1 h
  rw [List.take_succ_eq_append_getElem h1, h2, List.filter_append]
  simp [hv]
theorem rowO_yes {l : List ((Nat × Nat) × Int)} {v i : Nat} {q : (Nat × Nat) × Int} (h : l[i]? = some q) (hv : q.1.1 = v) : rowO l v (i + 1) = rowO l v i ++ [q] := by
  unfold rowO
  obtain ⟨h1, h2⟩ := List.getElem?_eq_some_iff.1 h
  rw [List.take_succ_eq_append_getElem h1, h2, List.filter_append]
  simp [hv]
theorem rowO_up (l : List ((Nat × Nat) × Int)) (v : Nat) : rowO l v l.length = rowO l (v + 1) 0 := by
  unfold rowO
  rw [List.take_length, List.range_succ, List.flatMap_append]
  simp
theorem rowO_end (B : Nat) (l : List ((Nat × Nat) × Int)) : rowO l (B + 1) 0 = orderQ B l := by
  unfold rowO orderQ
  simp
/-- What is gone through stands ahead in the whole row. -/
theorem rowO_ahead {B : Nat} {l : List ((Nat × Nat) × Int)} {v i : Nat} (hv : v ≤ B) : ∃ r, orderQ B l = rowO l v i ++ r := by
  have h1 : l.filter (fun q => decide (q.1.1 = v)) = (l.take i).filter (fun q => decide (q.1.1 = v)) ++ (l.drop i).filter (fun q => decide (q.1.1 = v)) := by rw [← List.filter_append, List.take_append_drop]
  have h2 : B + 1 = (v + 1) + (B - v) := by omega
  refine ⟨(l.drop i).filter (fun q => decide (q.1.1 = v)) ++ ((List.range (B - v)).map (fun j => v + 1 + j)).flatMap (fun L => l.filter (fun q => decide (q.1.1 = L))), ?_⟩
  unfold orderQ rowO
  rw [h2, List.range_add, List.flatMap_append, List.range_succ, List.flatMap_append]
  simp only [List.flatMap_cons, List.flatMap_nil, List.append_nil]
  rw [h1]
  simp [List.append_assoc]
theorem hier_step {least : Int} {o : List ((Nat × Nat) × Int)} {K : List Kp} {q : (Nat × Nat) × Int} (h : hierF least o [] = some K) (hf : Wid.fit64 (restQ K q) = true) : hierF least (o ++ [q]) [] = some (if least ≤ restQ K q then K ++ [(q.1, q.2, restQ K q)] else K) := by
  rw [hierF_app, h]
  show hierF least [q] K = _
  rw [hierF, if_pos hf, hierF]
theorem hier_none {least : Int} {o r : List ((Nat × Nat) × Int)} {K : List Kp} {q : (Nat × Nat) × Int} (h : hierF least o [] = some K) (hf : ¬ Wid.fit64 (restQ K q) = true) : hierF least ((o ++ [q]) ++ r) [] = none := by
  rw [hierF_app, hierF_app, h]
  show (hierF least [q] K).bind _ = none
  rw [hierF, if_neg hf]
  rfl
theorem hier_kept {least : Int} {o : List ((Nat × Nat) × Int)} {K : List Kp} (h : hierF least o [] = some K) : K.length ≤ o.length ∧ ∀ x ∈ K, (x.1, x.2.1) ∈ o := by
  obtain ⟨-, E, hE, hs⟩ := hierF_good (Good.nil least) h
  rw [List.nil_append] at hE
  subst hE
  refine ⟨?_, fun x hx => hs.subset (List.mem_map.2 ⟨x, hx, rfl⟩)⟩
  have := hs.length_le
  rwa [List.length_map] at this
theorem rowO_in {l : List ((Nat × Nat) × Int)} {v i : Nat} : ∀ q ∈ rowO l v i, q ∈ l := by
  intro q hq
  unfold rowO at hq
  rcases List.mem_append.1 hq with h | h
  · obtain ⟨L, -, h2⟩ := List.mem_flatMap.1 h
    exact (List.mem_filter.1 h2).1
  · exact List.mem_of_mem_take (List.mem_filter.1 h).1
theorem ord_le (l : List ((Nat × Nat) × Int)) : ∀ n : Nat, ((List.range n).flatMap (fun L => l.filter (fun q => decide (q.1.1 = L)))).length ≤ (l.filter (fun q => decide (q.1.1 < n))).length := by
  intro n
  induction n with
  | zero => simp
  | succ n ih =>
    rw [List.range_succ, List.flatMap_append, List.length_append]
    have e : [n].flatMap (fun L => l.filter (fun q => decide (q.1.1 = L))) = l.filter (fun q => decide (q.1.1 = n)) := by simp
    rw [e]
    have h2 : (l.filter (fun q => decide (q.1.1 < n))).length + (l.filter (fun q => decide (q.1.1 = n))).length ≤ (l.filter (fun q => decide (q.1.1 < n + 1))).length := by
      clear ih e
      induction l with
      | nil => simp
      | cons q l ih =>
        simp only [List.filter_cons]
        by_cases h1 : q.1.1 < n
        · have h3 : ¬ q.1.1 = n := by omega
          have h4 : q.1.1 < n + 1 := by omega
          simp [h1, h3, h4]
          omega
        · by_cases h3 : q.1.1 = n
          · have h4 : q.1.1 < n + 1 := by omega
            have h5 : ¬ n < n := Nat.lt_irrefl n
            simp [h3, h5]
            omega
          · have h4 : ¬ q.1.1 < n + 1 := by omega
            simp [h1, h3, h4]
            exact ih
    omega
theorem rowO_len {l : List ((Nat × Nat) × Int)} {v i : Nat} : (rowO l v i).length ≤ l.length := by
  have hB : v ≤ v := Nat.le_refl v
  obtain ⟨r, hr⟩ := rowO_ahead (B := v) (l := l) (i := i) hB
  have h1 : (orderQ v l).length ≤ (l.filter (fun q => decide (q.1.1 < v + 1))).length := ord_le l (v + 1)
  have h2 := List.length_filter_le (fun q : (Nat × Nat) × Int => decide (q.1.1 < v + 1)) l
  rw [hr, List.length_append] at h1
  omega
end Go.Proofs.YtkflggojiiebeaaGreat.Hvy

namespace Go.Proofs.YtkflggojiiebeaaGreat.Hvy
open Go Go.RowKit Lw Grd Lin Con Shp Sk Exa Lev Stk Pcs Spn Qnt
set_option linter.unusedVariables false
set_option linter.unusedSimpArgs false
set_option linter.unusedSimpArgs false
theorem cbox3r {w : World} {b : Nat} {e : TypeId} {v0 v1 v2 : Value} (h : (boxT b e #[v0, v1, v2]).I w) : w.cell? ⟨b, 0, none⟩ = some v0 ∧ w.cell? ⟨b, 1, none⟩ = some v1 ∧ w.cell? ⟨b, 2, none⟩ = some v2 := ⟨box_cell h rfl, box_cell h rfl, box_cell h rfl⟩
end Go.Proofs.YtkflggojiiebeaaGreat.Hvy

namespace Go.Proofs.YtkflggojiiebeaaGreat.Hvy
open Go Go.RowKit Go.Maps Lw Grd Lin Con Shp Sk Exa Lev Stk Pcs Spn Qnt
set_option linter.unusedVariables false
set_option linter.unusedSimpArgs false
set_option maxRecDepth 100000
theorem mp_u : Tryz.prog.underlying 188 = some (.map 82 2) := by kernel_rfl
theorem mp_e : Tryz.prog.underlying 2 = some (.int .i64) := by kernel_rfl
theorem mp_zero (w : World) : (zeroValue 2).run Tryz.prog w = .ok (.int .i64 0) w := by kernel_rfl
end Go.Proofs.YtkflggojiiebeaaGreat.Hvy

namespace Go.Proofs.YtkflggojiiebeaaGreat.Hvy
open Go Go.RowKit Lw Grd Lin Con Shp Sk Exa Lev Stk Pcs Spn Qnt
set_option linter.unusedVariables false
set_option linter.unusedSimpArgs false
set_option linter.unusedSimpArgs false
theorem rs_info : (Tryz.prog.info? 101).map (fun i => (i.zero, i.size, i.bytes)) = some (some (.agg #[.int .i64 0, .int .u64 0, .int .i64 0, .int .i64 0]), 4, 32) := by kernel_rfl
theorem rss_u : Tryz.prog.underlying 45 = some (.slice 101) := by kernel_rfl
theorem rsss_u : Tryz.prog.underlying 189 = some (.slice 45) := by kernel_rfl
theorem enc_oneR {us : List Kp} : ∀ u ∈ us.flatMap encR, u.oneCell' = true := by
  intro u hu
  obtain ⟨q, -, h2⟩ := List.mem_flatMap.1 hu
  simp [encR] at h2
  rcases h2 with rfl | rfl | rfl | rfl <;> rfl
set_option maxRecDepth 100000 in
set_option maxHeartbeats 4000000 in
theorem grow_nil (n : Nat) (w : World) (hn : n ≤ 4096) :
    Calls Tryz.prog 130 #[.slice none 0 0, .int .i64 (n : Int)] w fun e w' => ∃ (A : Option Addr) (cap : Nat), e = .returned (.slice A 0 cap) ∧ w'.ownsRow w.heap.size 101 4 (.slice A 0 cap) 0 [] ∧ Below w.heap.size w w' := by
  by_cases h0 : n = 0
  · subst h0
    go_enter Tryz.func130, Tryz.ntmps130
    go_wp2
    go_ret
    exact ⟨none, 0, rfl, World.ownsRow_nil _ _ _ _, Below.refl _ _⟩
  · obtain ⟨j0, hj_, hy0, hy1, hy2⟩ := info_parts rs_info
    have hrz : ∀ ty, (Builtin.append_ #[45, 3] ty #[.slice none 0 0, .int .i64 (n : Int)]).run Tryz.prog w = .ok (.slice (some ⟨w.heap.size, 0, none⟩) (0 + n) (grownCap w (0 + n) 0 101)) (w.drew.alloc (.cells (#[] ++ Builtin.zeroCells (Value.agg #[.int .i64 0, .int .u64 0, .int .i64 0, .int .i64 0]).cells n ++ Builtin.zeroCells (Value.agg #[.int .i64 0, .int .u64 0, .int .i64 0, .int .i64 0]).cells (grownCap w (0 + n) 0 101 - (0 + n))) 101)) := fun ty =>
      Lib.run_append_grow_zeros w 45 3 ty 101 j0 (.agg #[.int .i64 0, .int .u64 0, .int .i64 0, .int .i64 0]) .i64 .i64 rss_u pk_u1 hj_ hy0 none 0 0 [] (run_firstCells_none w.drew j0.size 0 0 0) n (by omega) (by rw [hy1]; decide) (by omega) (by omega) (by rw [hy2]; omega) (growslice_fits (by omega) (by rw [hy2]; omega))
    have hGn : 0 + n ≤ grownCap w (0 + n) 0 101 := grownCap_ge w _ _ _
    have hGm := grownCap_le_maxLen w (0 + n) 0 101 (by unfold maxLen; omega)
    obtain ⟨G, hG⟩ : ∃ G, G = grownCap w (0 + n) 0 101 := ⟨_, rfl⟩
    rw [← hG] at hrz hGn hGm
    rw [Nat.zero_add] at hrz hGn
    clear hG
    have hG63 : G ≤ 9223372036854775807 := by unfold maxLen at hGm; omega
    have h1 : ¬ ((n : Int) < 0) := by omega
    have h2 : wrap64 ((n : Int)) = (n : Int) := IntWalk.wrap64_in _ ⟨by omega, by omega⟩
    have h4 : 0 < n := by omega
    have h5 : (0 : Int) < (n : Int) := by omega
    have hown : (w.drew.alloc (.cells (#[] ++ Builtin.zeroCells (Value.agg #[.int .i64 0, .int .u64 0, .int .i64 0, .int .i64 0]).cells n ++ Builtin.zeroCells (Value.agg #[.int .i64 0, .int .u64 0, .int .i64 0, .int .i64 0]).cells (G - n)) 101)).ownsRow w.heap.size 101 4 (.slice (some ⟨w.heap.size, 0, none⟩) 0 G) 0 [] := World.ownsRow_made w.drew _ G (Nat.le_refl _) hGm (by
      rw [Array.size_append, Array.size_append, size_zeroCells, size_zeroCells]
      show 0 + n * 4 + (G - n) * 4 = G * 4
      omega)
    obtain ⟨Z, hZ⟩ : ∃ Z, #[] ++ Builtin.zeroCells (Value.agg #[.int .i64 0, .int .u64 0, .int .i64 0, .int .i64 0]).cells n ++ Builtin.zeroCells (Value.agg #[.int .i64 0, .int .u64 0, .int .i64 0, .int .i64 0]).cells (G - n) = Z := ⟨_, rfl⟩
    rw [hZ] at hown hrz
    have HOWN := Lib.hid hown
    clear hZ hown hGm
    go_enter Tryz.func130, Tryz.ntmps130
    go_wp2_with (at_builtin; refine Lib.wpList_append_run _ rfl _ _ _ _ rfl _ _ rfl rfl _ _ (hrz _) ?_)
    go_ret
    exact ⟨_, G, rfl, HOWN.out, Lw.below_alloc (Below.drew (Below.refl _ _)) _⟩
/-- Rows of what is kept, one for each level. -/
structure Rows4 (w : World) (kb N : Nat) (V : Nat → Value) (ls : Nat → List Kp) : Prop where
  cell : ∀ M, M < N → w.cell? ⟨kb, M, none⟩ = some (V M)
  own : ∀ M, M < N → ∃ B, w.ownsRow B 101 4 (V M) (ls M).length ((ls M).flatMap encR)
  nil : ∀ M, M < N → (ls M).length = 0 → V M = .slice none 0 0
theorem Rows4.up {w w' : World} {kb N : Nat} {V : Nat → Value} {ls : Nat → List Kp} (h : Rows4 w kb N V ls) (hb : Below w.heap.size w w') : Rows4 w' kb N V ls :=
  ⟨fun M hM => cell_up (h.cell M hM) hb, fun M hM => by
    obtain ⟨B, g⟩ := h.own M hM
    exact ⟨B, (Kept.of_below (F := fun _ => False) hb).own g (fun _ _ h => h)⟩, h.nil⟩
theorem w_cat {a b c : Nat} (h : a + b = c) (hc : c ≤ 4096) : wrap64 ((a : Int) + (b : Int)) = (c : Int) := (IntWalk.wrap64_in _ ⟨by omega, by omega⟩).trans (by omega)
def catK (ls : Nat → List Kp) (n : Nat) : List Kp := (List.range n).flatMap ls
theorem catK_next (ls : Nat → List Kp) (n : Nat) : catK ls (n + 1) = catK ls n ++ ls n := by
  unfold catK
  rw [List.range_succ, List.flatMap_append]
  simp
theorem catK_le (ls : Nat → List Kp) {n : Nat} : ∀ {m : Nat}, n ≤ m → (catK ls n).length ≤ (catK ls m).length
  | 0, h => by
    have : n = 0 := by omega
    subst this
    exact Nat.le_refl _
  | m + 1, h => by
    by_cases e : n = m + 1
    · subst e
      exact Nat.le_refl _
    · have := catK_le ls (n := n) (m := m) (by omega)
      rw [catK_next, List.length_append]
      omega
set_option maxRecDepth 100000 in
set_option maxHeartbeats 4000000 in
theorem concat_any (kb N : Nat) (V : Nat → Value) (ls : Nat → List Kp) (w : World) (h : Rows4 w kb N V ls) (hN : N ≤ 60) (ht : (catK ls N).length ≤ 4096) :
    Calls Tryz.prog 101 #[.slice (some ⟨kb, 0, none⟩) N N] w fun e w' => ∃ (A : Option Addr) (n cap : Nat), e = .returned (.slice A n cap) ∧ w'.ownsRow w.heap.size 101 4 (.slice A n cap) n ((catK ls N).flatMap encR) ∧ n = (catK ls N).length ∧ Below w.heap.size w w' := by
  have HR := Lib.hid h
  have HT := Lib.hid ht
  obtain ⟨j0, hj_, hy0, hy1, hy2⟩ := info_parts rs_info
  have wN : ∀ n : Nat, n ≤ 4096 → wrap64 (n : Int) = (n : Int) := fun n hn => IntWalk.wrap64_in _ ⟨by omega, by omega⟩
  have WN := Lib.hid wN
  clear h ht wN
  go_enter Tryz.func101, Tryz.ntmps101
  go_wp2
  go_loopw [3, 11] (fun sv iv wr => ∃ t : Nat, t ≤ N ∧ iv = .int .i64 (t : Int) ∧ sv = .int .i64 (((catK ls t).length : Nat) : Int) ∧ w = wr) (fun _ iv _ => 100 - (intOf iv).toNat)
  case atStart => exact ⟨0, Nat.zero_le _, rfl, rfl, rfl⟩
  case round =>
    obtain ⟨t, htN, rfl, rfl, rfl⟩ := hrel
    by_cases hm : t < N
    · have lt0 : (0 : Int) ≤ (t : Int) := by omega
      have lt1 : (t : Int) < (N : Int) := by omega
      have r0 := HR.out.cell t hm
      obtain ⟨B, ho⟩ := HR.out.own t hm
      obtain ⟨-, A0, cap0, e0⟩ := own_formK ho
      rw [e0] at r0
      obtain ⟨S0, hS0⟩ : ∃ n, (catK ls t).length = n := ⟨_, rfl⟩
      obtain ⟨M0, hM0⟩ : ∃ n, (ls t).length = n := ⟨_, rfl⟩
      obtain ⟨S1, hS1⟩ : ∃ n, S0 + M0 = n := ⟨_, rfl⟩
      have hS2 : (catK ls (t + 1)).length = S1 := by rw [catK_next, List.length_append, hS0, hM0, hS1]
      have hS3 := catK_le ls (n := t + 1) (m := N) (by omega)
      rw [hS2] at hS3
      have w1 : wrap64 ((S0 : Int) + (M0 : Int)) = (S1 : Int) := w_cat hS1 (by have := HT.out; omega)
      have w2 : ¬ ((S1 : Int) < 0) := Int.not_lt.2 (Int.natCast_nonneg _)
      rw [hM0] at r0
      rw [hS0]
      have HS2 := Lib.hid hS2
      clear hS0 hM0 hS1 hS2 hS3 ho e0
      have hb60 : t < 60 := by omega
      go_wp2
      go_roundw
      case rel => exact ⟨t + 1, by omega, by go_num, by rw [HS2.out, w1], trivial⟩
      case measure => simp [intOf]; omega
    · have lt1 : ¬ (t : Int) < (N : Int) := by omega
      have et : t = N := by omega
      subst et
      obtain ⟨S0, hS0⟩ : ∃ n, (catK ls t).length = n := ⟨_, rfl⟩
      rw [hS0] at HT
      rw [hS0]
      have HS0 := Lib.hid hS0
      have HG := Lib.hid (fun w => grow_nil S0 w HT.out)
      clear hS0
      go_wp2_with (go_at_call 130; (with_reducible refine (HG.out _).mono ?_); rintro e wg ⟨AG, capG, rfl, hown, hb⟩; have HV0 := Lib.hid ((Have.nil _).push (ownK w.heap.size 101 4 (.slice AG 0 capG) 0 []) hb hown (fun k hk => own_ge hown k hk)); clear hb hown)
      go_loopw [6, 27] (fun ov iv wq => ∃ u : Nat, u ≤ t ∧ iv = .int .i64 (u : Int) ∧ Have w wq [ownK w.heap.size 101 4 ov (catK ls u).length ((catK ls u).flatMap encR)]) (fun _ iv _ => 100 - (intOf iv).toNat)
      case atStart => exact ⟨0, Nat.zero_le _, rfl, HV0.out⟩
      case round =>
        obtain ⟨u, hu, rfl, hv⟩ := hrel
        have HVr := Lib.hid hv
        have HRR := Lib.hid (HR.out.up hv.below)
        clear hv
        obtain ⟨N1, hN1⟩ : ∃ n, (catK ls u).length = n := ⟨_, rfl⟩
        rw [hN1] at HVr
        have HN1 := Lib.hid hN1
        by_cases hm : u < t
        · have lt0 : (0 : Int) ≤ (u : Int) := by omega
          have lt1 : (u : Int) < (t : Int) := by omega
          have r0 := HRR.out.cell u hm
          obtain ⟨B, ho⟩ := HRR.out.own u hm
          have hni := HRR.out.nil u hm
          obtain ⟨M0, hM0⟩ : ∃ n, (ls u).length = n := ⟨_, rfl⟩
          have hS3 := catK_le ls (n := u + 1) (m := t) (by omega)
          rw [catK_next, List.length_append, hN1, hM0] at hS3
          have HSM : Hid (N1 + M0 ≤ 4096) := Lib.hid (by have := HT.out; have := HS0.out; omega)
          rw [hM0] at ho hni
          have HM0 := Lib.hid hM0
          have HCN : Hid ((catK ls (u + 1)).length = N1 + M0) := Lib.hid (by rw [catK_next, List.length_append, HN1.out, HM0.out])
          have HCF : Hid ((catK ls (u + 1)).flatMap encR = (catK ls u).flatMap encR ++ (ls u).flatMap encR) := Lib.hid (by rw [catK_next, List.flatMap_append])
          have hu60 : u < 60 := by omega
          by_cases hz : M0 = 0
          · subst hz
            have e0 := hni rfl
            have hle : ls u = [] := List.eq_nil_of_length_eq_zero hM0
            rw [e0] at r0
            have HLE := Lib.hid hle
            clear hni ho hM0 hS3 hN1 hle e0
            go_wp2_with (at_builtin; go_must (refine appn_list rfl _ _ 45 rfl w.heap.size 101 j0 4 rss_u hj_ _ _ _ rfl (okI HVr.out.i0) rfl ?_))
            go_roundw
            case rel => exact ⟨u + 1, by omega, by go_num, by rw [HCN.out, HCF.out, HLE.out]; simpa using HVr.out⟩
            case measure => simp [intOf]; omega
          · obtain ⟨-, A0, cap0, e0⟩ := own_formK ho
            rw [e0] at ho r0
            obtain ⟨g0, rfl⟩ := own_some ho (by omega)
            have HO := Lib.hid ho
            clear hni hS3 hN1 hM0 ho e0
            go_wp2_with (at_builtin; go_must (refine wpList_append_lies _ rfl _ _ 45 rfl w.heap.size 101 j0 (.agg #[.int .i64 0, .int .u64 0, .int .i64 0, .int .i64 0]) 4 32 rss_u hj_ hy0 hy1 hy2 rfl (by decide) _ _ _ rfl (okI HVr.out.i0) ⟨g0, 0, none⟩ M0 cap0 ((ls u).flatMap encR) rfl (by rw [flat_len encR_len, HM0.out]) (HO.out.cells rfl) enc_oneR (by omega) (by have := HSM.out; unfold maxLen; omega) (by have := HSM.out; omega) (by have := HVr.out.below.size; exact this) _ rfl ?_); intro g7 cap7 w7 hown7 hgrow7 hat7 hlt7)
            have HV7 := Lib.hid (turn0K HVr.out hown7 hgrow7 hat7)
            go_roundw
            case rel => exact ⟨u + 1, by omega, by go_num, by rw [HCN.out, HCF.out]; exact HV7.out.up (by repeat' (first | (with_reducible first | exact Below.refl _ _ | assumption | refine below_over ?_ _ _ | refine Lw.below_alloc ?_ _ | refine Below.drew ?_ | refine below_drewN ?_ _ | refine Below.setCell ?_ ?_ _) | go_size))⟩
            case measure => simp [intOf]; omega
        · have lt1 : ¬ (u : Int) < (t : Int) := by omega
          have eu : u = t := by omega
          subst eu
          obtain ⟨-, AO, capO, rfl⟩ := own_formK (okI HVr.out.i0)
          clear hN1
          go_wp2
          go_ret
          exact ⟨AO, N1, capO, rfl, okI HVr.out.i0, HN1.out.symm, HVr.out.below⟩
end Go.Proofs.YtkflggojiiebeaaGreat.Hvy

namespace Go.Proofs.YtkflggojiiebeaaGreat.Hvy
open Go Go.RowKit Go.Maps Lw Grd Lin Con Shp Sk Exa Lev Stk Pcs Spn Qnt
set_option linter.unusedVariables false
set_option linter.unusedSimpArgs false
theorem heap_lt {w : World} {g : Nat} {o : Obj} (h : w.heap[g]? = some o) : g < w.heap.size := (Array.getElem?_eq_some_iff.1 h).1
def gkT (B0 kb ab N : Nat) (hv : Array Value) (ls : Nat → List Kp) (b : Bool) : Thing where
  I := GK B0 kb ab N hv ls b
  F := gkF kb ab hv
  keep := fun w w' H h hk hf => h.keep hk hf
  lt := fun w h k hk => by
    rcases hk with rfl | rfl | ⟨M, v, h1, h2⟩
    · exact heap_lt h.row
    · exact heap_lt h.flag
    · exact own_lt (h.own M v h1) h2
theorem set_heap {w : World} {g k i : Nat} {v : Value} (h : k ≠ g) : (w.setCell ⟨g, i, none⟩ v).heap[k]? = w.heap[k]? := by
  simp only [World.setCell, Array.getElem?_modify]
  rw [if_neg (fun e => h e.symm)]
theorem set_own {w : World} {g i : Nat} {u : Value} {base : Nat} {e : TypeId} {K : Nat} {v : Value} {n : Nat} {xs : List Value} (h : w.ownsRow base e K v n xs) (hg : v.ownBlock ≠ some g) : (w.setCell ⟨g, i, none⟩ u).ownsRow base e K v n xs := by
  have hk : Kept (fun q => q = g) w (w.setCell ⟨g, i, none⟩ u) := (Kept.refl (fun q => q = g) w).set (.inl rfl) i u
  exact hk.own h (fun q hq e => hg (by rw [hq, e]))
/-- Whether all fits, turned. -/
theorem GK.setFlag {B0 kb ab N : Nat} {hv : Array Value} {ls : Nat → List Kp} {b : Bool} {w : World} (h : GK B0 kb ab N hv ls b w) (b' : Bool) : GK B0 kb ab N hv ls b' (w.setCell ⟨ab, 0, none⟩ (.bool b')) := by
  refine ⟨h.size, by rw [set_heap h.far.2.2]; exact h.row, ?_, fun M v hv => set_own (h.own M v hv) (fun e => ?_), h.nil, h.apart, h.far⟩
  · have h1 := h.flag
    simp [World.setCell, Array.getElem?_modify, h1]
  · have := own_ge (h.own M v hv) _ e
    have := h.far.2.1
    omega
theorem GK.keptFlag {B0 kb ab N : Nat} {hv : Array Value} {ls : Nat → List Kp} {b : Bool} {w : World} (h : GK B0 kb ab N hv ls b w) (b' : Bool) : Kept (gkF kb ab hv) w (w.setCell ⟨ab, 0, none⟩ (.bool b')) := (Kept.refl _ w).set (.inl (.inr (.inl rfl))) 0 _
/-- One more is kept of a level. -/
def putK (ls : Nat → List Kp) (L : Nat) (x : Kp) (M : Nat) : List Kp := if M = L then ls M ++ [x] else ls M
theorem GK.app {B0 kb ab N : Nat} {hv : Array Value} {ls : Nat → List Kp} {b : Bool} {w w' : World} (h : GK B0 kb ab N hv ls b w) {L : Nat} {v : Value} (hL : hv[L]? = some v) {x : Kp} {g cap : Nat}
    (hown : w'.ownsRow B0 101 4 (.slice (some ⟨g, 0, none⟩) ((ls L).length + 1) cap) ((ls L).length + 1) ((ls L).flatMap encR ++ encR x)) (hg : w.grownBy w' v.ownBlock) (hat : v.ownBlock = some g ∨ g = w.heap.size) :
    GK B0 kb ab N (hv.set! L (.slice (some ⟨g, 0, none⟩) ((ls L).length + 1) cap)) (putK ls L x) b (w'.setCell ⟨kb, L, none⟩ (.slice (some ⟨g, 0, none⟩) ((ls L).length + 1) cap)) ∧
    Kept (gkF kb ab hv) w (w'.setCell ⟨kb, L, none⟩ (.slice (some ⟨g, 0, none⟩) ((ls L).length + 1) cap)) ∧
    (∀ k, gkF kb ab (hv.set! L (.slice (some ⟨g, 0, none⟩) ((ls L).length + 1) cap)) k → gkF kb ab hv k ∨ w.heap.size ≤ k) := by
  obtain ⟨V, hV⟩ : ∃ V, Value.slice (some ⟨g, 0, none⟩) ((ls L).length + 1) cap = V := ⟨_, rfl⟩
  have hVb : V.ownBlock = some g := by rw [← hV]; rfl
  rw [hV] at hown ⊢
  have hlt : L < hv.size := (Array.getElem?_eq_some_iff.1 hL).1
  have hgB : B0 ≤ g := own_ge hown g hVb
  have hget : ∀ (M : Nat) u, (hv.set! L V)[M]? = some u → (M = L ∧ u = V) ∨ (M ≠ L ∧ hv[M]? = some u) := by
    intro M u hu
    rw [Array.set!_eq_setIfInBounds] at hu
    by_cases e : M = L
    · subst e
      rw [Array.getElem?_setIfInBounds_self_of_lt hlt] at hu
      injection hu with hu
      exact .inl ⟨rfl, hu.symm⟩
    · rw [Array.getElem?_setIfInBounds_ne (fun h2 => e h2.symm)] at hu
      exact .inr ⟨e, hu⟩
  have hK : Kept (gkF kb ab hv) w w' := (Kept.refl _ w).grown hg (fun q hq => .inl (.inr (.inr ⟨L, v, hL, hq⟩)))
  have hnew : ∀ (M : Nat) u k, M ≠ L → hv[M]? = some u → u.ownBlock = some k → k ≠ g := by
    intro M u k hM hu hk e
    subst e
    rcases hat with h1 | h1
    · exact h.apart M L u v k hM hu hL hk h1
    · have := own_lt (h.own M u hu) hk
      omega
  have hkb : kb < w.heap.size := heap_lt h.row
  have hab : ab < w.heap.size := heap_lt h.flag
  have hvkb : v.ownBlock ≠ some kb := fun e => by
    have := own_ge (h.own L v hL) _ e
    have := h.far.1
    omega
  have hvab : v.ownBlock ≠ some ab := fun e => by
    have := own_ge (h.own L v hL) _ e
    have := h.far.2.1
    omega
  refine ⟨⟨?_, ?_, ?_, ?_, ?_, ?_, h.far⟩, hK.set (.inl (.inl rfl)) _ _, ?_⟩
  · rw [Array.set!_eq_setIfInBounds, Array.size_setIfInBounds]
    exact h.size
  · have h1 : w'.heap[kb]? = some (.cells hv 45 (0, 0)) := by rw [hg.block kb hkb (fun e => hvkb e.symm)]; exact h.row
    simp [World.setCell, Array.getElem?_modify, h1]
  · have h1 : w'.heap[ab]? = some (.cells #[.bool b] 4 (0, 0)) := by rw [hg.block ab hab (fun e => hvab e.symm)]; exact h.flag
    rw [set_heap (fun e => h.far.2.2 e.symm)]
    exact h1
  · intro M u hu
    rcases hget M u hu with ⟨rfl, rfl⟩ | ⟨hM, hu2⟩
    · have e1 : putK ls M x M = ls M ++ [x] := if_pos rfl
      rw [e1, List.length_append, flat_snoc]
      exact set_own hown (fun e => by rw [hVb] at e; injection e with e; have := h.far.1; omega)
    · have e1 : putK ls L x M = ls M := if_neg hM
      rw [e1]
      have h2 := h.own M u hu2
      have h3 : w'.ownsRow B0 101 4 u (ls M).length ((ls M).flatMap encR) := (Kept.refl (fun q => v.ownBlock = some q) w |>.grown hg (fun q hq => .inl hq)).own h2 (fun q hq e => h.apart M L u v q hM hu2 hL hq e)
      exact set_own h3 (fun e => by have := own_ge h2 _ e; have := h.far.1; omega)
  · intro M u hu h0
    rcases hget M u hu with ⟨rfl, rfl⟩ | ⟨hM, hu2⟩
    · have e1 : putK ls M x M = ls M ++ [x] := if_pos rfl
      rw [e1, List.length_append] at h0
      simp at h0
    · have e1 : putK ls L x M = ls M := if_neg hM
      rw [e1] at h0
      exact h.nil M u hu2 h0
  · intro M M' u u' k hne hu hu' hk
    rcases hget M u hu with ⟨e1, e2⟩ | ⟨hM, hu2⟩
    · rcases hget M' u' hu' with ⟨e3, e4⟩ | ⟨hM', hu2'⟩
      · omega
      · rw [e2, hVb] at hk
        injection hk with hk
        intro hk'
        exact hnew M' u' k hM' hu2' hk' hk.symm
    · rcases hget M' u' hu' with ⟨e3, e4⟩ | ⟨hM', hu2'⟩
      · rw [e4, hVb]
        intro hk'
        injection hk' with hk'
        exact hnew M u k hM hu2 hk hk'.symm
      · exact h.apart M M' u u' k hne hu2 hu2' hk
  · intro k hk
    rcases hk with rfl | rfl | ⟨M, u, h1, h2⟩
    · exact .inl (.inl rfl)
    · exact .inl (.inr (.inl rfl))
    · rcases hget M u h1 with ⟨e1, e2⟩ | ⟨hM, hu2⟩
      · rw [e2, hVb] at h2
        injection h2 with h2
        rcases hat with h3 | h3
        · exact .inl (.inr (.inr ⟨L, v, hL, by rw [h3, h2]⟩))
        · exact .inr (by omega)
      · exact .inl (.inr (.inr ⟨M, u, hu2, h2⟩))
theorem CTI.up {tb mb bb gb lb sb kb N BB : Nat} {D : DataW Unit} {least : Int} {fn : Value} {w w' : World} (h : CTI tb mb bb gb lb sb kb N BB D least fn w) (hb : Below w.heap.size w w') : CTI tb mb bb gb lb sb kb N BB D least fn w' := h.keep (H := fun _ => False) (Kept.of_below hb) (fun _ _ h => h)
/-- What is only read stands beside what is turned, whatever was done. -/
theorem ct_far {tb mb bb gb lb sb kb ab N BB : Nat} {D : DataW Unit} {least : Int} {fn : Value} {w0 w : World} {F0 : Nat → Prop} {hv : Array Value} (hc : CTI tb mb bb gb lb sb kb N BB D least fn w0) (h0 : ∀ k, ctF tb mb bb gb lb sb k → ¬ F0 k) (hF : ∀ k, gkF kb ab hv k → F0 k ∨ w0.heap.size ≤ k) : ∀ k, ctF tb mb bb gb lb sb k → ¬ gkF kb ab hv k := by
  intro k hk h1
  rcases hF k h1 with h2 | h2
  · exact h0 k hk h2
  · have := hc.lt k hk
    omega
theorem gk_start {B0 kb ab N : Nat} {hv : Array Value} {ls : Nat → List Kp} {b : Bool} {w : World} (h : GK B0 kb ab N hv ls b w) : Hold (gkF kb ab hv) w w [gkT B0 kb ab N hv ls b] :=
  ⟨Kept.refl _ _, fun t ht => by
    rw [List.mem_singleton] at ht
    subst ht
    exact ⟨h, fun k hk => .inl hk⟩, ⟨fun u hu => (by cases hu), trivial⟩⟩
end Go.Proofs.YtkflggojiiebeaaGreat.Hvy

