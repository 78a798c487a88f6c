/- Texts that statements lean on, put together: HvyOrd, SmrSel, SmrRTop, SmrMade5, SmrOpenA. -/
import Derived.Test.YtkflggojiiebeaaGreatQaa
import Derived.Test.YtkflggojiiebeaaGreatQab
import Derived.Test.YtkflggojiiebeaaGreatQac
import Derived.Test.YtkflggojiiebeaaGreatQad
import Derived.Test.YtkflggojiiebeaaGreatQae
import Derived.Test.YtkflggojiiebeaaGreatQaf
import Derived.Test.YtkflggojiiebeaaGreatQag
import Derived.Test.YtkflggojiiebeaaGreatQba
import Derived.Test.YtkflggojiiebeaaGreatQca
import Derived.Test.YtkflggojiiebeaaGreatQcb
import Derived.Test.YtkflggojiiebeaaGreatQcc
import Derived.Test.YtkflggojiiebeaaGreatQda
import Derived.Test.YtkflggojiiebeaaGreatQea
import Derived.Test.YtkflggojiiebeaaGreatQga
import Derived.Test.YtkflggojiiebeaaGreatQia
import Derived.Test.YtkflggojiiebeaaGreatQib
import Derived.Test.YtkflggojiiebeaaGreatQja
import Derived.Test.YtkflggojiiebeaaGreatQjb
import Derived.Test.YtkflggojiiebeaaGreatQjc
import Derived.Test.YtkflggojiiebeaaGreatQna
import Derived.Test.YtkflggojiiebeaaGreatQpa
import Derived.Test.YtkflggojiiebeaaGreatQua
import Derived.Test.YtkflggojiiebeaaGreatRows
import Derived.WalkKit
import Derived.ProofKit
import Derived.OpenShut
import Derived.DataShut
import Derived.Lib.SmallJoins
import Derived.Handy
import Derived.WalkSmall
import Derived.Deep.Draws
import Derived.WalkSpells
import Derived.Laws.AppendOwnNone
import Derived.Deep.AppendLies
import Derived.Lib.Hide
import Derived.Deep.MidRow
import Derived.Laws.BitsAllLaws
import Derived.WalkMore
import Derived.Deep.LoopGhost
import Derived.Deep.RegionHeld3
import Derived.Deep.QuietTactic
import Derived.BigQuiet
import Derived.Laws.Cover3
import Derived.Shelf.Spec.BitsCarry
import Derived.Deep.RegionWith
import Derived.Laws.OwnMore
import Derived.Deep.DeepCutAuto
import Derived.Laws.EntriesVeiled
import Derived.Deep.CutRange
import Derived.Defers
import Derived.RangeFuncNested
import Derived.RangeFuncBound
import Derived.RangeFuncCalls
import Derived.RangeFuncLeaves
import Derived.Deep.WholeRow
import Derived.Shelf.SlSortCmp.NoneTotal
import Derived.Maps.AppendAt
import Derived.Shelf.Abstract
import Derived.Shelf.RegionOpen
import Derived.OwnWalkIn
import Derived.TacticsInMore
import Derived.LoopNIn
import Derived.LoopIn
import Derived.RangeFuncBox
import Derived.Laws.ResultCell
import Derived.Laws.CopyOwn
import Derived.Laws.IdiomCopy
import Derived.Deep.OwnRows
namespace Go.Proofs.YtkflggojiiebeaaGreat.Con
end Go.Proofs.YtkflggojiiebeaaGreat.Con
namespace Go.Proofs.YtkflggojiiebeaaGreat.Exa
end Go.Proofs.YtkflggojiiebeaaGreat.Exa
namespace Go.Proofs.YtkflggojiiebeaaGreat.Fld
end Go.Proofs.YtkflggojiiebeaaGreat.Fld
namespace Go.Proofs.YtkflggojiiebeaaGreat.Grd
end Go.Proofs.YtkflggojiiebeaaGreat.Grd
namespace Go.Proofs.YtkflggojiiebeaaGreat.Hsh
end Go.Proofs.YtkflggojiiebeaaGreat.Hsh
namespace Go.Proofs.YtkflggojiiebeaaGreat.Hvy
end Go.Proofs.YtkflggojiiebeaaGreat.Hvy
namespace Go.Proofs.YtkflggojiiebeaaGreat.Inn
end Go.Proofs.YtkflggojiiebeaaGreat.Inn
namespace Go.Proofs.YtkflggojiiebeaaGreat.Lev
end Go.Proofs.YtkflggojiiebeaaGreat.Lev
namespace Go.Proofs.YtkflggojiiebeaaGreat.Lin
end Go.Proofs.YtkflggojiiebeaaGreat.Lin
namespace Go.Proofs.YtkflggojiiebeaaGreat.Lw
end Go.Proofs.YtkflggojiiebeaaGreat.Lw
namespace Go.Proofs.YtkflggojiiebeaaGreat.Ord
end Go.Proofs.YtkflggojiiebeaaGreat.Ord
namespace Go.Proofs.YtkflggojiiebeaaGreat.Pcs
end Go.Proofs.YtkflggojiiebeaaGreat.Pcs
namespace Go.Proofs.YtkflggojiiebeaaGreat.Qnt
end Go.Proofs.YtkflggojiiebeaaGreat.Qnt
namespace Go.Proofs.YtkflggojiiebeaaGreat.Sed
end Go.Proofs.YtkflggojiiebeaaGreat.Sed
namespace Go.Proofs.YtkflggojiiebeaaGreat.Shp
end Go.Proofs.YtkflggojiiebeaaGreat.Shp
namespace Go.Proofs.YtkflggojiiebeaaGreat.Sk
end Go.Proofs.YtkflggojiiebeaaGreat.Sk
namespace Go.Proofs.YtkflggojiiebeaaGreat.Smr
end Go.Proofs.YtkflggojiiebeaaGreat.Smr
namespace Go.Proofs.YtkflggojiiebeaaGreat.Spn
end Go.Proofs.YtkflggojiiebeaaGreat.Spn
namespace Go.Proofs.YtkflggojiiebeaaGreat.Stk
end Go.Proofs.YtkflggojiiebeaaGreat.Stk
namespace Go.Proofs.YtkflggojiiebeaaGreat.Wid
end Go.Proofs.YtkflggojiiebeaaGreat.Wid
namespace Go.Proofs.YtkflggojiiebeaaGreat.Hvy
open Go Go.RowKit Lw Grd Lin Con Shp Sk Exa Lev Stk Pcs Spn Qnt
set_option linter.unusedVariables false
theorem ahead_at {l : List ((Nat × Nat) × Int)} (h : l.Pairwise Ahead) {i j : Nat} {x y : (Nat × Nat) × Int} (hi : l[i]? = some x) (hj : l[j]? = some y) (hij : i < j) : Ahead x y := by
  obtain ⟨h1, rfl⟩ := List.getElem?_eq_some_iff.1 hi
  obtain ⟨h2, rfl⟩ := List.getElem?_eq_some_iff.1 hj
  exact List.pairwise_iff_getElem.1 h i j h1 h2 hij
end Go.Proofs.YtkflggojiiebeaaGreat.Hvy

namespace Go.Proofs.YtkflggojiiebeaaGreat.Smr
open Go Go.RowKit Lw Grd Lin Con Shp Sk Exa Lev Stk Pcs Spn Qnt Hvy
set_option linter.unusedVariables false
set_option linter.unusedSimpArgs false
def keyQ2 (q : (Nat × Nat) × Int) : Nat × Int := (q.1.2, q.2)
def canB (T : List (Nat × Int)) (q : (Nat × Nat) × Int) : Bool := decide (q.1.1 = 0 ∧ keyQ2 q ∉ T)
def usedB (T : List (Nat × Int)) (q : (Nat × Nat) × Int) : Bool := decide (q.1.1 = 0 ∧ keyQ2 q ∈ T)
theorem can_of {T : List (Nat × Int)} {q : (Nat × Nat) × Int} (h : q.1.1 = 0) : canB T q = !usedB T q := by
  unfold canB usedB
  by_cases h2 : keyQ2 q ∈ T <;> simp [h, h2]
theorem can_no {T : List (Nat × Int)} {q : (Nat × Nat) × Int} (h : q.1.1 ≠ 0) : canB T q = false := by
  unfold canB
  simp [h]
/-- The best one of the first i: its place, or -1. -/
def Best (L : List ((Nat × Nat) × Int)) (T : List (Nat × Int)) (i : Nat) (b : Int) : Prop :=
  (b = -1 ∧ ∀ q ∈ L.take i, canB T q = false) ∨
  ∃ (p : Nat) (q : (Nat × Nat) × Int), b = (p : Int) ∧ p < i ∧ L[p]? = some q ∧ canB T q = true ∧ ∀ (j : Nat) (y : (Nat × Nat) × Int), j < i → L[j]? = some y → canB T y = true → y.2 < q.2 ∨ (y.2 = q.2 ∧ p ≤ j)
theorem best_start (L : List ((Nat × Nat) × Int)) (T : List (Nat × Int)) : Best L T 0 (-1) := .inl ⟨rfl, fun q hq => by simp at hq⟩
theorem best_skip {L : List ((Nat × Nat) × Int)} {T : List (Nat × Int)} {i : Nat} {b : Int} (h : Best L T i b) {q : (Nat × Nat) × Int} (hq : L[i]? = some q) (hc : canB T q = false) : Best L T (i + 1) b := by
  rcases h with ⟨rfl, h⟩ | ⟨p, x, rfl, hp, hx, hcx, h⟩
  · exact .inl ⟨rfl, all_next (p := fun q => canB T q = false) hq h hc⟩
  · refine .inr ⟨p, x, rfl, by omega, hx, hcx, fun j y hj hy hcy => ?_⟩
    by_cases e : j = i
    · subst e
      rw [hq] at hy
      cases hy
      rw [hc] at hcy
      cases hcy
    · exact h j y (by omega) hy hcy
theorem best_first {L : List ((Nat × Nat) × Int)} {T : List (Nat × Int)} {i : Nat} (h : Best L T i (-1)) {q : (Nat × Nat) × Int} (hq : L[i]? = some q) (hc : canB T q = true) : Best L T (i + 1) (i : Int) := by
  rcases h with ⟨-, h⟩ | ⟨p, x, e, -⟩
  · refine .inr ⟨i, q, rfl, by omega, hq, hc, fun j y hj hy hcy => ?_⟩
    by_cases e : j = i
    · subst e
      rw [hq] at hy
      cases hy
      exact .inr ⟨rfl, Nat.le_refl _⟩
    · have h1 := h y (List.mem_of_getElem? (l := L.take i) (i := j) (by rw [List.getElem?_take, if_pos (by omega)]; exact hy))
      rw [h1] at hcy
      cases hcy
  · omega
theorem best_new {L : List ((Nat × Nat) × Int)} {T : List (Nat × Int)} {i p : Nat} (h : Best L T i (p : Int)) {q x : (Nat × Nat) × Int} (hq : L[i]? = some q) (hc : canB T q = true) (hx : L[p]? = some x) (hlt : x.2 < q.2) : Best L T (i + 1) (i : Int) := by
  rcases h with ⟨e, -⟩ | ⟨p2, x2, e, hp, hx2, hcx, h⟩
  · omega
  · obtain rfl : p = p2 := by omega
    rw [hx] at hx2
    cases hx2
    refine .inr ⟨i, q, rfl, by omega, hq, hc, fun j y hj hy hcy => ?_⟩
    by_cases e : j = i
    · subst e
      rw [hq] at hy
      cases hy
      exact .inr ⟨rfl, Nat.le_refl _⟩
    · rcases h j y (by omega) hy hcy with h1 | ⟨h1, -⟩
      · exact .inl (by omega)
      · exact .inl (by omega)
theorem best_keep {L : List ((Nat × Nat) × Int)} {T : List (Nat × Int)} {i p : Nat} (h : Best L T i (p : Int)) {q x : (Nat × Nat) × Int} (hq : L[i]? = some q) (hx : L[p]? = some x) (hle : q.2 ≤ x.2) : Best L T (i + 1) (p : Int) := by
  rcases h with ⟨e, -⟩ | ⟨p2, x2, e, hp, hx2, hcx, h⟩
  · omega
  · obtain rfl : p = p2 := by omega
    rw [hx] at hx2
    cases hx2
    refine .inr ⟨p, x, rfl, by omega, hx, hcx, fun j y hj hy hcy => ?_⟩
    by_cases e : j = i
    · subst e
      rw [hq] at hy
      cases hy
      by_cases e2 : q.2 = x.2
      · exact .inr ⟨e2, by omega⟩
      · exact .inl (by omega)
    · exact h j y (by omega) hy hcy
theorem best_at {L : List ((Nat × Nat) × Int)} {T : List (Nat × Int)} {i : Nat} {b : Int} (h : Best L T i b) (hb : b ≠ -1) : ∃ (p : Nat) (q : (Nat × Nat) × Int), b = (p : Int) ∧ p < i ∧ L[p]? = some q := by
  rcases h with ⟨e, -⟩ | ⟨p, q, e, hp, hq, -⟩
  · exact absurd e hb
  · exact ⟨p, q, e, hp, hq⟩
theorem key_in {L : List ((Nat × Nat) × Int)} {j : Nat} {y : (Nat × Nat) × Int} (hy : L[j]? = some y) (h0 : y.1.1 = 0) : keyQ2 y ∈ sortK L := by
  rw [mem_sortK]
  have h1 := List.mem_of_getElem? hy
  obtain ⟨⟨a, b⟩, v⟩ := y
  have h2 : a = 0 := h0
  subst h2
  exact h1
/-- None is left: all are told. -/
theorem best_none {L : List ((Nat × Nat) × Int)} (hT : Told L) {k : Nat} (h : ∀ q ∈ L, canB ((sortK L).take k) q = false) : (sortK L).length ≤ k := by
  rcases Nat.lt_or_ge k (sortK L).length with hk | hk
  · exfalso
    have ek : (sortK L)[k]? = some (sortK L)[k] := List.getElem?_eq_getElem hk
    have hm := mem_sortK.1 (List.mem_of_getElem? ek)
    have h1 := h _ hm
    have hn : (sortK L)[k] ∈ (sortK L).take k := by
      unfold canB at h1
      have h2 := of_decide_eq_false h1
      exact Classical.byContradiction fun hh => h2 ⟨rfl, hh⟩
    obtain ⟨i, hi⟩ := List.getElem?_of_mem hn
    have hik := (List.getElem?_eq_some_iff.1 hi).1
    rw [List.length_take] at hik
    rw [List.getElem?_take, if_pos (by omega)] at hi
    have h3 := List.pairwise_iff_getElem.1 (sortK_lt hT.row) i k (by omega) hk (by omega)
    have e3 : (sortK L)[i]'(by omega) = (sortK L)[k] := (List.getElem?_eq_some_iff.1 hi).2
    rw [e3, ltK_iff] at h3
    omega
  · exact hk
/-- The best one is the next one. -/
theorem best_next {L : List ((Nat × Nat) × Int)} (hT : Told L) {k p : Nat} {q : (Nat × Nat) × Int} (h : Best L ((sortK L).take k) L.length (p : Int)) (hq : L[p]? = some q) : q.1.1 = 0 ∧ (sortK L)[k]? = some (keyQ2 q) := by
  rcases h with ⟨e, -⟩ | ⟨p2, x, e, hp, hx, hcx, h⟩
  · omega
  · obtain rfl : p = p2 := by omega
    rw [hq] at hx
    cases hx
    obtain ⟨h0, hnt⟩ : q.1.1 = 0 ∧ keyQ2 q ∉ (sortK L).take k := of_decide_eq_true hcx
    refine ⟨h0, next_best hT.row (key_in hq h0) hnt (fun y hy hny => ?_)⟩
    have hm := mem_sortK.1 hy
    obtain ⟨j, hj⟩ := List.getElem?_of_mem hm
    have hjl := (List.getElem?_eq_some_iff.1 hj).1
    have h1 := h j _ hjl hj (decide_eq_true ⟨rfl, hny⟩)
    rw [ltK_no]
    rcases h1 with h1 | ⟨h1, h2⟩
    · show ¬ (q.2 < y.2 ∨ (y.2 = q.2 ∧ y.1 < q.1.2))
      have : y.2 < q.2 := h1
      omega
    · have e2 : y.2 = q.2 := h1
      rcases Nat.lt_or_ge p j with h3 | h3
      · have h4 := ahead_at hT.ord hq hj h3
        unfold Ahead at h4
        show ¬ (q.2 < y.2 ∨ (y.2 = q.2 ∧ y.1 < q.1.2))
        simp only at h4
        omega
      · obtain rfl : j = p := by omega
        rw [hq] at hj
        have e5 := Option.some.inj hj
        show ¬ (q.2 < y.2 ∨ (y.2 = q.2 ∧ y.1 < q.1.2))
        rw [e5]
        simp
/-- What was used, with one more. -/
theorem used_next {L : List ((Nat × Nat) × Int)} (hT : Told L) {T : List (Nat × Int)} {p : Nat} {q : (Nat × Nat) × Int} (hq : L[p]? = some q) (h0 : q.1.1 = 0) : L.map (fun x => Value.bool (usedB (T ++ [keyQ2 q]) x)) = (L.map (fun x => Value.bool (usedB T x))).set p (.bool true) := by
  apply List.ext_getElem?
  intro i
  rw [List.getElem?_set]
  by_cases e : p = i
  · subst e
    have hp := (List.getElem?_eq_some_iff.1 hq).1
    rw [if_pos rfl, List.length_map, if_pos hp, List.getElem?_map, hq]
    have : usedB (T ++ [keyQ2 q]) q = true := decide_eq_true ⟨h0, by simp⟩
    simp [this]
  · rw [if_neg e, List.getElem?_map, List.getElem?_map]
    cases hy : L[i]? with
    | none => rfl
    | some y =>
      have hne : y.1 ≠ q.1 := by
        have hp := (List.getElem?_eq_some_iff.1 hq)
        have hi := (List.getElem?_eq_some_iff.1 hy)
        obtain ⟨hpl, ep⟩ := hp
        obtain ⟨hil, ei⟩ := hi
        rcases Nat.lt_or_gt_of_ne e with h1 | h1
        · have := List.pairwise_iff_getElem.1 hT.row p i hpl hil h1
          rw [ep, ei] at this
          exact fun h => this h.symm
        · have := List.pairwise_iff_getElem.1 hT.row i p hil hpl h1
          rw [ep, ei] at this
          exact this
      have e2 : usedB (T ++ [keyQ2 q]) y = usedB T y := by
        unfold usedB
        by_cases hy0 : y.1.1 = 0
        · have hk : keyQ2 y ≠ keyQ2 q := by
            intro hk
            refine hne (Prod.ext (hy0.trans h0.symm) ?_)
            exact (Prod.mk.inj hk).1
          simp [hy0, hk]
        · simp [hy0]
      show some (Value.bool _) = some (Value.bool _)
      rw [e2]
end Go.Proofs.YtkflggojiiebeaaGreat.Smr

namespace Go.Proofs.YtkflggojiiebeaaGreat.Smr
open Go Go.RowKit Lw Grd Lin Con Shp Sk Exa Lev Stk Pcs Spn Qnt Hvy
set_option linter.unusedVariables false
set_option linter.unusedSimpArgs false
theorem fdr_info : (Tryz.prog.info? 84).map (fun i => (i.zero, i.size, i.bytes)) = some (some (.agg #[.int .i64 0, .int .u64 0, .int .i64 0]), 3, 24) := by kernel_rfl
theorem fdrs_u : Tryz.prog.underlying 42 = some (.slice 84) := by kernel_rfl
theorem bls_u : Tryz.prog.underlying 162 = some (.slice 4) := by kernel_rfl
theorem one_k (a b : Int) : ∀ u ∈ ([.int .i64 0, .int .u64 a, .int .i64 b] : List Value), u.oneCell' = true := by
  intro u hu
  simp at hu
  rcases hu with rfl | rfl | rfl <;> rfl
theorem made_none (L : List ((Nat × Nat) × Int)) : madeCells #[.bool false] L.length = (L.map (fun x => Value.bool (usedB [] x))).toArray := by
  apply Array.ext
  · simp [madeCells]
  · intro i h1 h2
    simp [madeCells, usedB, Nat.mod_one]
set_option maxRecDepth 100000 in
set_option maxHeartbeats 8000000 in
theorem rtop (r : Addr) (G : Nat → Prop) (c : Cfg) (sts : List LS) (n least bud : Int) (w : World) (h : DK w r G c sts) (hin : ∀ n i : Int, -9223372036854775808 ≤ spV c sts n i ∧ spV c sts n i ≤ 9223372036854775807) (n0 : -9223372036854775808 ≤ n) (n1 : n ≤ 9223372036854775807) (l0 : -9223372036854775808 ≤ least) (l1 : least ≤ 9223372036854775807) (u0 : -9223372036854775808 ≤ bud) (u1 : bud ≤ 9223372036854775807) :
    Calls Tryz.prog 35 #[.pointer (some r), .int .i64 n, .int .i64 least, .int .i64 bud] w fun e w' => ∃ (A : Option Addr) (m cap : Nat), e = .returned (.tuple #[.slice A m cap, .int .i64 (hvC c (fun L i => spV c sts (L : Int) i) least bud)]) ∧ (stRowT 3 encK A m cap (tpL c (fun L i => spV c sts (L : Int) i) n least bud)).I w' ∧ (∀ q, (stRowT 3 encK A m cap (tpL c (fun L i => spV c sts (L : Int) i) n least bud)).F q → w.heap.size ≤ q) ∧ Below w.heap.size w w' := by
  have CH := Lib.hid (rheavy_any r G c sts least bud w h hin l0 l1 u0 u1)
  have HNO := Lib.hid (fun hh => tp_no (c := c) (pt := (fun L i => spV c sts (L : Int) i)) (n := n) (least := least) (bud := bud) hh)
  have HTP : Hid (tpL c (fun L i => spV c sts (L : Int) i) n least bud = (sortK (hvL c (fun L i => spV c sts (L : Int) i) least bud)).take n.toNat) := Lib.hid rfl
  have HLB := Lib.hid (hvL_le c (fun L i => spV c sts (L : Int) i) least bud)
  have HTD := Lib.hid (told_hv c (fun L i => spV c sts (L : Int) i) least bud)
  obtain ⟨E, hE⟩ : ∃ v, hvC c (fun L i => spV c sts (L : Int) i) least bud = v := ⟨_, rfl⟩
  obtain ⟨L, hL⟩ : ∃ v, hvL c (fun L i => spV c sts (L : Int) i) least bud = v := ⟨_, rfl⟩
  obtain ⟨TL, hTL⟩ : ∃ v, tpL c (fun L i => spV c sts (L : Int) i) n least bud = v := ⟨_, rfl⟩
  rw [hE, hL] at CH
  rw [hE] at HNO ⊢
  rw [hTL] at HNO HTP ⊢
  rw [hL] at HTP HLB HTD
  have HN := Lib.hid (And.intro n0 n1)
  clear hE hL hTL h hin n0 n1 l0 l1 u0 u1
  by_cases hE0 : E = 0
  · subst hE0
    clear HNO
    obtain ⟨i0, hi_, hz0, hz1, hz2⟩ := info_parts fdr_info
    have hmk : ∀ (nl : Nat) (w : World), nl ≤ 5000 → (Instr.makeSlice 162 (.int .i64 (nl : Int)) (.int .i64 (nl : Int))).run Tryz.prog w = .ok (.slice (some ⟨w.heap.size, 0, none⟩) nl nl) (w.alloc (.cells (madeCells #[.bool false] nl) 4)) := fun nl w h =>
      run_make_row' 162 4 (.bool false) 1 bls_u (by kernel_rfl) rfl .i64 .i64 nl (by omega) (by omega) w
    go_enter Tryz.func35, Tryz.ntmps35
    go_upto_region 4 with (go_at_call 18; (with_reducible refine (CH.out).mono ?_); rintro e w1 ⟨A, nl, capl, rfl, h1, h2, hb⟩; have HV1 := Lib.hid ((Have.nil w).push (stRowT 3 encF A nl capl L) hb h1 h2); have HL := Lib.hid (strI h1).len; clear h1 h2 hb)
    have hnl : nl ≤ 4096 := by have := HLB.out; rw [HL.out] at this; exact this
    have HNL := Lib.hid hnl
    have hmn := fun w => hmk nl w (by omega)
    have hmc : madeCells #[.bool false] nl = (L.map (fun x => Value.bool (usedB [] x))).toArray := by rw [← HL.out]; exact made_none L
    rw [hmc] at hmn
    have HV2 : Hid (Have w (w1.alloc (.cells #[] 84)) [ownK w.heap.size 84 3 (.slice (some ⟨w1.heap.size, 0, none⟩) 0 0) 0 [], stRowT 3 encF A nl capl L]) := Lib.hid (HV1.out.push (ownK w.heap.size 84 3 (.slice (some ⟨w1.heap.size, 0, none⟩) 0 0) 0 []) (Lw.below_alloc (Below.refl _ _) _) (own_empty w1 84 3 w.heap.size HV1.out.below.size) (fun k hk => by have : some w1.heap.size = some k := hk; injection this with this; omega))
    obtain ⟨ub, hub⟩ : ∃ ub, w1.heap.size + 1 = ub := ⟨_, rfl⟩
    have HV3 : Hid (Have w ((w1.alloc (.cells #[] 84)).alloc (.cells (L.map (fun x => Value.bool (usedB [] x))).toArray 4)) [ownK w.heap.size 84 3 (.slice (some ⟨w1.heap.size, 0, none⟩) 0 0) 0 (((sortK L).take 0).flatMap encK), boxT ub 4 (L.map (fun x => Value.bool (usedB ((sortK L).take 0) x))).toArray, stRowT 3 encF A nl capl L]) := Lib.hid (by
      have h9 := HV2.out.push (boxT (w1.alloc (.cells #[] 84)).heap.size 4 (L.map (fun x => Value.bool (usedB [] x))).toArray) (Lw.below_alloc (Below.refl _ _) _) (heap_alloc_new _ _) (fun k hk => Nat.le_of_eq hk.symm)
      have e9 : (w1.alloc (.cells #[] 84)).heap.size = ub := by rw [← hub]; simp
      rw [e9] at h9
      rw [List.take_zero]
      exact Have.perm (List.Perm.swap _ _ _) h9)
    clear hmk hmc hnl
    have hsz9 : (w1.alloc (.cells #[] 84)).heap.size = ub := by rw [← hub]; simp
    go_upto_region 6 with fail
    all_goals (try rw [hub])
    go_loopw [12] (fun av wr => ∃ (k : Nat), k ≤ n.toNat ∧ k ≤ (sortK L).length ∧ Have w wr [ownK w.heap.size 84 3 av k (((sortK L).take k).flatMap encK), boxT ub 4 (L.map (fun x => Value.bool (usedB ((sortK L).take k) x))).toArray, stRowT 3 encF A nl capl L]) (fun av _ => 5000 - (match av with | .slice _ m _ => m | _ => 0))
    case atStart => exact ⟨0, Nat.zero_le _, Nat.zero_le _, HV3.out⟩
    case round =>
      obtain ⟨k, hk1, hk2, hv⟩ := hrel
      have HVr := Lib.hid hv
      have hk9 : k ≤ 4096 := by have h5 := keysK_len L; rw [sortK_len] at hk2; have := HNL.out; rw [HL.out] at h5; omega
      have HK := Lib.hid (And.intro hk1 hk2)
      clear hv hk2
      obtain ⟨-, AO, capO, rfl⟩ := own_formK (okI HVr.out.i0)
      by_cases hlt : (k : Int) < n
      · have hk3 : k + 1 ≤ n.toNat := by omega
        obtain ⟨wo, rfl⟩ : ∃ wo, wo = wr := ⟨_, rfl⟩
        go_wp2
        go_loopw [14, 15] (fun bv iv wi => ∃ (i d : Nat) (b : Int), i ≤ nl ∧ iv = .int .i64 (i : Int) ∧ bv = .int .i64 b ∧ Best L ((sortK L).take k) i b ∧ wi = wo.drewN d) (fun _ iv _ => nl - (intOf iv).toNat)
        case atStart => exact ⟨0, 0, -1, Nat.zero_le _, rfl, rfl, best_start _ _, rfl⟩
        case round =>
          obtain ⟨i, d, b, hi, rfl, rfl, hbst, rfl⟩ := hrel
          have HBS := Lib.hid hbst
          have HVi := Lib.hid (HVr.out.up (below_drewN (Below.refl _ _) d))
          clear hbst
          by_cases hli : i < nl
          · have hnl4 := HNL.out
            have li0 : (0 : Int) ≤ (i : Int) := by omega
            have li1 : (i : Int) < (nl : Int) := by omega
            obtain ⟨q, hq⟩ : ∃ q, L[i]? = some q := ⟨_, List.getElem?_eq_getElem (by rw [HL.out]; exact hli)⟩
            have HQ := Lib.hid hq
            have ru : wo.cell? ⟨ub, i, none⟩ = some (.bool (usedB ((sortK L).take k) q)) := box_cell HVr.out.i1 (by rw [List.getElem?_toArray, List.getElem?_map, hq]; rfl)
            obtain ⟨aa, g, o, rfl, hadd, hat⟩ := (strI HVr.out.i2).at hq (v0 := .int .i64 (q.1.1 : Int)) rfl
            have r0 := hat 0 (.int .i64 (q.1.1 : Int)) rfl
            have r2 := hat 2 (.int .i64 q.2) rfl
            rw [Nat.add_zero] at r0
            obtain ⟨LV, hLV⟩ : ∃ v : Int, (q.1.1 : Int) = v := ⟨_, rfl⟩
            obtain ⟨VV, hVV⟩ : ∃ v : Int, q.2 = v := ⟨_, rfl⟩
            obtain ⟨UU, hUU⟩ : ∃ v, usedB ((sortK L).take k) q = v := ⟨_, rfl⟩
            rw [hLV] at r0
            rw [hVV] at r2
            rw [hUU] at ru
            have HLV := Lib.hid hLV
            have HVV := Lib.hid hVV
            have HUU := Lib.hid hUU
            clear hat hq hLV hVV hUU
            by_cases hl0 : LV = 0
            · have HCA : Hid (canB ((sortK L).take k) q = !UU) := Lib.hid (by rw [← HUU.out]; exact can_of (by have := HLV.out; omega))
              subst hl0
              cases UU with
              | true =>
                go_wp2
                go_quiet (fail)
                go_wp2
                go_roundw
                case rel => exact ⟨i + 1, _, b, by omega, by go_num, rfl, best_skip HBS.out HQ.out HCA.out, rfl⟩
                case measure => simp [intOf]; omega
              | false =>
                by_cases hb : b = -1
                · subst hb
                  go_wp2
                  go_quiet (fail)
                  go_wp2
                  go_roundw
                  case rel => exact ⟨i + 1, _, (i : Int), by omega, by go_num, rfl, best_first HBS.out HQ.out HCA.out, rfl⟩
                  case measure => simp [intOf]; omega
                · obtain ⟨p, x, rfl, hp, hx⟩ := best_at HBS.out hb
                  obtain ⟨ab, g2, o2, hab, hadd2, hat2⟩ := (strI HVr.out.i2).at hx (v0 := .int .i64 (x.1.1 : Int)) rfl
                  obtain rfl : aa = ab := by injection hab
                  have s2 := hat2 2 (.int .i64 x.2) rfl
                  obtain ⟨XX, hXX⟩ : ∃ v : Int, x.2 = v := ⟨_, rfl⟩
                  rw [hXX] at s2
                  have HX := Lib.hid (And.intro hx hXX)
                  have lp0 : (0 : Int) ≤ (p : Int) := by omega
                  have lp1 : (p : Int) < (nl : Int) := by omega
                  have lp2 : ¬ (p : Int) < 0 := by omega
                  clear hat2 hab hb hx hXX
                  by_cases hgt : XX < VV
                  · have g1 : decide (XX < VV) = true := decide_eq_true hgt
                    have HGT := Lib.hid hgt
                    go_wp2
                    go_quiet (fail)
                    go_wp2
                    go_roundw
                    case rel => exact ⟨i + 1, _, (i : Int), by omega, by go_num, rfl, best_new HBS.out HQ.out HCA.out HX.out.1 (by rw [HX.out.2, HVV.out]; exact HGT.out), rfl⟩
                    case measure => simp [intOf]; omega
                  · have g1 : decide (XX < VV) = false := decide_eq_false hgt
                    have HGT := Lib.hid hgt
                    go_wp2
                    go_quiet (fail)
                    go_wp2
                    go_roundw
                    case rel => exact ⟨i + 1, _, (p : Int), by omega, by go_num, rfl, best_keep HBS.out HQ.out HX.out.1 (by rw [HX.out.2, HVV.out]; have := HGT.out; omega), rfl⟩
                    case measure => simp [intOf]; omega
            · have hl1 : ((LV : Int) == 0) = false := beq_eq_false_iff_ne.2 hl0
              have HNO9 : Hid (canB ((sortK L).take k) q = false) := Lib.hid (can_no (by have := HLV.out; omega))
              go_wp2
              go_quiet (fail)
              go_wp2
              go_roundw
              case rel => exact ⟨i + 1, _, b, by omega, by go_num, rfl, best_skip HBS.out HQ.out HNO9.out, rfl⟩
              case measure => simp [intOf]; omega
          · obtain rfl : i = nl := by omega
            have li1 : ¬ (i : Int) < (i : Int) := by omega
            by_cases hb : b = -1
            · subst hb
              have hal : (sortK L).length ≤ k := best_none HTD.out (fun q hq => by
                rcases HBS.out with ⟨-, h⟩ | ⟨p, x, e, -⟩
                · exact h q (by rw [List.take_of_length_le (by rw [HL.out]; exact Nat.le_refl _)]; exact hq)
                · omega)
              have HTE : Hid (TL = (sortK L).take k) := Lib.hid (by rw [HTP.out, List.take_of_length_le (by have := HK.out.1; omega), List.take_of_length_le hal])
              have hkl : ((sortK L).take k).length = k := by rw [List.length_take]; have := HK.out.2; omega
              obtain ⟨A2, cap2, e2, hso, hsf⟩ := st_own encK_len (okI HVi.out.i0) hkl
              injection e2 with e2a e2b e2c
              subst e2a e2c
              have HSO := Lib.hid hso
              have HSF := Lib.hid hsf
              clear hso hsf hkl hal
              go_wp2
              refine bodyPost_ret (v := .tuple #[.slice AO k capO, .int .i64 0]) (by simp [results, Tryz.results35, go_sem]) rfl ?_
              rw [HTE.out]
              exact ⟨AO, k, capO, rfl, HSO.out, HSF.out, HVi.out.below⟩
            · obtain ⟨p, q, rfl, hp, hq⟩ := best_at HBS.out hb
              have hbn := best_next HTD.out (k := k) (p := p) (q := q) (by rw [HL.out]; exact HBS.out) hq
              have lp0 : (0 : Int) ≤ (p : Int) := by omega
              have lp1 : (p : Int) < (i : Int) := by omega
              have lp2 : ¬ (p : Int) < 0 := by omega
              have HTK : Hid ((sortK L).take (k + 1) = (sortK L).take k ++ [keyQ2 q]) := Lib.hid (take_next hbn.2)
              have HKL : Hid (k + 1 ≤ (sortK L).length) := Lib.hid (List.getElem?_eq_some_iff.1 hbn.2).1
              have ru : (wo.drewN d).cell? ⟨ub, p, none⟩ = some (.bool (usedB ((sortK L).take k) q)) := box_cell HVi.out.i1 (by rw [List.getElem?_toArray, List.getElem?_map, hq]; rfl)
              have rf := Pcs.boxs_frozen HVi.out.i1 p
              have hset := Pcs.boxs_set HVi.out.i1 p (.bool true)
              rw [List.setIfInBounds_toArray, ← used_next HTD.out hq hbn.1, ← HTK.out] at hset
              have HVs := Lib.hid (HVi.out.turn_1 (boxT ub 4 (L.map (fun x => Value.bool (usedB ((sortK L).take (k + 1)) x))).toArray) hset (Kept.set (F := fun k => k = ub) (Kept.refl _ _) (.inl rfl) p _) (fun k hk => .inl hk))
              obtain ⟨aa, g, o, rfl, hadd, hat⟩ := (strI HVs.out.i2).at hq (v0 := .int .i64 (q.1.1 : Int)) rfl
              have r0 := hat 0 (.int .i64 (q.1.1 : Int)) rfl
              have r1 := hat 1 (.int .u64 (q.1.2 : Int)) rfl
              have r2 := hat 2 (.int .i64 q.2) rfl
              rw [Nat.add_zero, hbn.1] at r0
              have e00 : ((0 : Nat) : Int) = 0 := rfl
              rw [e00] at r0
              have HFL : Hid (((sortK L).take (k + 1)).flatMap encK = ((sortK L).take k).flatMap encK ++ [.int .i64 0, .int .u64 (q.1.2 : Int), .int .i64 q.2]) := Lib.hid (by rw [HTK.out]; exact flat_snoc encK _ _)
              obtain ⟨IX, hIX⟩ : ∃ v : Int, (q.1.2 : Int) = v := ⟨_, rfl⟩
              obtain ⟨VV, hVV⟩ : ∃ v : Int, q.2 = v := ⟨_, rfl⟩
              obtain ⟨UU, hUU⟩ : ∃ v, usedB ((sortK L).take k) q = v := ⟨_, rfl⟩
              rw [hIX, hVV] at HFL
              rw [hIX] at r1
              rw [hVV] at r2
              rw [hUU] at ru
              obtain ⟨ws, hws⟩ : ∃ ws, (wo.drewN d).setCell ⟨ub, p, none⟩ (.bool true) = ws := ⟨_, rfl⟩
              clear hat hq hIX hVV hUU hset hbn e00 hb
              go_upto_region 16 with fail
              rw [hws] at HVs r0 r1 r2
              clear hws
              go_wp2_with (at_builtin; go_must (refine wpList_append_lies _ rfl _ _ 42 rfl w.heap.size 84 i0 (.agg #[.int .i64 0, .int .u64 0, .int .i64 0]) 3 24 fdrs_u hi_ hz0 hz1 hz2 rfl (by decide) _ _ _ rfl ((okI HVs.out.i0).alloc _) ⟨_, 0, none⟩ 1 1 [.int .i64 0, .int .u64 IX, .int .i64 VV] rfl rfl (World.news_of_block (heap_alloc_new ws _)) (one_k _ _) (by decide) (by unfold maxLen; omega) (by omega) (by simp; have := HVs.out.below.size; omega) _ rfl ?_); intro g7 cap7 w7 hown7 hgrow7 hat7 hlt7)
              have HVa := Lib.hid (HVs.out.up (Lw.below_alloc (Below.refl _ ws) (.cells #[.int .i64 0, .int .u64 IX, .int .i64 VV] 84)))
              have HV7 := Lib.hid (turn0K HVa.out hown7 hgrow7 hat7)
              go_roundw
              case rel => exact ⟨k + 1, hk3, HKL.out, by rw [HFL.out]; exact HV7.out.up (by repeat' (first | (with_reducible first | exact Below.refl _ _ | assumption | refine below_over ?_ _ _ | refine Lw.below_alloc ?_ _ | refine Below.drew ?_ | refine below_drewN ?_ _ | refine Below.setCell ?_ ?_ _) | go_size))⟩
              case measure => simp; omega
      · have HTE : Hid (TL = (sortK L).take k) := Lib.hid (by rw [HTP.out, show n.toNat = k by omega])
        have hkl : ((sortK L).take k).length = k := by rw [List.length_take]; have := HK.out.2; omega
        obtain ⟨A2, cap2, e2, hso, hsf⟩ := st_own encK_len (okI HVr.out.i0) hkl
        injection e2 with e2a e2b e2c
        subst e2a e2c
        have HSO := Lib.hid hso
        have HSF := Lib.hid hsf
        clear hso hsf hkl
        go_wp2
        refine bodyPost_ret (v := .tuple #[.slice AO k capO, .int .i64 0]) (by simp [results, Tryz.results35, go_sem]) rfl ?_
        rw [HTE.out]
        exact ⟨AO, k, capO, rfl, HSO.out, HSF.out, HVr.out.below⟩
  · have hE1 : ((E : Int) == 0) = false := beq_eq_false_iff_ne.2 hE0
    have hE2 : ((E : Int) != 0) = true := by simp [hE0]
    have HT := Lib.hid (HNO.out hE0)
    go_enter Tryz.func35, Tryz.ntmps35
    go_wp2_with (go_at_call 18; (with_reducible refine (CH.out).mono ?_); rintro e w1 ⟨A, m, cap, rfl, h1, h2, hb⟩; have HB1 := Lib.hid hb; clear h1 h2 hb)
    refine bodyPost_ret (v := .tuple #[.slice none 0 0, .int .i64 E]) (by simp [results, Tryz.results35, go_sem]) rfl ?_
    rw [HT.out]
    exact ⟨none, 0, 0, rfl, st_nil 3 encK _, (fun q hq => by obtain ⟨a, e, _⟩ := hq; cases e), HB1.out⟩
end Go.Proofs.YtkflggojiiebeaaGreat.Smr

namespace Go.Proofs.YtkflggojiiebeaaGreat.Smr
open Go Go.RowKit Lw Grd Lin Con Shp Sk Exa Lev Stk
set_option linter.unusedVariables false
set_option linter.unusedSimpArgs false
set_option maxRecDepth 100000 in
set_option maxHeartbeats 40000000 in
theorem made_5 (x : Cfg) (A : Option Addr) (n0 k0 : Nat) (qs : Ups) (c : Cfg) (w : World) (hx : x.Ok) (hq : UpdV w A n0 k0 qs) (hC : anyC x 5 9 = c) :
    Calls Tryz.prog 27 #[.agg #[.int .i64 x.bt, .int .i64 x.rw, .int .i64 x.wd, .int .i64 x.md, .int .u64 x.sd, .slice A n0 k0], .int .i64 5] w fun e w' => ∃ (p r : Addr) (F G : Nat → Prop) (sts : List LS), e = .returned (.tuple #[.pointer (some p), .pointer (some r)]) ∧ Have w w' [dkT r G c sts, stT p F c sts] := by
  have hr := any_right x 5 9 (by omega) (by omega) (by omega) (by omega)
  have hco := any_ok x hx 5 9 (by omega) (by omega) (by omega) (by omega)
  have CA := Lib.hid (fun w => rany_at x 5 9 c w hx (by omega) (by omega) (by omega) (by omega) hC)
  rw [hC] at hr hco
  have CNW := Lib.hid (fun w => cs_new c w hco hr)
  have CND := Lib.hid (fun w => dk_new c w hco hr)
  have HQ := Lib.hid hq
  have HL := Lib.hid hq.len
  have hnc := hq.nc
  have hcm := hq.cm
  unfold maxLen at hcm
  obtain ⟨Z, hZ⟩ : ∃ Z, stsOf c [] = Z := ⟨_, rfl⟩
  rw [hZ] at CNW CND
  have HBX : Hid (Have w (w.alloc (.cells #[.int .i64 x.bt, .int .i64 x.rw, .int .i64 x.wd, .int .i64 x.md, .int .u64 x.sd, .slice A n0 k0] 63)) [boxT w.heap.size 63 #[.int .i64 x.bt, .int .i64 x.rw, .int .i64 x.wd, .int .i64 x.md, .int .u64 x.sd, .slice A n0 k0]]) := Lib.hid (box_new w _ _)
  obtain ⟨x0, x1, x2, x3, x4, x5⟩ := box6 HBX.out.i0
  clear hr hco hq hx hC hZ
  go_enter Tryz.func27, Tryz.ntmps27
  go_wp2_with (first
    | (go_at_call 14; (with_reducible refine (CND.out _).mono ?_); rintro e w5 ⟨r, G, rfl, hsk, hfr, hb⟩; have HV5 := Lib.hid (HV4.out.push (dkT r G c Z) hb hsk hfr); clear hsk hfr hb)
    | (go_at_call 13; (with_reducible refine (CNW.out _).mono ?_); rintro e w4 ⟨p, F, rfl, hsk, hfr, hb⟩; have HV4 := Lib.hid (HV3.out.push (stT p F c Z) hb hsk hfr); clear hsk hfr hb; obtain ⟨y0, y1, y2, y3, y4⟩ := box5 HV4.out.i1)
    | (go_at_call 12; (with_reducible refine (CA.out _).mono ?_); rintro e w2 ⟨rfl, hb⟩; have HV2 := Lib.hid (HBX.out.up hb); clear x0 x1 x2 x3 x4 x5; have HV3 := Lib.hid (HV2.out.push (boxT w2.heap.size 24 #[.int .i64 c.bt, .int .i64 c.rw, .int .i64 c.wd, .int .i64 c.md, .int .u64 c.sd]) (Lw.below_alloc (Below.refl _ _) _) (heap_alloc_new w2 _) (fun k hk => Nat.le_of_eq hk.symm)); clear hb))
  obtain ⟨gc, hgc⟩ : ∃ g1, w2.heap.size = g1 := ⟨_, rfl⟩
  rw [hgc] at HV5 ⊢
  clear hgc y0 y1 y2 y3 y4 HV2 HV3 HV4
  go_loopw [10] (fun iv wr => ∃ (k : Nat) (F G : Nat → Prop) (sts : List LS), k ≤ 30 ∧ iv = .int .i64 k ∧ Have w wr [dkT r G c sts, stT p F c sts, boxT gc 24 #[.int .i64 c.bt, .int .i64 c.rw, .int .i64 c.wd, .int .i64 c.md, .int .u64 c.sd], boxT w.heap.size 63 #[.int .i64 x.bt, .int .i64 x.rw, .int .i64 x.wd, .int .i64 x.md, .int .u64 x.sd, .slice A n0 k0]]) (fun iv _ => 40 - (intOf iv).toNat)
  case atStart => exact ⟨0, F, G, Z, Nat.zero_le _, rfl, HV5.out⟩
  case round =>
    obtain ⟨k, F, G, sts, hk1, rfl, hv⟩ := hrel
    have HVr := Lib.hid hv
    clear hv
    obtain ⟨_, _, _, _, _, c0⟩ := box6 HVr.out.i3
    by_cases hlt : k < n0 ∧ k < 30
    · obtain ⟨hj1, hj2⟩ := hlt
      obtain ⟨q, hq1⟩ : ∃ q, qs[k]? = some q := ⟨_, List.getElem?_eq_getElem (by rw [HL.out]; omega)⟩
      obtain ⟨aa, g, o, rfl, hadd, d1w, d2w, kb, db⟩ := HQ.out.at hq1
      obtain ⟨qk, qd⟩ := q
      simp only at d1w d2w kb db
      have D1W := Lib.hid d1w
      have D2W := Lib.hid d2w
      have d1 := cell_up d1w HVr.out.below
      have d2 := cell_up d2w HVr.out.below
      clear hq1 d1w d2w
      go_upto_region 9 with fail
      go_region_held3 (fun w' => w'.cell? ⟨w.heap.size, 5, none⟩ = some (.slice (some aa) n0 k0) ∧ w'.cell? ⟨g, o, none⟩ = some (.int .u64 qk) ∧ w'.cell? ⟨g, o + 1, none⟩ = some (.int .i64 qd)) (first | (refine ⟨?_, ?_, ?_⟩ <;> (first | (with_reducible assumption) | (with_reducible refine cell_up c0 ?_) | (with_reducible refine cell_up d1 ?_) | (with_reducible refine cell_up d2 ?_)) <;> (repeat' (first | (with_reducible first | exact Below.refl _ _ | assumption | refine below_over ?_ _ _ | refine Lw.below_alloc ?_ _ | refine Below.drew ?_ | refine below_drewN ?_ _ | refine Below.setCell ?_ ?_ _) | go_size)))) (first | (go_at_call 15; (with_reducible refine (cs_upd p F c sts qk qd _ (stI (HVr.out.up (by repeat' (first | (with_reducible first | exact Below.refl _ _ | assumption | refine below_over ?_ _ _ | refine Lw.below_alloc ?_ _ | refine Below.drew ?_ | refine below_drewN ?_ _ | refine Below.setCell ?_ ?_ _) | go_size))).i1) kb.1 kb.2 db.1 db.2).mono ?_); rintro e w8 ⟨rfl, F8, hnp, hnk, hnf⟩; have HV8 := Lib.hid ((HVr.out.up (by repeat' (first | (with_reducible first | exact Below.refl _ _ | assumption | refine below_over ?_ _ _ | refine Lw.below_alloc ?_ _ | refine Below.drew ?_ | refine below_drewN ?_ _ | refine Below.setCell ?_ ?_ _) | go_size))).turn_1 (stT p F8 c (sures c sts qk qd)) hnp hnk hnf); clear hnp hnk hnf d1 d2 c0; have d1 := cell_up D1W.out HV8.out.below; have d2 := cell_up D2W.out HV8.out.below; obtain ⟨_, _, _, _, _, c0⟩ := box6 HV8.out.i3))
      all_goals go_upto_region 10 with fail
      all_goals go_region_held3 (fun w' => w'.cell? ⟨w.heap.size, 5, none⟩ = some (.slice (some aa) n0 k0) ∧ w'.cell? ⟨g, o, none⟩ = some (.int .u64 qk) ∧ w'.cell? ⟨g, o + 1, none⟩ = some (.int .i64 qd)) (first | (refine ⟨?_, ?_, ?_⟩ <;> (first | (with_reducible assumption) | (with_reducible refine cell_up c0 ?_) | (with_reducible refine cell_up d1 ?_) | (with_reducible refine cell_up d2 ?_)) <;> (repeat' (first | (with_reducible first | exact Below.refl _ _ | assumption | refine below_over ?_ _ _ | refine Lw.below_alloc ?_ _ | refine Below.drew ?_ | refine below_drewN ?_ _ | refine Below.setCell ?_ ?_ _) | go_size)))) (first | (go_at_call 16; (with_reducible refine (dk_upd r G c sts qk qd _ (dkI (HV8.out.up (by repeat' (first | (with_reducible first | exact Below.refl _ _ | assumption | refine below_over ?_ _ _ | refine Lw.below_alloc ?_ _ | refine Below.drew ?_ | refine below_drewN ?_ _ | refine Below.setCell ?_ ?_ _) | go_size))).i0) kb.1 kb.2 db.1 db.2).mono ?_); rintro e w9 ⟨rfl, G9, hnp, hnk, hnf⟩; have HV9 := Lib.hid ((HV8.out.up (by repeat' (first | (with_reducible first | exact Below.refl _ _ | assumption | refine below_over ?_ _ _ | refine Lw.below_alloc ?_ _ | refine Below.drew ?_ | refine below_drewN ?_ _ | refine Below.setCell ?_ ?_ _) | go_size))).turn_0 (dkT r G9 c (sures c sts qk qd)) hnp hnk hnf); clear hnp hnk hnf d1 d2 c0; have d1 := cell_up D1W.out HV9.out.below; have d2 := cell_up D2W.out HV9.out.below; obtain ⟨_, _, _, _, _, c0⟩ := box6 HV9.out.i3))
      all_goals go_wp2
      all_goals go_roundw
      all_goals first
        | exact ⟨k + 1, F8, G9, sures c sts qk qd, by omega, by go_num, HV9.out⟩
        | exact ⟨k + 1, F8, G9, sures c sts qk qd, by omega, by go_num, HV9.out.up (by repeat' (first | (with_reducible first | exact Below.refl _ _ | assumption | refine below_over ?_ _ _ | refine Lw.below_alloc ?_ _ | refine Below.drew ?_ | refine below_drewN ?_ _ | refine Below.setCell ?_ ?_ _) | go_size))⟩
        | (simp [intOf]; omega)
    · have hcases : ((k : Int) < n0 ∧ ¬ (k : Int) < 30) ∨ ¬ (k : Int) < n0 := by omega
      clear hlt
      rcases hcases with ⟨hc1, hc2⟩ | hc1
      all_goals go_wp2
      all_goals refine bodyPost_ret (v := .tuple #[.pointer (some p), .pointer (some r)]) (by simp [results, Tryz.results27, go_sem]) rfl ?_
      all_goals exact ⟨p, r, rfl, F, G, sts, HVr.out.erase2.erase2⟩
end Go.Proofs.YtkflggojiiebeaaGreat.Smr

namespace Go.Proofs.YtkflggojiiebeaaGreat.Smr
open Go Go.RowKit Lw Grd Lin Con Shp Sk Exa Lev Stk
set_option linter.unusedVariables false
set_option linter.unusedSimpArgs false
theorem open_askX_c : Tryz.prog.cellsOf 78 = 9 := by kernel_rfl
set_option maxRecDepth 100000 in
theorem open_askX {H : Type} {enc : TypeId × Value → H} {w : World} {v : Value} {d : DataW H} {p : List MemPlace} {base : Nat} (hv : Value.okWide Tryz.prog w .any base 78 v)
    (h : DataW.Trod enc Tryz.prog w 0 (fun _ => true) true 78 v d p) :
    ∃ (c : Cfg) (A : Option Addr) (n k : Nat) (qs : Ups) (N Bd Ls : Int), v = .agg #[.int .i64 c.bt, .int .i64 c.rw, .int .i64 c.wd, .int .i64 c.md, .int .u64 c.sd, .slice A n k, .int .i64 N, .int .i64 Bd, .int .i64 Ls] ∧ c.Ok ∧ UpdV w A n k qs ∧ (-9223372036854775808 ≤ N ∧ N ≤ 9223372036854775807) ∧ (-9223372036854775808 ≤ Bd ∧ Bd ≤ 9223372036854775807) ∧ (-9223372036854775808 ≤ Ls ∧ Ls ≤ 9223372036854775807) := by
  have hcs : ∃ cs : Array Value, v = .agg cs ∧ cs.size = Tryz.prog.cellsOf 78 := by
    simp only [Value.okWide, Tryz.underlying78] at hv
    obtain ⟨cs, h1, h2, _⟩ := hv
    exact ⟨cs, h1, h2⟩
  obtain ⟨⟨l⟩, rfl, hsz⟩ := hcs
  rw [open_askX_c] at hsz
  obtain ⟨fuel, hf0⟩ := h
  obtain ⟨xs, k, _, _, _, hxl, hf⟩ := DataW.trod_struct Tryz.underlying78 hf0
  match xs, hxl, l, hsz with
  | [q0, q1, q2, q3], _, [v0, v1, v2, v3, v4, v5, v6, v7, v8], _ =>
    have e0 := hf 0 _ rfl
    have e1 := hf 1 _ rfl
    have e2 := hf 2 _ rfl
    have e3 := hf 3 _ rfl
    simp [Value.cells, show Tryz.prog.cellsOf 63 = 6 from by kernel_rfl, show Tryz.prog.cellsOf 3 = 1 from by kernel_rfl, show Tryz.prog.cellsOf 2 = 1 from by kernel_rfl] at e0 e1 e2 e3
    obtain ⟨ps, kp, _, _, _, hpl, hp⟩ := DataW.trod_struct Tryz.underlying63 e0
    match ps, hpl with
    | [y0, y1], _ =>
    have g0 := hp 0 _ rfl
    have g1 := hp 1 _ rfl
    simp [show Tryz.prog.cellsOf 24 = 5 from by kernel_rfl, show Tryz.prog.cellsOf 25 = 1 from by kernel_rfl] at g0 g1
    obtain ⟨zs, k2, _, _, _, hzl, hz⟩ := DataW.trod_struct Tryz.underlying24 g0
    match zs, hzl with
    | [z0, z1, z2, z3, z4], _ =>
      have c0 := hz 0 _ rfl
      have c1 := hz 1 _ rfl
      have c2 := hz 2 _ rfl
      have c3 := hz 3 _ rfl
      have c4 := hz 4 _ rfl
      simp [show Tryz.prog.cellsOf 3 = 1 from by kernel_rfl, show Tryz.prog.cellsOf 22 = 1 from by kernel_rfl] at c0 c1 c2 c3 c4
      obtain ⟨x0, f0, _, w0⟩ := DataW.trod_int (show Tryz.prog.underlying 3 = some (.int .i64) by kernel_rfl) c0
      simp at f0
      subst f0
      obtain ⟨x1, f1, _, w1⟩ := DataW.trod_int (show Tryz.prog.underlying 3 = some (.int .i64) by kernel_rfl) c1
      simp at f1
      subst f1
      obtain ⟨x2, f2, _, w2⟩ := DataW.trod_int (show Tryz.prog.underlying 3 = some (.int .i64) by kernel_rfl) c2
      simp at f2
      subst f2
      obtain ⟨x3, f3, _, w3⟩ := DataW.trod_int (show Tryz.prog.underlying 3 = some (.int .i64) by kernel_rfl) c3
      simp at f3
      subst f3
      obtain ⟨x4, f4, _, w4⟩ := DataW.trod_int (show Tryz.prog.underlying 22 = some (.int .u64) by kernel_rfl) c4
      simp at f4
      subst f4
      obtain ⟨A, n, cp, qs, f6, h0, h1, h2, h3, h4⟩ := open_upds g1
      simp at f6
      subst f6
      have b0 := Lw.wf_i64 w0
      have b1 := Lw.wf_i64 w1
      have b2 := Lw.wf_i64 w2
      have b3 := Lw.wf_i64 w3
      have b4 := Lw.wf_u64 w4
      obtain ⟨N, f7, _, w7⟩ := DataW.trod_int (show Tryz.prog.underlying 3 = some (.int .i64) by kernel_rfl) e1
      simp at f7
      subst f7
      obtain ⟨Bd, f8, _, w8⟩ := DataW.trod_int (show Tryz.prog.underlying 3 = some (.int .i64) by kernel_rfl) e2
      simp at f8
      subst f8
      obtain ⟨Ls, f9, _, w9⟩ := DataW.trod_int (show Tryz.prog.underlying 2 = some (.int .i64) by kernel_rfl) e3
      simp at f9
      subst f9
      exact ⟨⟨x0, x1, x2, x3, x4⟩, A, n, cp, qs, N, Bd, Ls, rfl, ⟨b0.1, b0.2, b1.1, b1.2, b2.1, b2.2, b3.1, b3.2, b4.1, b4.2⟩, ⟨h0, h1, h2, h3, h4⟩, Lw.wf_i64 w7, Lw.wf_i64 w8, Lw.wf_i64 w9⟩
end Go.Proofs.YtkflggojiiebeaaGreat.Smr

