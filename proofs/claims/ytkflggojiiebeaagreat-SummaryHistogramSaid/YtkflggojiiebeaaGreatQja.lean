/- Texts that statements lean on, put together: Thing, RowPc, WidMinus, WidSum, GrdNew, PcsCov, PcsCode, PcsLawA, PcsCnt, SpnMath, QntMath, HvyOrd, QntArr, SmrDef, SmrTopM, SmrSort, SpnIn, StkGet, QntHalf. -/
import Derived.Test.YtkflggojiiebeaaGreatQaa
import Derived.Test.YtkflggojiiebeaaGreatQab
import Derived.Test.YtkflggojiiebeaaGreatQac
import Derived.Test.YtkflggojiiebeaaGreatQad
import Derived.Test.YtkflggojiiebeaaGreatQae
import Derived.Test.YtkflggojiiebeaaGreatQaf
import Derived.Test.YtkflggojiiebeaaGreatQag
import Derived.Test.YtkflggojiiebeaaGreatQda
import Derived.Test.YtkflggojiiebeaaGreatQea
import Derived.Test.YtkflggojiiebeaaGreatRows
import Derived.WalkKit
import Derived.ProofKit
import Derived.OpenShut
import Derived.DataShut
import Derived.Lib.SmallJoins
import Derived.Handy
import Derived.WalkSmall
import Derived.Deep.Draws
import Derived.WalkSpells
import Derived.Laws.AppendOwnNone
import Derived.Deep.AppendLies
import Derived.Lib.Hide
import Derived.Deep.MidRow
import Derived.Laws.BitsAllLaws
import Derived.WalkMore
import Derived.Deep.LoopGhost
import Derived.Deep.RegionHeld3
import Derived.Deep.QuietTactic
import Derived.BigQuiet
import Derived.Laws.Cover3
import Derived.Shelf.Spec.BitsCarry
import Derived.Deep.RegionWith
import Derived.Laws.OwnMore
import Derived.Deep.DeepCutAuto
import Derived.Laws.EntriesVeiled
import Derived.Deep.CutRange
import Derived.Defers
import Derived.RangeFuncNested
import Derived.RangeFuncBound
import Derived.RangeFuncCalls
import Derived.RangeFuncLeaves
import Derived.Deep.WholeRow
import Derived.Shelf.SlSortCmp.NoneTotal
import Derived.Shelf.Abstract
import Derived.Shelf.RegionOpen
import Derived.OwnWalkIn
import Derived.TacticsInMore
import Derived.LoopNIn
import Derived.LoopIn
import Derived.RangeFuncBox
namespace Go.Proofs.YtkflggojiiebeaaGreat.Con
end Go.Proofs.YtkflggojiiebeaaGreat.Con
namespace Go.Proofs.YtkflggojiiebeaaGreat.Exa
end Go.Proofs.YtkflggojiiebeaaGreat.Exa
namespace Go.Proofs.YtkflggojiiebeaaGreat.Fld
end Go.Proofs.YtkflggojiiebeaaGreat.Fld
namespace Go.Proofs.YtkflggojiiebeaaGreat.Grd
end Go.Proofs.YtkflggojiiebeaaGreat.Grd
namespace Go.Proofs.YtkflggojiiebeaaGreat.Hsh
end Go.Proofs.YtkflggojiiebeaaGreat.Hsh
namespace Go.Proofs.YtkflggojiiebeaaGreat.Hvy
end Go.Proofs.YtkflggojiiebeaaGreat.Hvy
namespace Go.Proofs.YtkflggojiiebeaaGreat.Inn
end Go.Proofs.YtkflggojiiebeaaGreat.Inn
namespace Go.Proofs.YtkflggojiiebeaaGreat.Lev
end Go.Proofs.YtkflggojiiebeaaGreat.Lev
namespace Go.Proofs.YtkflggojiiebeaaGreat.Lin
end Go.Proofs.YtkflggojiiebeaaGreat.Lin
namespace Go.Proofs.YtkflggojiiebeaaGreat.Lw
end Go.Proofs.YtkflggojiiebeaaGreat.Lw
namespace Go.Proofs.YtkflggojiiebeaaGreat.Ord
end Go.Proofs.YtkflggojiiebeaaGreat.Ord
namespace Go.Proofs.YtkflggojiiebeaaGreat.Pcs
end Go.Proofs.YtkflggojiiebeaaGreat.Pcs
namespace Go.Proofs.YtkflggojiiebeaaGreat.Qnt
end Go.Proofs.YtkflggojiiebeaaGreat.Qnt
namespace Go.Proofs.YtkflggojiiebeaaGreat.Sed
end Go.Proofs.YtkflggojiiebeaaGreat.Sed
namespace Go.Proofs.YtkflggojiiebeaaGreat.Shp
end Go.Proofs.YtkflggojiiebeaaGreat.Shp
namespace Go.Proofs.YtkflggojiiebeaaGreat.Sk
end Go.Proofs.YtkflggojiiebeaaGreat.Sk
namespace Go.Proofs.YtkflggojiiebeaaGreat.Smr
end Go.Proofs.YtkflggojiiebeaaGreat.Smr
namespace Go.Proofs.YtkflggojiiebeaaGreat.Spn
end Go.Proofs.YtkflggojiiebeaaGreat.Spn
namespace Go.Proofs.YtkflggojiiebeaaGreat.Stk
end Go.Proofs.YtkflggojiiebeaaGreat.Stk
namespace Go.Proofs.YtkflggojiiebeaaGreat.Wid
end Go.Proofs.YtkflggojiiebeaaGreat.Wid
namespace Go.Proofs.YtkflggojiiebeaaGreat.Lw
open Go Go.RowKit
set_option linter.unusedVariables false
/-- Things that a call made behind w are things behind w0, beside those that were there. -/
theorem Have.join {w0 w w' : World} {us : List Thing} (h : Have w0 w us) : ∀ {ts : List Thing}, Have w w' ts → Have w0 w' (ts ++ us)
  | [], g => h.up g
  | t :: ts, g => by
    refine ⟨g.1, fun k hk => Nat.le_trans h.below.size (g.2.1 k hk), fun u hu k hk hu2 => ?_, Have.join h (ts := ts) g.2.2.2⟩
    rcases List.mem_append.1 hu with h1 | h1
    · exact g.2.2.1 u h1 k hk hu2
    · have h2 := u.lt w (h.one u h1).1 k hu2
      have h3 := g.2.1 k hk
      omega
end Go.Proofs.YtkflggojiiebeaaGreat.Lw

namespace Go.Proofs.YtkflggojiiebeaaGreat.Pcs
open Go Go.RowKit Lw
set_option linter.unusedVariables false
theorem pc_news {w : World} {B : Nat} {U D : Int} {t : TypeId} {fr : Nat × Nat} (h : w.heap[B]? = some (.cells #[.int .i64 U, .int .u64 D] t fr)) : ∀ j u, ([.int .i64 U, .int .u64 D] : List Value)[j]? = some u → w.cell? ((⟨B, 0, none⟩ : Addr).add j) = some u :=
  World.news_of_block h
theorem pc_one (U D : Int) : ∀ u ∈ ([.int .i64 U, .int .u64 D] : List Value), u.oneCell' = true := by
  intro u hu
  simp at hu
  rcases hu with rfl | rfl <;> rfl
end Go.Proofs.YtkflggojiiebeaaGreat.Pcs

namespace Go.Proofs.YtkflggojiiebeaaGreat.Wid
open Go.RowKit
set_option linter.unusedVariables false

theorem minus_any (a b : Int) (w : World) (a0 : -9223372036854775808 ≤ a) (a1 : a ≤ 9223372036854775807) (b0 : -9223372036854775808 ≤ b) (b1 : b ≤ 9223372036854775807) :
    Calls Tryz.prog 145 #[.int .i64 a, .int .i64 b] w fun e w' => e = .returned (.tuple #[.int .i64 (f64 (a - b)), .bool (fit64 (a - b))]) ∧ Below w.heap.size w w' := by
  have H := Lib.hid (plus_vals a b a0 a1 b0 b1).2
  go_enter Tryz.func145, Tryz.ntmps145
  go_wp2_with (first
    | (go_at_call 100; refine (of_any _ _ (by omega) (by omega)).mono ?_; rintro e w' ⟨rfl, hb⟩)
    | (go_at_call 129; refine (sub_any _ _ _ _ _ (fh_bd _).1 (fh_bd _).2 (fl_bd _).1 (fl_bd _).2 (fh_bd _).1 (fh_bd _).2 (fl_bd _).1 (fl_bd _).2).mono ?_; rintro e w' ⟨rfl, hb⟩)
    | (go_at_call 116; refine (int_any _ _ _ (fh_bd _).1 (fh_bd _).2 (fl_bd _).1 (fl_bd _).2).mono ?_; rintro e w' ⟨rfl, hb⟩))
  go_ret2
  refine ⟨ret_int_bool (by rw [H.out]) (by rw [H.out]), ?_⟩
  repeat' (first | (with_reducible exact Below.refl _ _) | (with_reducible refine below_call ?_ (by with_reducible assumption) (Nat.le_refl _)) | (with_reducible refine below_alloc ?_ _) | (with_reducible refine Below.drew ?_) | (with_reducible refine Below.setCell ?_ ?_ _))
end Go.Proofs.YtkflggojiiebeaaGreat.Wid

namespace Go.Proofs.YtkflggojiiebeaaGreat.Wid
open Go.RowKit
set_option linter.unusedVariables false
theorem sum_snoc (l : List Int) (x : Int) : (l ++ [x]).sum = l.sum + x := by
  induction l with
  | nil => simp
  | cons a l ih => rw [List.cons_append, List.sum_cons, List.sum_cons, ih]; omega
theorem sum_next (zs : List Int) (k : Nat) (hk : k < zs.length) : (zs.take (k + 1)).sum = (zs.take k).sum + zs[k] := by
  rw [List.take_succ_eq_append_getElem hk, sum_snoc]
theorem sum_bd (zs : List Int) (h : In64 zs) : ∀ k : Nat, -9223372036854775808 * (k : Int) ≤ (zs.take k).sum ∧ (zs.take k).sum ≤ 9223372036854775807 * (k : Int) := by
  intro k
  induction k with
  | zero => simp
  | succ k ih =>
    by_cases hk : k < zs.length
    · have e : (zs.take (k + 1)).sum = (zs.take k).sum + zs[k] := sum_next zs k hk
      have hb := h zs[k] (List.getElem_mem hk)
      rw [e]; push_cast; omega
    · have e : zs.take (k + 1) = zs.take k := by rw [List.take_of_length_le (by omega), List.take_of_length_le (by omega)]
      rw [e]; push_cast; omega
theorem cell_on {wa w1 : World} {a : Addr} {v : Value} (hb : Below wa.heap.size wa w1) (h : wa.cell? a = some v) : w1.cell? a = some v := by
  rw [hb.cell (cell_lt h)]; exact h
theorem frozen_on {wa w1 : World} {a : Addr} {v : Value} {b : Bool} (hb : Below wa.heap.size wa w1) (hc : wa.cell? a = some v) (h : wa.frozen? a = b) : w1.frozen? a = b := by
  rw [hb.frozen (cell_lt hc)]; exact h
set_option maxHeartbeats 1000000 in
theorem sum_any (A : Option Addr) (n cap : Nat) (zs : List Int) (w : World) (hr : RdI w A zs) (hl : zs.length = n) (hn : n ≤ 1000) (hz : In64 zs) :
    Calls Tryz.prog 80 #[.slice A n cap] w fun e w' => e = .returned (.tuple #[.int .i64 (f64 zs.sum), .bool (fit64 zs.sum)]) ∧ Below w.heap.size w w' := by
  have HR := Lib.hid hr
  have HL := Lib.hid hl
  have HZ := Lib.hid hz
  clear hr hl hz
  have e00 : fh 0 = 0 := by decide
  have e01 : fl 0 = 0 := by decide
  go_enter Tryz.func80, Tryz.ntmps80
  go_wp2
  go_loopw [9] (fun i wr => ∃ k : Nat, k ≤ n ∧ i = .int .i64 k ∧ Below w.heap.size w wr ∧ wr.cell? ⟨w.heap.size, 0, none⟩ = some (.int .i64 (fh (zs.take k).sum)) ∧ wr.cell? ⟨w.heap.size, 1, none⟩ = some (.int .u64 (fl (zs.take k).sum)) ∧ wr.frozen? ⟨w.heap.size, 0, none⟩ = false ∧ wr.frozen? ⟨w.heap.size, 1, none⟩ = false) (fun i _ => n - (intOf i).toNat)
  case atStart =>
    refine ⟨0, Nat.zero_le _, rfl, by go_grown, ?_, ?_, ?_, ?_⟩
    · simp [go_sem, e00]
    · simp [go_sem, e01]
    · simp [go_sem]
    · simp [go_sem]
  case round =>
    obtain ⟨k, hk, rfl, hbel, hc0, hc1, hf0, hf1⟩ := hrel
    have hsb := sum_bd zs HZ.out k
    obtain ⟨s, hs⟩ : ∃ s, s = (zs.take k).sum := ⟨_, rfl⟩
    rw [← hs] at hc0 hc1 hsb
    have HS := Lib.hid hs
    clear hs e00 e01
    have hvs := vl_fit s (by omega) (by omega)
    by_cases hlt : k < n
    · have hk2 : k < zs.length := by have := HL.out; omega
      obtain ⟨v, hv⟩ : ∃ v, v = zs[k] := ⟨_, rfl⟩
      have hvb := HZ.out v (by rw [hv]; exact List.getElem_mem hk2)
      obtain ⟨ad, rfl, hc⟩ := HR.out k v (by rw [hv]; exact List.getElem?_eq_getElem hk2)
      have hcw : wr.cell? (ad.add k) = some (.int .i64 v) := cell_on hbel hc
      have hvv := vl_fit v (by omega) (by omega)
      have hnext : (zs.take (k + 1)).sum = s + v := by rw [HS.out, hv]; exact sum_next zs k hk2
      have hev : vl (fh s) (fl s) + vl (fh v) (fl v) = s + v := by rw [hvs, hvv]
      have HN := Lib.hid hnext
      have hz2 := cell_lt hc0
      clear hv hc hnext hvs hvv
      go_wp2_with fail
      go_region_with (first
        | (go_at_call 100; (refine (of_any _ _ (by omega) (by omega)).mono ?_); rintro e w1 ⟨rfl, hb1⟩; have h10 := cell_on hb1 hc0; have h11 := cell_on hb1 hc1; have g10 := frozen_on hb1 hc0 hf0; have g11 := frozen_on hb1 hc1 hf1)
        | (go_at_call 98; (refine (add_any _ _ _ _ _ (fh_bd _).1 (fh_bd _).2 (fl_bd _).1 (fl_bd _).2 (fh_bd _).1 (fh_bd _).2 (fl_bd _).1 (fl_bd _).2).mono ?_); rintro e w2 ⟨rfl, hb2⟩; rw [hev]; have h20 := cell_on hb2 h10; have h21 := cell_on hb2 h11; have g20 := frozen_on hb2 h10 g10; have g21 := frozen_on hb2 h11 g11))
      all_goals
        go_wp2
        go_roundw
        case rel =>
          refine ⟨k + 1, by omega, by go_num, ?_, ?_, ?_, ?_, ?_⟩
          · repeat' (first | (with_reducible exact Below.refl _ _) | (with_reducible refine below_call ?_ (by with_reducible assumption) (Nat.le_refl _)) | (with_reducible refine below_alloc ?_ _) | (with_reducible refine Below.drew ?_) | (with_reducible refine below_drewN ?_ _) | (with_reducible refine Below.setCell ?_ ?_ _) | go_size)
          · rw [HN.out]; simp [go_sem, h20]
          · rw [HN.out]; simp [go_sem, h21]
          · simp [go_sem, g20]
          · simp [go_sem, g21]
        case measure => simp [intOf]; omega
    · have e : k = n := by omega
      subst e
      have hs : s = zs.sum := by rw [HS.out, List.take_of_length_le (by have := HL.out; omega)]
      have HS2 := Lib.hid hs
      clear hs
      go_wp2_with (go_at_call 116; (refine (int_any _ _ _ (fh_bd _).1 (fh_bd _).2 (fl_bd _).1 (fl_bd _).2).mono ?_); rintro e w2 ⟨rfl, hb2⟩; rw [hvs])
      go_ret2
      refine ⟨by rw [HS2.out]; rfl, ?_⟩
      repeat' (first | (with_reducible exact Below.refl _ _) | (with_reducible refine below_call ?_ (by with_reducible assumption) (Nat.le_refl _)) | (with_reducible refine below_alloc ?_ _) | (with_reducible refine Below.drew ?_) | (with_reducible refine below_drewN ?_ _) | (with_reducible refine Below.setCell ?_ ?_ _) | go_size)
end Go.Proofs.YtkflggojiiebeaaGreat.Wid

namespace Go.Proofs.YtkflggojiiebeaaGreat.Grd
open Go Go.RowKit Lw
set_option linter.unusedVariables false
set_option maxRecDepth 100000 in
set_option maxHeartbeats 2000000 in
theorem rsame_any (A B : Option Addr) (n m ca cb : Nat) (xs ys : List Int) (w : World) (ha : Rd .i64 w A xs) (hb : Rd .i64 w B ys) (hla : xs.length = n) (hlb : ys.length = m) (hn : n ≤ 9223372036854775807) (hm : m ≤ 9223372036854775807) :
    Calls Tryz.prog 33 #[.slice A n ca, .slice B m cb] w fun e w' => e = .returned (.bool (decide (xs = ys))) ∧ Below w.heap.size w w' := by
  have HA := Lib.hid ha
  have HB := Lib.hid hb
  have HLA := Lib.hid hla
  have HLB := Lib.hid hlb
  clear ha hb
  by_cases hnm : n = m
  · subst hnm
    clear hla hlb
    go_enter Tryz.func33, Tryz.ntmps33
    go_wp2
    go_loopw [5] (fun i wr => ∃ k d : Nat, k ≤ n ∧ i = .int .i64 k ∧ xs.take k = ys.take k ∧ wr = w.drewN d) (fun i _ => n - (intOf i).toNat)
    case atStart => exact ⟨0, 0, Nat.zero_le _, rfl, rfl, rfl⟩
    case round =>
      obtain ⟨k, d, hk, rfl, heq, rfl⟩ := hrel
      have HE := Lib.hid heq
      clear heq
      by_cases hlt : k < n
      · obtain ⟨x, hx⟩ : ∃ x, xs[k]? = some x := ⟨_, List.getElem?_eq_getElem (by have := HLA.out; omega)⟩
        obtain ⟨y, hy⟩ : ∃ y, ys[k]? = some y := ⟨_, List.getElem?_eq_getElem (by have := HLB.out; omega)⟩
        obtain ⟨ad, rfl, hcx⟩ := HA.out k x hx
        obtain ⟨bd, rfl, hcy⟩ := HB.out k y hy
        by_cases hxy : x = y
        · have HN : Hid (xs.take (k + 1) = ys.take (k + 1)) := Lib.hid (by
            rw [List.take_add_one, List.take_add_one, HE.out, hx, hy, hxy])
          subst hxy
          clear hx hy
          go_wp2
          go_quiet (fail)
          go_wp2
          go_roundw
          case rel => exact ⟨k + 1, _, by omega, by go_num, HN.out, rfl⟩
          case measure => simp [intOf]; omega
        · have HD : Hid (decide (xs = ys) = false) := Lib.hid (decide_eq_false (fun e => hxy (by rw [e, hy] at hx; injection hx with hx; exact hx.symm)))
          have hne : (x == y) = false := by simpa using hxy
          have hne2 : (x != y) = true := by simpa using hxy
          clear hx hy hxy
          go_wp2
          go_quiet (fail)
          go_wp2
          go_ret
          exact ⟨ret_b HD.out.symm, by first | exact below_drewN (Below.refl _ _) _ | exact below_drewN (below_drewN (Below.refl _ _) _) _⟩
      · have e : k = n := by omega
        subst e
        have HD : Hid (decide (xs = ys) = true) := Lib.hid (decide_eq_true (by
          have := HE.out
          rwa [List.take_of_length_le (by have := HLA.out; omega), List.take_of_length_le (by have := HLB.out; omega)] at this))
        go_wp2
        go_ret
        exact ⟨ret_b HD.out.symm, by first | exact below_drewN (Below.refl _ _) _ | exact below_drewN (below_drewN (Below.refl _ _) _) _⟩
  · have hne : ((n : Int) == (m : Int)) = false := by simp; omega
    have hne2 : ((n : Int) != (m : Int)) = true := by simp; omega
    have HD : Hid (decide (xs = ys) = false) := Lib.hid (decide_eq_false (fun e => hnm (by rw [← hla, ← hlb, e])))
    clear hla hlb hnm
    go_enter Tryz.func33, Tryz.ntmps33
    go_wp2
    go_ret
    exact ⟨ret_b HD.out.symm, Below.refl _ _⟩
end Go.Proofs.YtkflggojiiebeaaGreat.Grd

namespace Go.Proofs.YtkflggojiiebeaaGreat.Pcs
open Go Go.RowKit Lw
set_option linter.unusedVariables false
set_option linter.unusedSimpArgs false
def okC (b lo hi : Int) : Bool := decide (1 ≤ b ∧ b ≤ 59 ∧ lo ≤ hi ∧ hi < p2 b.toNat)
/-- What Cover answers: a row of pieces of its own. -/
def CovR (w w' : World) (e : Ending) (b lo hi : Int) : Prop :=
  ∃ (A : Option Addr) (n cap : Nat) (l : List (Nat × Nat)), e = .returned (.tuple #[.slice A n cap, .bool (okC b lo hi)]) ∧ (pcT A n cap (ints l)).I w' ∧ (∀ k, (pcT A n cap (ints l)).F k → w.heap.size ≤ k) ∧ Below w.heap.size w w' ∧ (okC b lo hi = true → Cov b.toNat (hi.toNat + 1) lo.toNat l) ∧ (okC b lo hi = false → l = [])
theorem pc_alloc {X : World} {n : Nat} {vs : Array Value} {t : TypeId} (h : X.heap.size = n) : (X.alloc (.cells vs t)).heap[n]? = some (.cells vs t (0, 0)) := by
  subst h
  exact heap_alloc_new X _
theorem pcT_nil (w : World) (A : Option Addr) (h : ∀ a, A = some a → a.block < w.heap.size) : (pcT A 0 0 (ints [])).I w :=
  ⟨⟨fun _ => ⟨rfl, rfl⟩, Nat.le_refl _, by decide, rfl, fun i q hq => by simp [ints] at hq⟩, h⟩
end Go.Proofs.YtkflggojiiebeaaGreat.Pcs

namespace Go.Proofs.YtkflggojiiebeaaGreat.Pcs
open Go Go.RowKit Lw
set_option linter.unusedVariables false
set_option linter.unusedSimpArgs false
theorem flatP_app (us vs : List (Int × Int)) : flatP (us ++ vs) = flatP us ++ flatP vs := List.flatMap_append
theorem ints_one (k a : Nat) : ints [(k, a)] = [((k : Int), (a : Int))] := rfl
/-- A piece put behind the row. -/
theorem CutI.app {w0 w w1 w2 : World} {N : Nat} {xs : List (Nat × Nat)} {rs : List (Nat × Nat × Nat)} {v v' : Value} {k a : Nat} (h : CutI w0 w N xs rs v) (hb : Below w.heap.size w w1) (hlt : w.heap.size < w1.heap.size)
    (ho : w2.ownsRow w0.heap.size 82 2 v' (xs.length + 1) (flatP (ints xs) ++ [.int .i64 (k : Int), .int .u64 (a : Int)])) (hg : w1.grownBy w2 v.ownBlock) (hv' : ∀ k, v'.ownBlock = some k → v.ownBlock = some k ∨ w1.heap.size ≤ k) :
    CutI w0 (w2.setCell ⟨w0.heap.size, 0, none⟩ v') (N + 1) (xs ++ [(k, a)]) rs v' := by
  have hl := h.cl.2.2
  have hnv : ∀ b, b < w.heap.size → (∀ k, v.ownBlock = some k → k ≠ b) → w2.heap[b]? = w.heap[b]? := fun b hlb hb1 => by
    rw [hg.block b (by have := hb.4; omega) (fun e => hb1 b e.symm rfl)]
    exact hb.5 b hlb
  have hs : ∀ b, b ≠ w0.heap.size → (w2.setCell ⟨w0.heap.size, 0, none⟩ v').heap[b]? = w2.heap[b]? := fun b hb1 => by
    simp only [World.setCell, Array.getElem?_modify]
    rw [if_neg (fun e => hb1 e.symm)]
  have hc2 : w2.heap[w0.heap.size]? = some (.cells #[v] 118 (0, 0)) := by
    rw [hnv _ hl (fun k hk => (h.ne k hk).1)]
    exact h.cell
  have hn' : ∀ k, v'.ownBlock = some k → k ≠ w0.heap.size ∧ ∀ r ∈ rs, k ≠ r.1 := fun k hk => by
    rcases hv' k hk with g | g
    · exact h.ne k g
    · have h4 := hb.4
      exact ⟨by omega, fun r hr => by have := hp_lt (h.bx r hr).1; omega⟩
  refine ⟨?_, ?_, hn', ?_, ?_, ?_⟩
  · simp [World.setCell, Array.getElem?_modify, hc2]
  · rw [List.length_append, ints_app, flatP_app, ints_one]
    refine ⟨ho.1, ?_⟩
    rcases ho.2 with g | ⟨g, cap, cur, e1, e2, e3, e4⟩
    · exact .inl g
    · refine .inr ⟨g, cap, cur, e1, e2, ?_, e4⟩
      rw [hs g (hn' g (by rw [e1]; rfl)).1]
      exact e3
  · intro r hr
    obtain ⟨g1, g2, g3⟩ := h.bx r hr
    refine ⟨?_, g2, g3⟩
    rw [hs _ g2, hnv _ (hp_lt g1) (fun k hk => (h.ne k hk).2 r hr)]
    exact g1
  · have hbl := h.below
    have h1 : Below w0.heap.size w0 w1 := hbl.trans (hb.mono hbl.4)
    have h2 : Kept (fun _ => False) w0 w2 := (Kept.of_below (F := fun _ => False) h1).grown hg (fun q hq => .inr (by rcases h.own.lt q hq with ⟨g, _⟩; exact g))
    exact (h2.set (.inr (Nat.le_refl _)) 0 v').below
  · rw [List.length_append]
    have := h.len
    simp
    omega
theorem own_slice {w : World} {base : Nat} {e : TypeId} {size : Nat} {v : Value} {n : Nat} {xs : List Value} (h : w.ownsRow base e size v n xs) : ∃ (A : Option Addr) (m cap : Nat), v = .slice A m cap := by
  rcases h.2 with ⟨h1, _⟩ | ⟨g, cap, cur, h1, _⟩
  · exact ⟨_, _, _, h1⟩
  · exact ⟨_, _, _, h1⟩
theorem CutI.tail {w0 w : World} {N : Nat} {xs : List (Nat × Nat)} {rs : List (Nat × Nat × Nat)} {v : Value} {r : Nat × Nat × Nat} (h : CutI w0 w (N + 1) xs (r :: rs) v) : CutI w0 w N xs rs v :=
  ⟨h.cell, h.own, fun k hk => ⟨(h.ne k hk).1, fun q hq => (h.ne k hk).2 q (List.mem_cons_of_mem _ hq)⟩, fun q hq => h.bx q (List.mem_cons_of_mem _ hq), h.below, by have := h.len; simp at this; omega⟩
set_option maxRecDepth 100000 in
set_option maxHeartbeats 4000000 in
theorem clo_any (w0 w : World) (N : Nat) (hN : N ≤ 200) (xs : List (Nat × Nat)) (rs : List (Nat × Nat × Nat)) (g k a : Nat) (v : Value) (u : FrameMode) (h : CutI w0 w (N + 1) xs ((g, k, a) :: rs) v) :
    CallsD Tryz.prog 161 #[.pointer (some ⟨w0.heap.size, 0, none⟩), .pointer (some ⟨g, 0, none⟩)] u w fun e u' w' => u' = u ∧ e = .returned (.tuple #[]) ∧ ∃ v', CutI w0 w' (N + 1) (xs ++ [(k, a)]) rs v' := by
  obtain ⟨i0, hi_, hz0, hz1, hz2⟩ := info_parts pc_info
  obtain ⟨c0, c1, hlt⟩ := h.cl
  obtain ⟨b0, b1⟩ := h.two
  have HC := Lib.hid h
  have hlen : xs.length + 1 ≤ 201 := by have := h.len; simp at this; omega
  clear h
  go_enter_d Tryz.func161, Tryz.ntmps161
  go_wp2_with (at_builtin; go_must (refine wpList_append_lies _ rfl _ _ 118 rfl w0.heap.size 82 i0 (.agg #[.int .i64 0, .int .u64 0]) 2 16 pcs_u hi_ hz0 hz1 hz2 rfl (by decide) _ _ _ rfl (HC.out.own.alloc _) ⟨_, 0, none⟩ 1 1 [.int .i64 (k : Int), .int .u64 (a : Int)] rfl rfl (pc_news (pc_alloc (by simp))) (pc_one _ _) (by decide) (by unfold maxLen; omega) (by omega) (by simp; omega) _ rfl ?_); intro g7 cap7 w7 hown7 hgrow7 hat7 hlt7; obtain ⟨s7, z7⟩ := HC.out.tail.st (Lw.below_alloc (Below.refl _ _) _) hgrow7; have H7 := Lib.hid (HC.out.tail.app (k := k) (a := a) (Lw.below_alloc (Below.refl _ _) _) (by simp) hown7 hgrow7 (fun q hq => by injection hq with hq; subst hq; rcases hat7 with g | g; exact .inl g; exact .inr (Nat.le_of_eq g.symm))); clear hown7 hgrow7 hat7 hlt7)
  go_end0
  exact ⟨rfl, _, H7.out⟩
/-- What is deferred, for one right piece. -/
def clo (b : Nat) (r : Nat × Nat × Nat) : Deferred := { target := .fn (.func 161) #[.pointer (some ⟨b, 0, none⟩), .pointer (some ⟨r.1, 0, none⟩)], args := #[] }
theorem leaves_clo {fn : Func} {tmps : Array Value} {R : Ending → World → Prop} (w0 : World) (N : Nat) (hN : N ≤ 200) : ∀ (rs : List (Nat × Nat × Nat)) (xs : List (Nat × Nat)) (v : Value) (w : World), CutI w0 w (N + 1) xs rs v →
    (∀ v' w', CutI w0 w' (N + 1) (xs ++ rs.map (·.2)) [] v' → ∃ u, (results fn tmps).run Tryz.prog w' = .ok u w' ∧ R (.returned u) w') →
    Leaves Tryz.prog fn tmps R (rs.map (clo w0.heap.size)) .returning w
  | [], xs, v, w, h, hR => by
    obtain ⟨u, h1, h2⟩ := hR v w (by rw [List.map_nil, List.append_nil]; exact h)
    exact ⟨u, h1, h2⟩
  | (g, k, a) :: rs, xs, v, w, h, hR => by
    refine leaves_cons (f := 161) (args := #[.pointer (some ⟨w0.heap.size, 0, none⟩), .pointer (some ⟨g, 0, none⟩)]) (by simp) (by simp [go_sem]) ?_
    refine (clo_any w0 w N hN xs rs g k a v .returning h).mono ?_
    rintro e u' w' ⟨rfl, rfl, v', h'⟩
    exact leaves_clo w0 N hN rs _ v' w' h' (fun v2 w2 h2 => hR v2 w2 (by
      rw [List.append_assoc] at h2
      exact h2))
theorem loop_k {P : Program} {Q : Exit → Act → World → Prop} {a : Act} {w : World} {c : Code} (I : Act → World → Prop) (μ : Act → World → Nat) (h₀ : I a w)
    (round : ∀ a w, I a w → ∀ (K : Act → World → Prop), (∀ a' w', I a' w' → μ a' w' < μ a w → K a' w') → c.wp P (Exit.then K Q) a w) : (Code.loop c).wp P Q a w :=
  wp_loop I μ h₀ (fun a w h => round a w h _ (fun _ _ h1 h2 => ⟨h1, h2⟩))
theorem CutL.lev {w0 w : World} {B E S j e L : Nat} {xs : List (Nat × Nat)} {rs : List (Nat × Nat × Nat)} {v : Value} (h : CutL w0 B E S j e L xs rs v w) (hj : j < e) : L ≤ B := by
  rcases Nat.lt_or_ge B L with g | g
  · have h3 : 2 ^ B < 2 ^ L := Nat.pow_lt_pow_right (by omega) g
    have h4 := h.2.2.1
    have h5 : 1 * 2 ^ L ≤ e * 2 ^ L := Nat.mul_le_mul_right _ (by omega)
    omega
  · exact g
theorem cov_left {B E S j e L : Nat} {xs : List (Nat × Nat)} {ms : List (Nat × Nat)} (hj : j < e) (hj1 : j % 2 = 1) (hb : e * 2 ^ L ≤ 2 ^ B) (hc : ∀ m, Cov B (e * 2 ^ L) (j * 2 ^ L) m → Cov B E S (xs ++ m ++ ms)) : ∀ m, Cov B (e * 2 ^ L) ((j + 1) * 2 ^ L) m → Cov B E S ((xs ++ [(L, j)]) ++ m ++ ms) := fun m hm => by
  have h1 := hc _ (hm.left hj1 hj hb)
  rw [List.append_assoc xs, List.singleton_append]
  exact h1
theorem cov_right {B E S j e L : Nat} {xs : List (Nat × Nat)} {ms : List (Nat × Nat)} (he1 : (e + 1) % 2 = 1) (hb : (e + 1) * 2 ^ L ≤ 2 ^ B) (hc : ∀ m, Cov B ((e + 1) * 2 ^ L) (j * 2 ^ L) m → Cov B E S (xs ++ m ++ ms)) : ∀ m, Cov B (e * 2 ^ L) (j * 2 ^ L) m → Cov B E S (xs ++ m ++ (L, e) :: ms) := fun m hm => by
  have h1 := hc _ (hm.last (by omega) hb (Nat.dvd_mul_left _ _))
  rw [← List.append_assoc, List.append_assoc (xs ++ m), List.singleton_append] at h1
  exact h1
def CutA (w0 : World) (B E S : Nat) (a : Act) (w : World) : Prop :=
  ∃ (j e L : Nat) (xs : List (Nat × Nat)) (rs : List (Nat × Nat × Nat)) (v : Value) (u2 u3 u6 u7 u8 u9 u10 u11 u12 u13 u14 u15 u16 u17 u18 u19 u20 u21 u22 u23 u24 u25 u26 u27 u28 u29 u30 u31 u32 u33 u34 u35 u36 : Value), CutL w0 B E S j e L xs rs v w ∧ a = { tmps := #[.int .u64 j, .int .u64 e, u2, u3, .pointer (some ⟨w0.heap.size, 0, none⟩), .int .i64 L, u6, u7, u8, u9, u10, u11, u12, u13, u14, u15, u16, u17, u18, u19, u20, u21, u22, u23, u24, u25, u26, u27, u28, u29, u30, u31, u32, u33, u34, u35, u36], defers := rs.map (clo w0.heap.size) }
set_option maxRecDepth 100000 in
set_option maxHeartbeats 4000000 in
theorem cut_any (B S E : Nat) (w0 : World) (hB : B ≤ 59) (hS : S ≤ E) (hE : E ≤ 2 ^ B) :
    Calls Tryz.prog 146 #[.int .u64 S, .int .u64 E] w0 fun e w' => ∃ (l : List (Nat × Nat)) (v : Value), e = .returned v ∧ Cov B E S l ∧ w'.ownsRow w0.heap.size 82 2 v l.length (flatP (ints l)) ∧ Below w0.heap.size w0 w' := by
  obtain ⟨i0, hi_, hz0, hz1, hz2⟩ := info_parts pc_info
  have hmf : ∀ (fn : Fn) (first cap : Array Value) (w : World), (Instr.makeFunc fn first cap).run Tryz.prog w = .ok (.func fn first cap) w := fun _ _ _ _ => rfl
  have HE := Lib.hid hE
  have HS := Lib.hid hS
  clear hE hS
  go_enter_defers Tryz.func146, Tryz.ntmps146
  go_wp2
  refine loop_k (CutA w0 B E S) (fun a _ => (intOf (a.tmps.getD 1 undef)).toNat) ?_ ?_
  · refine ⟨S, E, 0, [], [], .slice none 0 0, _, _, _, _, _, _, _, _, _, _, _, _, _, _, _, _, _, _, _, _, _, _, _, _, _, _, _, _, _, _, _, _, _, ⟨⟨heap_alloc_new w0 _, ⟨rfl, .inl ⟨rfl, rfl⟩⟩, fun k hk => (by cases hk), fun r hr => (by cases hr), Lw.below_alloc (Below.refl _ _) _, Nat.le_refl _⟩, ⟨HS.out, by omega⟩, by simpa using HE.out, fun m hm => by simpa using hm⟩, rfl⟩
  · rintro a wr ⟨j, e, L, xs, rs, v, u2, u3, u6, u7, u8, u9, u10, u11, u12, u13, u14, u15, u16, u17, u18, u19, u20, u21, u22, u23, u24, u25, u26, u27, u28, u29, u30, u31, u32, u33, u34, u35, u36, hrel, rfl⟩ K hK
    have HK := Lib.hid hK
    have HR := Lib.hid hrel
    clear hK hrel
    by_cases hlt : j < e
    · have hL := HR.out.lev hlt
      have hL1 : ∃ L1, L1 = L + 1 := ⟨_, rfl⟩
      obtain ⟨L1, hL1⟩ := hL1
      have HL1 := Lib.hid hL1
      have wL : wrap64 ((L : Int) + 1) = (L1 : Int) := by rw [hL1]; exact IntWalk.wrap64_in _ ⟨by omega, by omega⟩
      have wL2 : IntKind.i64.wrap ((L : Int) + 1) = (L1 : Int) := by rw [hL1]; exact IntWalk.i64_in _ ⟨by omega, by omega⟩
      have hle : (e : Int) ≤ 1152921504606846976 := by
        have h1 := HR.out.2.2.1
        have h2 := pow_pos L
        have h3 : e * 1 ≤ e * 2 ^ L := Nat.mul_le_mul_left _ h2
        have h4 := pow_le hB
        have h5 : (2 : Nat) ^ 59 = 576460752303423488 := rfl
        omega
      have hlj : (j : Int) ≤ 1152921504606846976 := by omega
      have hlen : xs.length ≤ 118 := by
        have := HR.out.1.len
        omega
      have dlt : decide ((j : Int) < (e : Int)) = true := decide_eq_true (by omega)
      have glt : (j : Int) < (e : Int) := by omega
      obtain ⟨c0, c1, hltw⟩ := HR.out.1.cl
      clear hL1
      rcases Nat.mod_two_eq_zero_or_one j with hj2 | hj2 <;> rcases Nat.mod_two_eq_zero_or_one e with he2 | he2
      · skip
        have tj : Int.tmod (j : Int) 2 = 0 := by rw [Int.tmod_eq_emod_of_nonneg (by omega)]; omega
        have te : Int.tmod (e : Int) 2 = 0 := by rw [Int.tmod_eq_emod_of_nonneg (by omega)]; omega
        obtain ⟨J2, hJ2⟩ : ∃ J2, j / 2 = J2 := ⟨_, rfl⟩
        obtain ⟨E2, hE2⟩ : ∃ E2, e / 2 = E2 := ⟨_, rfl⟩
        have qj : Int.tdiv (j : Int) 2 = (J2 : Int) := by rw [Int.tdiv_eq_ediv_of_nonneg (by omega)]; omega
        have qe : Int.tdiv (e : Int) 2 = (E2 : Int) := by rw [Int.tdiv_eq_ediv_of_nonneg (by omega)]; omega
        have qj2 : IntKind.u64.wrap (J2 : Int) = (J2 : Int) := u64_in (by omega) (by omega)
        have qe2 : IntKind.u64.wrap (E2 : Int) = (E2 : Int) := u64_in (by omega) (by omega)
        have hb9 := HR.out.2.2.1
        have HM : Hid (∀ m, Cov B (e * 2 ^ L) (j * 2 ^ L) m → Cov B E S (xs ++ m ++ rs.map (·.2))) := Lib.hid (fun m hm => HR.out.2.2.2 m hm)
        have HB9 : Hid (e * 2 ^ L ≤ 2 ^ B) := Lib.hid hb9
        have HN : Hid (j ≤ e ∧ j % 2 = 0 ∧ e % 2 = 0 ∧ j / 2 = J2 ∧ e / 2 = E2 ∧ (e : Int) = e ∧ E2 < e) := Lib.hid ⟨by omega, by omega, by omega, hJ2, hE2, rfl, by omega⟩
        clear hJ2 hE2 hb9 hj2 he2 hlt hlj hle
        go_wp2
        obtain ⟨n1, n2, n3, n4, n5, _, n6⟩ := HN.out
        have hl1 := HL1.out
        subst hl1
        refine HK.out _ _ ?_ (by simp [intOf]; omega)
        refine ⟨J2, E2, L + 1, xs, rs, v, _, _, _, _, _, _, _, _, _, _, _, _, _, _, _, _, _, _, _, _, _, _, _, _, _, _, _, _, _, _, _, _, _, ?_, rfl⟩
        rw [← n4, ← n5]
        exact CutL.up hL ((HR.out.1).mono (by omega)) n1 n2 n3 HB9.out HM.out
      · skip
        have tj : Int.tmod (j : Int) 2 = 0 := by rw [Int.tmod_eq_emod_of_nonneg (by omega)]; omega
        have te : Int.tmod (e : Int) 2 = 1 := by rw [Int.tmod_eq_emod_of_nonneg (by omega)]; omega
        obtain ⟨E1, hE1⟩ : ∃ E1, e = E1 + 1 := ⟨e - 1, by omega⟩
        have ae : IntKind.u64.wrap ((e : Int) - 1) = (E1 : Int) := by rw [hE1]; rw [u64_in (by omega) (by omega)]; omega
        obtain ⟨J2, hJ2⟩ : ∃ J2, j / 2 = J2 := ⟨_, rfl⟩
        obtain ⟨E2, hE2⟩ : ∃ E2, E1 / 2 = E2 := ⟨_, rfl⟩
        have qj : Int.tdiv (j : Int) 2 = (J2 : Int) := by rw [Int.tdiv_eq_ediv_of_nonneg (by omega)]; omega
        have qe : Int.tdiv (E1 : Int) 2 = (E2 : Int) := by rw [Int.tdiv_eq_ediv_of_nonneg (by omega)]; omega
        have qj2 : IntKind.u64.wrap (J2 : Int) = (J2 : Int) := u64_in (by omega) (by omega)
        have qe2 : IntKind.u64.wrap (E2 : Int) = (E2 : Int) := u64_in (by omega) (by omega)
        have hb9 := HR.out.2.2.1
        have HM : Hid (∀ m, Cov B (E1 * 2 ^ L) (j * 2 ^ L) m → Cov B E S (xs ++ m ++ (L, E1) :: rs.map (·.2))) := Lib.hid (by subst hE1; exact cov_right he2 hb9 (fun m hm => HR.out.2.2.2 m hm))
        have HB9 : Hid (E1 * 2 ^ L ≤ 2 ^ B) := Lib.hid (by subst hE1; exact Nat.le_trans (Nat.mul_le_mul_right _ (by omega)) hb9)
        have HN : Hid (j ≤ E1 ∧ j % 2 = 0 ∧ E1 % 2 = 0 ∧ j / 2 = J2 ∧ E1 / 2 = E2 ∧ (e : Int) = e ∧ E2 < e) := Lib.hid ⟨by omega, by omega, by omega, hJ2, hE2, rfl, by omega⟩
        clear hJ2 hE2 hb9 hE1 hj2 he2 hlt hlj hle
        go_wp2
        obtain ⟨n1, n2, n3, n4, n5, _, n6⟩ := HN.out
        have hl1 := HL1.out
        subst hl1
        refine HK.out _ _ ?_ (by simp [intOf]; omega)
        refine ⟨J2, E2, L + 1, xs, ((wr.heap.size, L, E1) :: rs), v, _, _, _, _, _, _, _, _, _, _, _, _, _, _, _, _, _, _, _, _, _, _, _, _, _, _, _, _, _, _, _, _, _, ?_, rfl⟩
        rw [← n4, ← n5]
        exact CutL.up hL (((HR.out.1.right (g := wr.heap.size) (k := L) (a := E1) (Lw.below_alloc (Below.refl _ _) _) (by simp) (pc_alloc (by simp)))).mono (by omega)) n1 n2 n3 HB9.out HM.out
      · skip
        have tj : Int.tmod (j : Int) 2 = 1 := by rw [Int.tmod_eq_emod_of_nonneg (by omega)]; omega
        have te : Int.tmod (e : Int) 2 = 0 := by rw [Int.tmod_eq_emod_of_nonneg (by omega)]; omega
        obtain ⟨J1, hJ1⟩ : ∃ J1, J1 = j + 1 := ⟨_, rfl⟩
        have aj : IntKind.u64.wrap ((j : Int) + 1) = (J1 : Int) := by rw [hJ1]; exact u64_in (by omega) (by omega)
        obtain ⟨J2, hJ2⟩ : ∃ J2, J1 / 2 = J2 := ⟨_, rfl⟩
        obtain ⟨E2, hE2⟩ : ∃ E2, e / 2 = E2 := ⟨_, rfl⟩
        have qj : Int.tdiv (J1 : Int) 2 = (J2 : Int) := by rw [Int.tdiv_eq_ediv_of_nonneg (by omega)]; omega
        have qe : Int.tdiv (e : Int) 2 = (E2 : Int) := by rw [Int.tdiv_eq_ediv_of_nonneg (by omega)]; omega
        have qj2 : IntKind.u64.wrap (J2 : Int) = (J2 : Int) := u64_in (by omega) (by omega)
        have qe2 : IntKind.u64.wrap (E2 : Int) = (E2 : Int) := u64_in (by omega) (by omega)
        have hb9 := HR.out.2.2.1
        have HM : Hid (∀ m, Cov B (e * 2 ^ L) ((j + 1) * 2 ^ L) m → Cov B E S ((xs ++ [(L, j)]) ++ m ++ rs.map (·.2))) := Lib.hid (cov_left hlt hj2 HR.out.2.2.1 (fun m hm => HR.out.2.2.2 m hm))
        have HB9 : Hid (e * 2 ^ L ≤ 2 ^ B) := Lib.hid hb9
        rw [← hJ1] at HM
        have HN : Hid (J1 ≤ e ∧ J1 % 2 = 0 ∧ e % 2 = 0 ∧ J1 / 2 = J2 ∧ e / 2 = E2 ∧ (e : Int) = e ∧ E2 < e) := Lib.hid ⟨by omega, by omega, by omega, hJ2, hE2, rfl, by omega⟩
        clear hJ2 hE2 hb9 hJ1 hj2 he2 hlt hlj hle
        go_wp2_with (at_builtin; go_must (refine wpList_append_lies _ rfl _ _ 118 rfl w0.heap.size 82 i0 (.agg #[.int .i64 0, .int .u64 0]) 2 16 pcs_u hi_ hz0 hz1 hz2 rfl (by decide) _ _ _ rfl (HR.out.1.own.alloc _) ⟨_, 0, none⟩ 1 1 [.int .i64 (L : Int), .int .u64 (j : Int)] rfl rfl (pc_news (pc_alloc (by simp))) (pc_one _ _) (by decide) (by unfold maxLen; omega) (by omega) (by simp; omega) _ rfl ?_); intro g7 cap7 w7 hown7 hgrow7 hat7 hlt7; obtain ⟨s7, z7⟩ := HR.out.1.st (Lw.below_alloc (Below.refl _ _) _) hgrow7; have H7 := Lib.hid (HR.out.1.app (k := L) (a := j) (Lw.below_alloc (Below.refl _ _) _) (by simp) hown7 hgrow7 (fun q hq => by injection hq with hq; subst hq; rcases hat7 with g | g; exact .inl g; exact .inr (Nat.le_of_eq g.symm))); clear hown7 hgrow7 hat7 hlt7)
        obtain ⟨n1, n2, n3, n4, n5, _, n6⟩ := HN.out
        have hl1 := HL1.out
        subst hl1
        refine HK.out _ _ ?_ (by simp [intOf]; omega)
        refine ⟨J2, E2, L + 1, (xs ++ [(L, j)]), rs, (.slice (some ⟨g7, 0, none⟩) (xs.length + 1) cap7), _, _, _, _, _, _, _, _, _, _, _, _, _, _, _, _, _, _, _, _, _, _, _, _, _, _, _, _, _, _, _, _, _, ?_, rfl⟩
        rw [← n4, ← n5]
        exact CutL.up hL ((H7.out).mono (by omega)) n1 n2 n3 HB9.out HM.out
      · skip
        have tj : Int.tmod (j : Int) 2 = 1 := by rw [Int.tmod_eq_emod_of_nonneg (by omega)]; omega
        have te : Int.tmod (e : Int) 2 = 1 := by rw [Int.tmod_eq_emod_of_nonneg (by omega)]; omega
        obtain ⟨J1, hJ1⟩ : ∃ J1, J1 = j + 1 := ⟨_, rfl⟩
        have aj : IntKind.u64.wrap ((j : Int) + 1) = (J1 : Int) := by rw [hJ1]; exact u64_in (by omega) (by omega)
        obtain ⟨E1, hE1⟩ : ∃ E1, e = E1 + 1 := ⟨e - 1, by omega⟩
        have ae : IntKind.u64.wrap ((e : Int) - 1) = (E1 : Int) := by rw [hE1]; rw [u64_in (by omega) (by omega)]; omega
        obtain ⟨J2, hJ2⟩ : ∃ J2, J1 / 2 = J2 := ⟨_, rfl⟩
        obtain ⟨E2, hE2⟩ : ∃ E2, E1 / 2 = E2 := ⟨_, rfl⟩
        have qj : Int.tdiv (J1 : Int) 2 = (J2 : Int) := by rw [Int.tdiv_eq_ediv_of_nonneg (by omega)]; omega
        have qe : Int.tdiv (E1 : Int) 2 = (E2 : Int) := by rw [Int.tdiv_eq_ediv_of_nonneg (by omega)]; omega
        have qj2 : IntKind.u64.wrap (J2 : Int) = (J2 : Int) := u64_in (by omega) (by omega)
        have qe2 : IntKind.u64.wrap (E2 : Int) = (E2 : Int) := u64_in (by omega) (by omega)
        have hb9 := HR.out.2.2.1
        have HM : Hid (∀ m, Cov B (E1 * 2 ^ L) ((j + 1) * 2 ^ L) m → Cov B E S ((xs ++ [(L, j)]) ++ m ++ (L, E1) :: rs.map (·.2))) := Lib.hid (by subst hE1; exact cov_right he2 hb9 (cov_left hlt hj2 HR.out.2.2.1 (fun m hm => HR.out.2.2.2 m hm)))
        have HB9 : Hid (E1 * 2 ^ L ≤ 2 ^ B) := Lib.hid (by subst hE1; exact Nat.le_trans (Nat.mul_le_mul_right _ (by omega)) hb9)
        rw [← hJ1] at HM
        have HN : Hid (J1 ≤ E1 ∧ J1 % 2 = 0 ∧ E1 % 2 = 0 ∧ J1 / 2 = J2 ∧ E1 / 2 = E2 ∧ (e : Int) = e ∧ E2 < e) := Lib.hid ⟨by omega, by omega, by omega, hJ2, hE2, rfl, by omega⟩
        clear hJ2 hE2 hb9 hJ1 hE1 hj2 he2 hlt hlj hle
        go_wp2_with (at_builtin; go_must (refine wpList_append_lies _ rfl _ _ 118 rfl w0.heap.size 82 i0 (.agg #[.int .i64 0, .int .u64 0]) 2 16 pcs_u hi_ hz0 hz1 hz2 rfl (by decide) _ _ _ rfl (HR.out.1.own.alloc _) ⟨_, 0, none⟩ 1 1 [.int .i64 (L : Int), .int .u64 (j : Int)] rfl rfl (pc_news (pc_alloc (by simp))) (pc_one _ _) (by decide) (by unfold maxLen; omega) (by omega) (by simp; omega) _ rfl ?_); intro g7 cap7 w7 hown7 hgrow7 hat7 hlt7; obtain ⟨s7, z7⟩ := HR.out.1.st (Lw.below_alloc (Below.refl _ _) _) hgrow7; have H7 := Lib.hid (HR.out.1.app (k := L) (a := j) (Lw.below_alloc (Below.refl _ _) _) (by simp) hown7 hgrow7 (fun q hq => by injection hq with hq; subst hq; rcases hat7 with g | g; exact .inl g; exact .inr (Nat.le_of_eq g.symm))); clear hown7 hgrow7 hat7 hlt7)
        obtain ⟨n1, n2, n3, n4, n5, _, n6⟩ := HN.out
        have hl1 := HL1.out
        subst hl1
        refine HK.out _ _ ?_ (by simp [intOf]; omega)
        refine ⟨J2, E2, L + 1, (xs ++ [(L, j)]), ((w7.heap.size, L, E1) :: rs), (.slice (some ⟨g7, 0, none⟩) (xs.length + 1) cap7), _, _, _, _, _, _, _, _, _, _, _, _, _, _, _, _, _, _, _, _, _, _, _, _, _, _, _, _, _, _, _, _, _, ?_, rfl⟩
        rw [← n4, ← n5]
        exact CutL.up hL (((H7.out.right (g := w7.heap.size) (k := L) (a := E1) (Lw.below_alloc (Below.refl _ _) _) (by simp) (pc_alloc (by simp)))).mono (by omega)) n1 n2 n3 HB9.out HM.out
    · have hje : j = e := by have := HR.out.2.1; omega
      have HJE := Lib.hid hje
      have dlt : decide ((j : Int) < (e : Int)) = false := decide_eq_false (by omega)
      have glt : ¬ (j : Int) < (e : Int) := by omega
      obtain ⟨c0, c1, hltw⟩ := HR.out.1.cl
      obtain ⟨A, n, cap, rfl⟩ := own_slice HR.out.1.own
      clear hlt hje
      go_wp2
      rw [HR.out.1.same]
      have hL60 : L ≤ B + 1 := HR.out.2.1.2
      refine leaves_clo w0 (2 * L) (by omega) rs xs _ wr (HR.out.1.mono (by omega)) (fun v' w' h' => ?_)
      obtain ⟨A2, n2, cap2, rfl⟩ := own_slice h'.own
      obtain ⟨x0, x1, x2⟩ := h'.cl
      have hcv := HR.out.2.2.2 [] (by rw [HJE.out]; exact Cov.nil)
      rw [List.append_nil] at hcv
      exact ⟨.slice A2 n2 cap2, by simp [results, Tryz.results146, go_sem, x0], _, _, rfl, hcv, h'.own, h'.below⟩
theorem okC_cnt {b lo hi : Int} (h0 : 0 ≤ hi) : okC b lo hi = (decide (lo ≤ hi) && decide (hi < cntP b 0)) := by
  unfold okC cntP
  by_cases h : 1 ≤ b ∧ b ≤ 59
  · rw [if_pos ⟨h.1, h.2, by omega, by omega⟩, show (b - 0).toNat = b.toNat by rw [Int.sub_zero], ← Bool.decide_and]
    exact decide_eq_decide.2 ⟨fun g => g.2.2, fun g => ⟨h.1, h.2, g⟩⟩
  · rw [if_neg (fun g => h ⟨g.1, g.2.1⟩), ← Bool.decide_and]
    exact decide_eq_decide.2 ⟨fun g => absurd ⟨g.1, g.2.1⟩ h, fun g => by omega⟩
set_option maxRecDepth 100000 in
set_option maxHeartbeats 4000000 in
theorem ccover_n1 (b lo hi : Int) (w : World) (hb0 : -9223372036854775808 ≤ b) (hb1 : b ≤ 9223372036854775807) (lo0 : 0 ≤ lo) (lo1 : lo ≤ 18446744073709551615) (hi0 : 0 ≤ hi) (hi1 : hi ≤ 18446744073709551615) (h1 : ¬ lo ≤ hi) :
    Calls Tryz.prog 113 #[.int .i64 b, .int .u64 lo, .int .u64 hi] w fun e w' => CovR w w' e b lo hi := by
  have HOK : Hid (okC b lo hi = false) := Lib.hid (decide_eq_false (fun h => h1 h.2.2.1))
  have d1 : decide (hi < lo) = true := decide_eq_true (by omega)
  have f1 : hi < lo := by omega
  clear hb0 hb1 lo0 lo1 hi0 hi1 h1
  go_enter Tryz.func113, Tryz.ntmps113
  go_wp2
  refine bodyPost_ret (v := .tuple #[.slice none 0 0, .bool false]) (by simp [results, Tryz.results113, go_sem]) rfl ?_
  unfold CovR
  rw [HOK.out]
  exact ⟨none, 0, 0, [], rfl, pcT_nil _ _ (fun a e => by cases e), fun k hk => (by obtain ⟨a, e, _⟩ := hk; cases e), (by repeat' (first | (with_reducible first | exact Below.refl _ _ | assumption | refine below_over ?_ _ _ | refine Lw.below_alloc ?_ _ | refine Below.drew ?_ | refine below_drewN ?_ _ | refine Below.setCell ?_ ?_ _) | go_size)), fun h => by simp at h, fun _ => rfl⟩
set_option maxRecDepth 100000 in
set_option maxHeartbeats 4000000 in
theorem ccover_n2 (b lo hi : Int) (w : World) (hb0 : -9223372036854775808 ≤ b) (hb1 : b ≤ 9223372036854775807) (lo0 : 0 ≤ lo) (lo1 : lo ≤ 18446744073709551615) (hi0 : 0 ≤ hi) (hi1 : hi ≤ 18446744073709551615) (h1 : lo ≤ hi) (h2 : ¬ hi < cntP b 0) :
    Calls Tryz.prog 113 #[.int .i64 b, .int .u64 lo, .int .u64 hi] w fun e w' => CovR w w' e b lo hi := by
  have HOK : Hid (okC b lo hi = false) := Lib.hid (by rw [okC_cnt hi0, decide_eq_false h2, Bool.and_false])
  have CC := Lib.hid (fun w => count_any b 0 w hb0 hb1 (by omega) (by omega))
  obtain ⟨X, hX⟩ : ∃ X, cntP b 0 = X := ⟨_, rfl⟩
  rw [hX] at CC h2
  have d1 : decide (hi < lo) = false := decide_eq_false (by omega)
  have f1 : ¬ hi < lo := by omega
  have d2 : decide (X ≤ hi) = true := decide_eq_true (by omega)
  have f2 : X ≤ hi := by omega
  clear hb0 hb1 lo0 lo1 hi0 hi1 h1 h2 hX
  go_enter Tryz.func113, Tryz.ntmps113
  go_wp2_with ((go_at_call 125; (with_reducible refine (CC.out _).mono ?_); rintro e w1 ⟨rfl, rfl⟩; skip))
  refine bodyPost_ret (v := .tuple #[.slice none 0 0, .bool false]) (by simp [results, Tryz.results113, go_sem]) rfl ?_
  unfold CovR
  rw [HOK.out]
  exact ⟨none, 0, 0, [], rfl, pcT_nil _ _ (fun a e => by cases e), fun k hk => (by obtain ⟨a, e, _⟩ := hk; cases e), (by repeat' (first | (with_reducible first | exact Below.refl _ _ | assumption | refine below_over ?_ _ _ | refine Lw.below_alloc ?_ _ | refine Below.drew ?_ | refine below_drewN ?_ _ | refine Below.setCell ?_ ?_ _) | go_size)), fun h => by simp at h, fun _ => rfl⟩
set_option maxRecDepth 100000 in
set_option maxHeartbeats 4000000 in
theorem ccover_y (b lo hi : Int) (w : World) (hb0 : -9223372036854775808 ≤ b) (hb1 : b ≤ 9223372036854775807) (lo0 : 0 ≤ lo) (lo1 : lo ≤ 18446744073709551615) (hi0 : 0 ≤ hi) (hi1 : hi ≤ 18446744073709551615) (h1 : lo ≤ hi) (h2 : hi < cntP b 0) :
    Calls Tryz.prog 113 #[.int .i64 b, .int .u64 lo, .int .u64 hi] w fun e w' => CovR w w' e b lo hi := by
  have hok : okC b lo hi = true := by rw [okC_cnt hi0, decide_eq_true h2, decide_eq_true h1]; rfl
  have HOK := Lib.hid hok
  obtain ⟨k1, k2, k3, k4⟩ := of_decide_eq_true hok
  have CC := Lib.hid (fun w => count_any b 0 w hb0 hb1 (by omega) (by omega))
  obtain ⟨s, rfl⟩ : ∃ s : Nat, lo = s := ⟨lo.toNat, by omega⟩
  obtain ⟨t, rfl⟩ : ∃ t : Nat, hi = t := ⟨hi.toNat, by omega⟩
  have hpb := p2_bd (show b.toNat ≤ 60 by omega)
  have hE : t + 1 ≤ 2 ^ b.toNat := by unfold p2 at k4; omega
  have CU := Lib.hid (fun w => cut_any b.toNat s (t + 1) w (by omega) (by omega) hE)
  have hw : IntKind.u64.wrap ((t : Int) + 1) = ((t + 1 : Nat) : Int) := by rw [u64_in (by omega) (by omega)]; omega
  obtain ⟨E, hEE⟩ : ∃ E, t + 1 = E := ⟨_, rfl⟩
  rw [hEE] at CU hw hE
  have HEE := Lib.hid hEE
  have HE := Lib.hid hE
  obtain ⟨X, hX⟩ : ∃ X, cntP b 0 = X := ⟨_, rfl⟩
  rw [hX] at CC h2
  have d1 : decide ((t : Int) < (s : Int)) = false := decide_eq_false (by omega)
  have f1 : ¬ (t : Int) < (s : Int) := by omega
  have d2 : decide (X ≤ (t : Int)) = false := decide_eq_false (by omega)
  have f2 : ¬ X ≤ (t : Int) := by omega
  clear hb0 hb1 lo0 lo1 hi0 hi1 h1 h2 hX k1 k2 k3 k4 hpb hE hok hEE
  go_enter Tryz.func113, Tryz.ntmps113
  go_wp2_with (first
    | (go_at_call 125; (with_reducible refine (CC.out _).mono ?_); rintro e w1 ⟨rfl, rfl⟩; skip)
    | (go_at_call 146; (with_reducible refine (CU.out _).mono ?_); rintro e w2 ⟨l, v, rfl, hcov, hown, hbel⟩; have HCO := Lib.hid hcov; have HOWN := Lib.hid hown; have HBEL := Lib.hid hbel; clear hcov hown hbel))
  have hbd : ∀ u ∈ ints l, (-9223372036854775808 ≤ u.1 ∧ u.1 ≤ 9223372036854775807) ∧ (0 ≤ u.2 ∧ u.2 ≤ 18446744073709551615) := by
    intro u hu
    obtain ⟨p, hp, rfl⟩ := List.mem_map.1 hu
    obtain ⟨i, hi⟩ := List.getElem?_of_mem hp
    obtain ⟨q1, q2, q3⟩ := HCO.out.at i p hi
    have q4 := pow_pos p.1
    have q5 : p.2 * 1 ≤ p.2 * 2 ^ p.1 := Nat.mul_le_mul_left _ q4
    have q6 := HE.out
    have q7 := of_decide_eq_true HOK.out
    have q8 := pow_le (show b.toNat ≤ 59 by omega)
    have q9 : (2 : Nat) ^ 59 = 576460752303423488 := rfl
    exact ⟨⟨by show -9223372036854775808 ≤ (p.1 : Int); omega, by show (p.1 : Int) ≤ 9223372036854775807; omega⟩, ⟨by show 0 ≤ (p.2 : Int); omega, by show (p.2 : Int) ≤ 18446744073709551615; omega⟩⟩
  obtain ⟨A2, cap, rfl, hI, hF⟩ := pc_own HOWN.out (ints_len l) hbd
  have HI := Lib.hid hI
  have HF := Lib.hid hF
  clear hbd hI hF
  refine bodyPost_ret (v := .tuple #[.slice A2 l.length cap, .bool true]) (by simp [results, Tryz.results113, go_sem]) rfl ?_
  unfold CovR
  rw [HOK.out]
  refine ⟨A2, _, cap, l, rfl, HI.out, HF.out, HBEL.out, fun _ => ?_, fun h => by simp at h⟩
  have h9 := HCO.out
  rw [← HEE.out] at h9
  exact h9
theorem ccover_any (b lo hi : Int) (w : World) (hb0 : -9223372036854775808 ≤ b) (hb1 : b ≤ 9223372036854775807) (lo0 : 0 ≤ lo) (lo1 : lo ≤ 18446744073709551615) (hi0 : 0 ≤ hi) (hi1 : hi ≤ 18446744073709551615) :
    Calls Tryz.prog 113 #[.int .i64 b, .int .u64 lo, .int .u64 hi] w fun e w' => CovR w w' e b lo hi := by
  by_cases h1 : lo ≤ hi
  · by_cases h2 : hi < cntP b 0
    · exact ccover_y b lo hi w hb0 hb1 lo0 lo1 hi0 hi1 h1 h2
    · exact ccover_n2 b lo hi w hb0 hb1 lo0 lo1 hi0 hi1 h1 h2
  · exact ccover_n1 b lo hi w hb0 hb1 lo0 lo1 hi0 hi1 h1
end Go.Proofs.YtkflggojiiebeaaGreat.Pcs

namespace Go.Proofs.YtkflggojiiebeaaGreat.Pcs
open Go Go.RowKit Lw
set_option linter.unusedVariables false
set_option linter.unusedSimpArgs false
instance (B lo e L : Nat) : Decidable (GL B lo e L) := by unfold GL; infer_instance
end Go.Proofs.YtkflggojiiebeaaGreat.Pcs

namespace Go.Proofs.YtkflggojiiebeaaGreat.Pcs
open Go Go.RowKit Lw
set_option linter.unusedVariables false
set_option linter.unusedSimpArgs false
theorem boxs_frozen {w : World} {b : Nat} {e : TypeId} {vs : Array Value} (h : (boxT b e vs).I w) (i : Nat) : w.frozen? ⟨b, i, none⟩ = false := by
  have h1 : w.heap[b]? = some (.cells vs e (0, 0)) := h
  simp [World.frozen?, h1]
theorem boxs_set {w : World} {b : Nat} {e : TypeId} {vs : Array Value} (h : (boxT b e vs).I w) (i : Nat) (v : Value) : (boxT b e (vs.setIfInBounds i v)).I (w.setCell ⟨b, i, none⟩ v) := by
  have h1 : w.heap[b]? = some (.cells vs e (0, 0)) := h
  show (w.setCell ⟨b, i, none⟩ v).heap[b]? = _
  simp [World.setCell, Array.getElem?_modify, h1]
end Go.Proofs.YtkflggojiiebeaaGreat.Pcs

namespace Go.Proofs.YtkflggojiiebeaaGreat.Spn
open Go Go.RowKit Lw Grd Lin Con Shp Sk Exa Lev Stk Pcs
set_option linter.unusedVariables false
/-- The pieces of a span. -/
noncomputable def covL (n lo hi : Nat) : List (Nat × Nat) := by
  classical exact if h : ∃ l, Cov n (hi + 1) lo l then Classical.choose h else []
theorem covL_eq {n lo hi : Nat} {l : List (Nat × Nat)} (h : Cov n (hi + 1) lo l) : covL n lo hi = l := by
  unfold covL
  have h2 : ∃ l, Cov n (hi + 1) lo l := ⟨l, h⟩
  rw [dif_pos h2]
  exact (Classical.choose_spec h2).uniq h
/-- What a span is told to have, and with what error. -/
noncomputable def parts (c : Cfg) (pt : Nat → Int → Int) (lo hi : Int) : List Int := (covL c.bt.toNat lo.toNat hi.toNat).map (fun p => pt p.1 ((p.2 : Nat) : Int))
def ptC2 (c : Cfg) (lo hi : Int) : Int := if hi < lo then 1 else if keys c 0 ≤ hi then 2 else 0
noncomputable def ptL (c : Cfg) (pt : Nat → Int → Int) (lo hi : Int) : List Int := if ptC2 c lo hi = 0 then parts c pt lo hi else []
noncomputable def rgC (c : Cfg) (pt : Nat → Int → Int) (lo hi : Int) : Int := if ptC2 c lo hi = 0 then (if Wid.fit64 (parts c pt lo hi).sum = true then 0 else 4) else ptC2 c lo hi
noncomputable def rgV (c : Cfg) (pt : Nat → Int → Int) (lo hi : Int) : Int := if rgC c pt lo hi = 0 then (parts c pt lo hi).sum else 0
end Go.Proofs.YtkflggojiiebeaaGreat.Spn

namespace Go.Proofs.YtkflggojiiebeaaGreat.Qnt
open Go Go.RowKit Lw Grd Lin Con Shp Sk Exa Lev Stk Pcs Spn
set_option linter.unusedVariables false
/-- The pieces with which one goes on, from the piece i of the level on; none: what is left of the rank does not fit. -/
def wayQ (pt : Nat → Int → Int) : Nat → Nat → Int → Option (List (Nat × Nat))
  | 0, i, _ => some [(0, i)]
  | L + 1, i, k =>
    if k ≤ pt L ((2 * i : Nat) : Int) then (wayQ pt L (2 * i) k).map (fun l => (L + 1, i) :: l)
    else if Wid.fit64 (k - pt L ((2 * i : Nat) : Int)) = true then (wayQ pt L (2 * i + 1) (k - pt L ((2 * i : Nat) : Int))).map (fun l => (L + 1, i) :: l)
    else none
theorem wayQ_left {pt : Nat → Int → Int} {L i : Nat} {k : Int} (h : k ≤ pt L ((2 * i : Nat) : Int)) : wayQ pt (L + 1) i k = (wayQ pt L (2 * i) k).map (fun l => (L + 1, i) :: l) := by
  rw [wayQ, if_pos h]
theorem wayQ_right {pt : Nat → Int → Int} {L i : Nat} {k : Int} (h : ¬ k ≤ pt L ((2 * i : Nat) : Int)) (hf : Wid.fit64 (k - pt L ((2 * i : Nat) : Int)) = true) : wayQ pt (L + 1) i k = (wayQ pt L (2 * i + 1) (k - pt L ((2 * i : Nat) : Int))).map (fun l => (L + 1, i) :: l) := by
  rw [wayQ, if_neg h, if_pos hf]
theorem wayQ_none {pt : Nat → Int → Int} {L i : Nat} {k : Int} (h : ¬ k ≤ pt L ((2 * i : Nat) : Int)) (hf : Wid.fit64 (k - pt L ((2 * i : Nat) : Int)) = false) : wayQ pt (L + 1) i k = none := by
  rw [wayQ, if_neg h, if_neg (by rw [hf]; decide)]
/-- One piece more behind those that were gone through. -/
theorem way_push {pt : Nat → Int → Int} {L i j : Nat} {k m : Int} {xs : List (Nat × Nat)} {o : Option (List (Nat × Nat))} (h : o = (wayQ pt (L + 1) i k).map (fun l => xs ++ l)) (h2 : wayQ pt (L + 1) i k = (wayQ pt L j m).map (fun l => (L + 1, i) :: l)) : o = (wayQ pt L j m).map (fun l => (xs ++ [(L + 1, i)]) ++ l) := by
  rw [h, h2, Option.map_map]
  congr 1
  funext l
  simp
theorem wayQ_path {pt : Nat → Int → Int} : ∀ {L i : Nat} {k : Int} {l : List (Nat × Nat)}, wayQ pt L i k = some l → Path L i l
  | 0, i, k, l, h => by
    injection h with h
    subst h
    exact .key i
  | L + 1, i, k, l, h => by
    by_cases h1 : k ≤ pt L ((2 * i : Nat) : Int)
    · rw [wayQ_left h1] at h
      obtain ⟨m, h2, rfl⟩ := Option.map_eq_some_iff.1 h
      exact .half (.inl rfl) (wayQ_path h2)
    · cases hf : Wid.fit64 (k - pt L ((2 * i : Nat) : Int)) with
      | true =>
        rw [wayQ_right h1 hf] at h
        obtain ⟨m, h2, rfl⟩ := Option.map_eq_some_iff.1 h
        exact .half (.inr rfl) (wayQ_path h2)
      | false =>
        rw [wayQ_none h1 hf] at h
        cases h
/-- What Way and Quantile answer. -/
def qnC (c : Cfg) (pt : Nat → Int → Int) (k : Int) : Int := if k < 1 ∨ pt c.bt.toNat 0 < k then 6 else if (wayQ pt c.bt.toNat 0 k).isSome = true then 0 else 4
def qnL (c : Cfg) (pt : Nat → Int → Int) (k : Int) : List (Nat × Nat) := if qnC c pt k = 0 then (wayQ pt c.bt.toNat 0 k).getD [] else []
def qnV (c : Cfg) (pt : Nat → Int → Int) (k : Int) : Int := ((keyQ (qnL c pt k) : Nat) : Int)
theorem qn_yes {c : Cfg} {pt : Nat → Int → Int} {k : Int} {l : List (Nat × Nat)} (h1 : 1 ≤ k) (h2 : k ≤ pt c.bt.toNat 0) (h : wayQ pt c.bt.toNat 0 k = some l) : qnC c pt k = 0 ∧ qnL c pt k = l ∧ qnV c pt k = ((keyQ l : Nat) : Int) := by
  have e1 : qnC c pt k = 0 := by unfold qnC; rw [if_neg (by omega), h]; rfl
  have e2 : qnL c pt k = l := by unfold qnL; rw [if_pos e1, h]; rfl
  exact ⟨e1, e2, by unfold qnV; rw [e2]⟩
theorem qn_over {c : Cfg} {pt : Nat → Int → Int} {k : Int} (h1 : 1 ≤ k) (h2 : k ≤ pt c.bt.toNat 0) (h : wayQ pt c.bt.toNat 0 k = none) : qnC c pt k = 4 ∧ qnL c pt k = [] ∧ qnV c pt k = 0 := by
  have e1 : qnC c pt k = 4 := by unfold qnC; rw [if_neg (by omega), h]; rfl
  have e2 : qnL c pt k = [] := by unfold qnL; rw [if_neg (by omega)]
  exact ⟨e1, e2, by unfold qnV; rw [e2]; rfl⟩
theorem qn_rank {c : Cfg} {pt : Nat → Int → Int} {k : Int} (h : k < 1 ∨ pt c.bt.toNat 0 < k) : qnC c pt k = 6 ∧ qnL c pt k = [] ∧ qnV c pt k = 0 := by
  have e1 : qnC c pt k = 6 := by unfold qnC; rw [if_pos h]
  have e2 : qnL c pt k = [] := by unfold qnL; rw [if_neg (by omega)]
  exact ⟨e1, e2, by unfold qnV; rw [e2]; rfl⟩
end Go.Proofs.YtkflggojiiebeaaGreat.Qnt

namespace Go.Proofs.YtkflggojiiebeaaGreat.Hvy
open Go Go.RowKit Lw Grd Lin Con Shp Sk Exa Lev Stk Pcs Spn Qnt
set_option linter.unusedVariables false
theorem foundQ_len (pt : Nat → Int → Int) (least : Int) (B : Nat) : (foundQ pt least B (B + 1)).length ≤ countQ pt least B (B + 1) := by
  have h : ∀ d : Nat, (foundQ pt least B d).length ≤ countQ pt least B d := by
    intro d
    induction d with
    | zero => exact Nat.le_refl _
    | succ d ih =>
      show (foundQ pt least B d ++ tellQ pt least (B - d) (askQ pt least B d)).length ≤ countQ pt least B d + (askQ pt least B d).length
      rw [List.length_append]
      have h2 : (tellQ pt least (B - d) (askQ pt least B d)).length ≤ (askQ pt least B d).length := by
        unfold tellQ
        rw [List.length_map]
        exact List.length_filter_le _ _
      omega
  exact h (B + 1)
end Go.Proofs.YtkflggojiiebeaaGreat.Hvy

namespace Go.Proofs.YtkflggojiiebeaaGreat.Qnt
open Go Go.RowKit Lw
set_option linter.unusedVariables false
/-- The j-th cell of the array whose first pieces are these. -/
def celP (ps : List (Nat × Nat)) (j : Nat) : Value := if j % 2 = 0 then .int .i64 ((((ps[j / 2]?).map (fun p => p.1)).getD 0 : Nat) : Int) else .int .u64 ((((ps[j / 2]?).map (fun p => p.2)).getD 0 : Nat) : Int)
def arrP (ps : List (Nat × Nat)) : Array Value := ((List.range 120).map (celP ps)).toArray
theorem arrP_size (ps : List (Nat × Nat)) : (arrP ps).size = 120 := by unfold arrP; simp
theorem arrP_get {ps : List (Nat × Nat)} {j : Nat} (h : j < 120) : (arrP ps)[j]? = some (celP ps j) := by
  unfold arrP
  rw [List.getElem?_toArray, List.getElem?_map, List.getElem?_range h]
  rfl
theorem celP_lev {ps : List (Nat × Nat)} {j : Nat} {p : Nat × Nat} (h : ps[j]? = some p) : celP ps (j * 2) = .int .i64 (p.1 : Int) := by
  unfold celP
  rw [if_pos (by omega), Nat.mul_div_cancel _ (by omega), h]
  rfl
theorem celP_ix {ps : List (Nat × Nat)} {j : Nat} {p : Nat × Nat} (h : ps[j]? = some p) : celP ps (j * 2 + 1) = .int .u64 (p.2 : Int) := by
  have e : (j * 2 + 1) / 2 = j := by omega
  unfold celP
  rw [if_neg (by omega), e, h]
  rfl
theorem celP_one (ps : List (Nat × Nat)) (j : Nat) : (celP ps j).oneCell' = true := by
  unfold celP
  split <;> rfl
theorem arrP_one (ps : List (Nat × Nat)) : (arrP ps).all (·.oneCell') = true := by
  rw [Array.all_eq_true_iff_forall_mem]
  intro v hv
  unfold arrP at hv
  simp only [List.mem_toArray, List.mem_map] at hv
  obtain ⟨j, -, rfl⟩ := hv
  exact celP_one ps j
/-- One piece more. -/
theorem arrP_set {ps : List (Nat × Nat)} {j L i : Nat} (hl : ps.length = j) (hj : j < 60) : ((arrP ps).setIfInBounds (j * 2) (.int .i64 (L : Int))).setIfInBounds (j * 2 + 1) (.int .u64 (i : Int)) = arrP (ps ++ [(L, i)]) := by
  apply Array.ext_getElem?
  intro m
  rw [Array.getElem?_setIfInBounds, Array.getElem?_setIfInBounds]
  have hat : (ps ++ [(L, i)])[j]? = some (L, i) := by
    subst hl
    rw [List.getElem?_append_right (Nat.le_refl _)]
    simp
  by_cases hm : m < 120
  · rw [arrP_get hm, arrP_get hm]
    by_cases h1 : j * 2 + 1 = m
    · subst h1
      rw [if_pos rfl, if_pos (by rw [Array.size_setIfInBounds, arrP_size]; exact hm), celP_ix hat]
    · rw [if_neg h1]
      by_cases h2 : j * 2 = m
      · subst h2
        rw [if_pos rfl, if_pos (by rw [arrP_size]; exact hm), celP_lev hat]
      · rw [if_neg h2]
        congr 1
        unfold celP
        have h3 : m / 2 ≠ j := by omega
        have h4 : (ps ++ [(L, i)])[m / 2]? = ps[m / 2]? := by
          by_cases h5 : m / 2 < ps.length
          · rw [List.getElem?_append_left h5]
          · rw [List.getElem?_eq_none (by rw [List.length_append, List.length_singleton]; omega), List.getElem?_eq_none (by omega)]
        rw [h4]
  · have h1 : ¬ j * 2 + 1 = m := by omega
    have h2 : ¬ j * 2 = m := by omega
    rw [if_neg h1, if_neg h2, Array.getElem?_eq_none (by rw [arrP_size]; omega), Array.getElem?_eq_none (by rw [arrP_size]; omega)]
theorem celP_nil (j : Nat) : celP [] j = if j % 2 = 0 then .int .i64 0 else .int .u64 0 := by
  unfold celP
  split <;> rfl
theorem celP_nil_ix (j : Nat) : celP [] (j * 2 + 1) = .int .u64 0 := by
  rw [celP_nil, if_neg (by omega)]
theorem way_size : (Tryz.prog.info? 164).map (·.size) = some 120 := by kernel_rfl
theorem way_und : Tryz.prog.underlying 164 = some (.array 60 82) := by kernel_rfl
theorem way_zero : Tryz.zeroCells164 = arrP [] := by kernel_rfl
end Go.Proofs.YtkflggojiiebeaaGreat.Qnt

namespace Go.Proofs.YtkflggojiiebeaaGreat.Smr
open Go Go.RowKit Lw Grd Lin Con Shp Sk Exa Lev Stk Pcs Spn Qnt Hvy
set_option linter.unusedVariables false
set_option linter.unusedSimpArgs false
/-- The first error of many answers, from the left. -/
def manyC {α β : Type} (f : α → β × Int) : List α → Int
  | [] => 0
  | q :: qs => if (f q).2 = 0 then manyC f qs else (f q).2
def manyL {α β : Type} (f : α → β × Int) (l : List α) : List β := if manyC f l = 0 then l.map (fun q => (f q).1) else []
theorem manyC_ok {α β : Type} {f : α → β × Int} : ∀ {l : List α}, (∀ q ∈ l, (f q).2 = 0) → manyC f l = 0
  | [], _ => rfl
  | q :: qs, h => by
    show (if (f q).2 = 0 then manyC f qs else (f q).2) = 0
    rw [if_pos (h q (by simp))]
    exact manyC_ok (fun p hp => h p (by simp [hp]))
theorem many_ok {α β : Type} {f : α → β × Int} {l : List α} (h : ∀ q ∈ l, (f q).2 = 0) : manyC f l = 0 ∧ manyL f l = l.map (fun q => (f q).1) := by
  have h1 := manyC_ok h
  exact ⟨h1, by unfold manyL; rw [if_pos h1]⟩
theorem manyC_at {α β : Type} {f : α → β × Int} : ∀ {l : List α} {t : Nat} {q : α}, l[t]? = some q → (∀ p ∈ l.take t, (f p).2 = 0) → (f q).2 ≠ 0 → manyC f l = (f q).2
  | [], t, q, h, _, _ => by simp at h
  | p :: ps, 0, q, h, _, hn => by
    have e : p = q := by simpa using h
    subst e
    exact if_neg hn
  | p :: ps, t + 1, q, h, ha, hn => by
    show (if (f p).2 = 0 then manyC f ps else (f p).2) = _
    rw [if_pos (ha p (by simp))]
    exact manyC_at (by simpa using h) (fun x hx => ha x (by simp [hx])) hn
theorem many_at {α β : Type} {f : α → β × Int} {l : List α} {t : Nat} {q : α} (h : l[t]? = some q) (ha : ∀ p ∈ l.take t, (f p).2 = 0) (hn : (f q).2 ≠ 0) : manyC f l = (f q).2 ∧ manyL f l = [] := by
  have h1 := manyC_at h ha hn
  exact ⟨h1, by unfold manyL; rw [h1, if_neg hn]⟩
theorem take_next {α : Type} {l : List α} {t : Nat} {q : α} (h : l[t]? = some q) : l.take (t + 1) = l.take t ++ [q] := by
  rw [List.take_add_one, h]
  rfl
theorem all_next {α : Type} {p : α → Prop} {l : List α} {t : Nat} {q : α} (h : l[t]? = some q) (ha : ∀ x ∈ l.take t, p x) (hq : p q) : ∀ x ∈ l.take (t + 1), p x := by
  intro x hx
  rw [take_next h] at hx
  rcases List.mem_append.1 hx with h1 | h1
  · exact ha x h1
  · rw [List.mem_singleton.1 h1]; exact hq
/-- Is each of the cuts above the one ahead of it? -/
def riseB (l : List Int) : Bool := decide (∀ i, i < l.length - 1 → l.getD i 0 < l.getD (i + 1) 0)
/-- Does each of them leave keys on both of its sides? -/
def innB (K : Int) (l : List Int) : Bool := decide (∀ x ∈ l, 1 ≤ x ∧ x < K)
def cutC (K : Int) (l : List Int) : Int := if riseB l = true then (if innB K l = true then 0 else 2) else 1
def loQ (l : List Int) (i : Nat) : Int := if i = 0 then 0 else l.getD (i - 1) 0
def hiQ (K : Int) (l : List Int) (i : Nat) : Int := if i < l.length then l.getD i 0 - 1 else K - 1
/-- The spans into which cuts part so many keys. -/
def spansQ (K : Int) (l : List Int) : List (Int × Int) := (List.range (l.length + 1)).map (fun i => (loQ l i, hiQ K l i))
theorem spansQ_len (K : Int) (l : List Int) : (spansQ K l).length = l.length + 1 := by unfold spansQ; simp
theorem spansQ_at {K : Int} {l : List Int} {i : Nat} (h : i ≤ l.length) : (spansQ K l)[i]? = some (loQ l i, hiQ K l i) := by
  unfold spansQ
  rw [List.getElem?_map, List.getElem?_range (by omega)]
  rfl
theorem rise_no {l : List Int} {i : Nat} {a b : Int} (h1 : l[i]? = some a) (h2 : l[i + 1]? = some b) (h : b ≤ a) : riseB l = false := by
  refine decide_eq_false (fun hh => ?_)
  have h3 := hh i (by have := (List.getElem?_eq_some_iff.1 h2).1; omega)
  rw [List.getD_eq_getElem?_getD, List.getD_eq_getElem?_getD, h1, h2] at h3
  simp at h3
  omega
theorem rise_yes {l : List Int} (h : ∀ (i : Nat) (a b : Int), l[i]? = some a → l[i + 1]? = some b → a < b) : riseB l = true := by
  refine decide_eq_true (fun i hi => ?_)
  have e1 : l[i]? = some l[i] := List.getElem?_eq_getElem (by omega)
  have e2 : l[i + 1]? = some l[i + 1] := List.getElem?_eq_getElem (by omega)
  rw [List.getD_eq_getElem?_getD, List.getD_eq_getElem?_getD, e1, e2]
  exact h i _ _ e1 e2
theorem rise_at {l : List Int} (h : riseB l = true) {i : Nat} {a b : Int} (h1 : l[i]? = some a) (h2 : l[i + 1]? = some b) : a < b := by
  have h3 := of_decide_eq_true h i (by have := (List.getElem?_eq_some_iff.1 h2).1; omega)
  rw [List.getD_eq_getElem?_getD, List.getD_eq_getElem?_getD, h1, h2] at h3
  exact h3
theorem inn_no {K : Int} {l : List Int} {x : Int} (hx : x ∈ l) (h : ¬ (1 ≤ x ∧ x < K)) : innB K l = false := decide_eq_false (fun hh => h (hh x hx))
theorem inn_yes {K : Int} {l : List Int} (h : ∀ x ∈ l, 1 ≤ x ∧ x < K) : innB K l = true := decide_eq_true h
theorem cut_arg {K : Int} {l : List Int} (h : riseB l = false) : cutC K l = 1 := by unfold cutC; rw [h]; rfl
theorem cut_key {K : Int} {l : List Int} (h : riseB l = true) (h2 : innB K l = false) : cutC K l = 2 := by unfold cutC; rw [h, h2]; rfl
theorem cut_ok {K : Int} {l : List Int} (h : riseB l = true) (h2 : innB K l = true) : cutC K l = 0 := by unfold cutC; rw [h, h2]; rfl
theorem loQ_zero (l : List Int) : loQ l 0 = 0 := if_pos rfl
theorem loQ_next {l : List Int} {t : Nat} {a : Int} (h : l[t]? = some a) : loQ l (t + 1) = a := by
  unfold loQ
  rw [if_neg (by omega), List.getD_eq_getElem?_getD, Nat.add_sub_cancel, h]
  rfl
theorem hiQ_at {K : Int} {l : List Int} {t : Nat} {a : Int} (h : l[t]? = some a) : hiQ K l t = a - 1 := by
  unfold hiQ
  rw [if_pos (List.getElem?_eq_some_iff.1 h).1, List.getD_eq_getElem?_getD, h]
  rfl
theorem hiQ_last (K : Int) (l : List Int) : hiQ K l l.length = K - 1 := if_neg (by omega)
theorem spansQ_last (K : Int) (l : List Int) : spansQ K l = (spansQ K l).take l.length ++ [(loQ l l.length, K - 1)] := by
  have h := take_next (spansQ_at (K := K) (l := l) (Nat.le_refl _))
  rw [hiQ_last, List.take_of_length_le (by rw [spansQ_len]; omega)] at h
  exact h
/-- The spans of cuts that are let be. -/
theorem span_in {K : Int} {l : List Int} (hK : 1 ≤ K) (h : innB K l = true) (hr : riseB l = true) {i : Nat} (hi : i ≤ l.length) : 0 ≤ loQ l i ∧ loQ l i ≤ hiQ K l i ∧ hiQ K l i < K := by
  have hin := of_decide_eq_true h
  have hlo : loQ l i = 0 ∨ ∃ a, l[i - 1]? = some a ∧ 0 < i ∧ loQ l i = a := by
    by_cases h0 : i = 0
    · subst h0; exact .inl rfl
    · obtain ⟨j, rfl⟩ : ∃ j, i = j + 1 := ⟨i - 1, by omega⟩
      have e : l[j]? = some l[j] := List.getElem?_eq_getElem (by omega)
      exact .inr ⟨_, e, by omega, loQ_next e⟩
  by_cases hl : i < l.length
  · have e : l[i]? = some l[i] := List.getElem?_eq_getElem hl
    have hb := hin _ (List.mem_of_getElem? e)
    rw [hiQ_at e]
    rcases hlo with h1 | ⟨a, ha, h0, h1⟩
    · rw [h1]; omega
    · have hab := hin _ (List.mem_of_getElem? ha)
      have := rise_at hr ha (by rw [show i - 1 + 1 = i by omega]; exact e)
      rw [h1]; omega
  · obtain rfl : i = l.length := by omega
    rw [hiQ_last]
    rcases hlo with h1 | ⟨a, ha, h0, h1⟩
    · rw [h1]; omega
    · have hab := hin _ (List.mem_of_getElem? ha)
      rw [h1]; omega
noncomputable def rgF (c : Cfg) (pt : Nat → Int → Int) (s : Int × Int) : Int × Int := (rgV c pt s.1 s.2, rgC c pt s.1 s.2)
def qnF (c : Cfg) (pt : Nat → Int → Int) (k : Int) : Int × Int := (qnV c pt k, qnC c pt k)
noncomputable def hgC (c : Cfg) (pt : Nat → Int → Int) (l : List Int) : Int := if cutC (keys c 0) l = 0 then manyC (rgF c pt) (spansQ (keys c 0) l) else cutC (keys c 0) l
noncomputable def hgL (c : Cfg) (pt : Nat → Int → Int) (l : List Int) : List Int := if cutC (keys c 0) l = 0 then manyL (rgF c pt) (spansQ (keys c 0) l) else []
theorem hg_no {c : Cfg} {pt : Nat → Int → Int} {l : List Int} (h : cutC (keys c 0) l ≠ 0) : hgC c pt l = cutC (keys c 0) l ∧ hgL c pt l = [] := ⟨if_neg h, if_neg h⟩
theorem hg_yes {c : Cfg} {pt : Nat → Int → Int} {l : List Int} (h : cutC (keys c 0) l = 0) : hgC c pt l = manyC (rgF c pt) (spansQ (keys c 0) l) ∧ hgL c pt l = manyL (rgF c pt) (spansQ (keys c 0) l) := ⟨if_pos h, if_pos h⟩
end Go.Proofs.YtkflggojiiebeaaGreat.Smr

namespace Go.Proofs.YtkflggojiiebeaaGreat.Smr
open Go Go.RowKit Lw Grd Lin Con Shp Sk Exa Lev Stk Pcs Spn Qnt Hvy
set_option linter.unusedVariables false
set_option linter.unusedSimpArgs false
def encK (x : Nat × Int) : List Value := [.int .i64 0, .int .u64 (x.1 : Int), .int .i64 x.2]
def cfK (a b : Nat × Int) : Int := if Lib.compareInt b.2 a.2 = 0 then Lib.compareInt (a.1 : Int) (b.1 : Int) else Lib.compareInt b.2 a.2
def ltK (x y : Nat × Int) : Bool := decide (y.2 < x.2 ∨ (x.2 = y.2 ∧ x.1 < y.1))
theorem cmp_cases (x y : Int) : (x < y ∧ Lib.compareInt x y = -1) ∨ (x = y ∧ Lib.compareInt x y = 0) ∨ (y < x ∧ Lib.compareInt x y = 1) := by
  unfold Lib.compareInt
  by_cases h1 : x < y
  · exact .inl ⟨h1, by simp [h1]⟩
  · by_cases h2 : y < x
    · exact .inr (.inr ⟨h2, by simp [h1, h2]⟩)
    · exact .inr (.inl ⟨by omega, by simp [h1, h2]⟩)
theorem ltOf_K (x y : Nat × Int) : Go.Proofs.ltOf cfK x y = ltK x y := by
  unfold Go.Proofs.ltOf cfK ltK
  rcases cmp_cases y.2 x.2 with ⟨h, e⟩ | ⟨h, e⟩ | ⟨h, e⟩
  · rw [e, if_neg (by decide)]; simp [h]
  · rw [e, if_pos rfl]
    rcases cmp_cases (x.1 : Int) (y.1 : Int) with ⟨h2, e2⟩ | ⟨h2, e2⟩ | ⟨h2, e2⟩
    · rw [e2]; simp; omega
    · rw [e2]; simp; omega
    · rw [e2]; simp; omega
  · rw [e, if_neg (by decide)]; simp; omega
theorem ltK_iff {x y : Nat × Int} : ltK x y = true ↔ (y.2 < x.2 ∨ (x.2 = y.2 ∧ x.1 < y.1)) := by unfold ltK; simp
theorem ltK_no {x y : Nat × Int} : ltK x y = false ↔ ¬ (y.2 < x.2 ∨ (x.2 = y.2 ∧ x.1 < y.1)) := by unfold ltK; simp
theorem ltK_total {x y : Nat × Int} (h1 : ltK x y = false) (h2 : ltK y x = false) : x = y := by
  rw [ltK_no] at h1 h2
  obtain ⟨a, b⟩ := x
  obtain ⟨a2, b2⟩ := y
  simp only at h1 h2
  have e1 : b = b2 := by omega
  have e2 : a = a2 := by omega
  rw [e1, e2]
theorem ltK_trans {x y z : Nat × Int} (h1 : ltK x y = true) (h2 : ltK y z = true) : ltK x z = true := by
  rw [ltK_iff] at *
  omega
theorem swoK : Sort.SWO (Go.Proofs.ltOf cfK) where
  irrefl x := by rw [ltOf_K, ltK_no]; omega
  trans x y z h1 h2 := by rw [ltOf_K] at *; exact ltK_trans h1 h2
  ntrans x y z h1 h2 := by rw [ltOf_K] at *; rw [ltK_no] at *; omega
/-- The keys among what is told. -/
def keysK (l : List ((Nat × Nat) × Int)) : List (Nat × Int) := (l.filter (fun q => decide (q.1.1 = 0))).map (fun q => (q.1.2, q.2))
theorem mem_keysK {l : List ((Nat × Nat) × Int)} {x : Nat × Int} : x ∈ keysK l ↔ ((0, x.1), x.2) ∈ l := by
  unfold keysK
  rw [List.mem_map]
  constructor
  · rintro ⟨q, hq, rfl⟩
    obtain ⟨h1, h2⟩ := List.mem_filter.1 hq
    obtain ⟨⟨a, b⟩, v⟩ := q
    have : a = 0 := by simpa using h2
    subst this
    exact h1
  · intro h
    exact ⟨_, List.mem_filter.2 ⟨h, by simp⟩, rfl⟩
def sortK (l : List ((Nat × Nat) × Int)) : List (Nat × Int) := (keysK l).mergeSort (fun x y => !(Go.Proofs.ltOf cfK y x))
theorem sortK_perm (l : List ((Nat × Nat) × Int)) : (sortK l).Perm (keysK l) := List.mergeSort_perm _ _
theorem sortK_len (l : List ((Nat × Nat) × Int)) : (sortK l).length = (keysK l).length := (sortK_perm l).length_eq
theorem mem_sortK {l : List ((Nat × Nat) × Int)} {x : Nat × Int} : x ∈ sortK l ↔ ((0, x.1), x.2) ∈ l := (sortK_perm l).mem_iff.trans mem_keysK
theorem sortK_le (l : List ((Nat × Nat) × Int)) : (sortK l).Pairwise (fun x y => ltK y x = false) := by
  have h := List.pairwise_mergeSort (le := fun x y => !(Go.Proofs.ltOf cfK y x)) (l := keysK l)
    (fun x y z h1 h2 => by simp only [ltOf_K, Bool.not_eq_true'] at *; rw [ltK_no] at *; omega)
    (fun x y => by simp only [ltOf_K]; cases e : ltK y x with
      | false => rfl
      | true => have : ltK x y = false := by rw [ltK_iff] at e; rw [ltK_no]; omega
                rw [this]; rfl)
  refine h.imp (fun hx => ?_)
  simpa [ltOf_K] using hx
/-- No two keys of a list without doubles are the same; so each stands ahead of the next ones. -/
theorem sortK_lt {l : List ((Nat × Nat) × Int)} (hn : l.Pairwise (fun x y => x.1 ≠ y.1)) : (sortK l).Pairwise (fun x y => ltK x y = true) := by
  have h1 : (keysK l).Pairwise (fun x y => x ≠ y) := by
    unfold keysK
    rw [List.pairwise_map]
    refine (List.pairwise_filter.2 ?_)
    refine hn.imp (fun {a b} hx => ?_)
    intro ha hb e
    have e1 : a.1.2 = b.1.2 := (Prod.mk.inj e).1
    have ha2 : a.1.1 = 0 := by simpa using ha
    have hb2 : b.1.1 = 0 := by simpa using hb
    exact hx (Prod.ext (ha2.trans hb2.symm) e1)
  have h2 : (sortK l).Pairwise (fun x y => x ≠ y) := (sortK_perm l).symm.pairwise h1 (fun h => fun e => h e.symm)
  refine (h2.and (sortK_le l)).imp (fun {x y} h => ?_)
  cases e : ltK x y with
  | true => rfl
  | false => exact absurd (ltK_total e h.2) h.1
noncomputable def tpL (c : Cfg) (pt : Nat → Int → Int) (n least bud : Int) : List (Nat × Int) := (sortK (hvL c pt least bud)).take n.toNat
theorem tp_no {c : Cfg} {pt : Nat → Int → Int} {n least bud : Int} (h : hvC c pt least bud ≠ 0) : tpL c pt n least bud = [] := by
  have h1 : hvL c pt least bud = [] := if_neg h
  unfold tpL
  rw [h1]
  have h2 : sortK [] = [] := List.eq_nil_of_length_eq_zero (by rw [sortK_len]; rfl)
  rw [h2, List.take_nil]
/-- The greatest one of those that are left is the next one. -/
theorem next_best {l : List ((Nat × Nat) × Int)} (hn : l.Pairwise (fun x y => x.1 ≠ y.1)) {k : Nat} {x : Nat × Int} (hx : x ∈ sortK l) (hk : x ∉ (sortK l).take k) (hb : ∀ y ∈ sortK l, y ∉ (sortK l).take k → ltK y x = false) : (sortK l)[k]? = some x := by
  have hp := sortK_lt hn
  obtain ⟨j, hj⟩ := List.getElem?_of_mem hx
  have hjl := (List.getElem?_eq_some_iff.1 hj).1
  have hkj : k ≤ j := by
    rcases Nat.lt_or_ge j k with h | h
    · exact absurd (List.mem_of_getElem? (l := (sortK l).take k) (i := j) (by rw [List.getElem?_take, if_pos h]; exact hj)) hk
    · exact h
  have hkl : k < (sortK l).length := by omega
  have ek : (sortK l)[k]? = some (sortK l)[k] := List.getElem?_eq_getElem hkl
  have hne : (sortK l)[k] ∉ (sortK l).take k := by
    intro hm
    obtain ⟨i, hi⟩ := List.getElem?_of_mem hm
    have hik := (List.getElem?_eq_some_iff.1 hi).1
    rw [List.length_take] at hik
    rw [List.getElem?_take, if_pos (by omega)] at hi
    have h3 := List.pairwise_iff_getElem.1 hp i k (by omega) hkl (by omega)
    have e3 : (sortK l)[i]'(by omega) = (sortK l)[k] := (List.getElem?_eq_some_iff.1 hi).2
    rw [e3, ltK_iff] at h3
    omega
  have h4 := hb _ (List.getElem_mem hkl) hne
  by_cases hjk : j = k
  · rw [← hjk]; exact hj
  · have h5 := List.pairwise_iff_getElem.1 hp k j hkl hjl (by omega)
    have e5 : (sortK l)[j] = x := (List.getElem?_eq_some_iff.1 hj).2
    rw [e5] at h5
    rw [h5] at h4
    cases h4
end Go.Proofs.YtkflggojiiebeaaGreat.Smr

namespace Go.Proofs.YtkflggojiiebeaaGreat.Smr
open Go Go.RowKit Go.Shelf
set_option maxRecDepth 1000000
def sortL_ren : Go.Shelf.Ren := ⟨fun | 6 => 74 | 15 => 108 | 14 => 107 | 28 => 141 | 29 => 142 | 20 => 133 | 21 => 134 | 22 => 135 | 23 => 136 | 24 => 137 | 25 => 138 | 26 => 139 | 27 => 140 | 46 => 156 | 47 => 157 | 48 => 158 | 49 => 159 | 50 => 160 | 57 => 167 | n => n, fun | 22 => 39 | 24 => 85 | 25 => 161 | 3 => 3 | 39 => 95 | 0 => 0 | 53 => 244 | 55 => 22 | 4 => 4 | 46 => 237 | 45 => 236 | 50 => 241 | 5 => 5 | 9 => 9 | 66 => 257 | 70 => 261 | 76 => 266 | 77 => 267 | n => n, fun | n => n⟩
theorem sortL : Go.Proofs.SlLaysF0.n6 Tryz.prog sortL_ren := {
  mixed := by kernel_rfl,
  f6 := ⟨Tryz.f74.name, by decide, Tryz.func74.trans (congrArg some (by kernel_rfl))⟩,
  f14 := ⟨Tryz.f107.name, by decide, Tryz.func107.trans (congrArg some (by kernel_rfl))⟩,
  f15 := Tryz.func108.trans (congrArg some (by kernel_rfl)),
  f20 := ⟨Tryz.f133.name, by decide, Tryz.func133.trans (congrArg some (by kernel_rfl))⟩,
  f21 := ⟨Tryz.f134.name, by decide, Tryz.func134.trans (congrArg some (by kernel_rfl))⟩,
  f22 := ⟨Tryz.f135.name, by decide, Tryz.func135.trans (congrArg some (by kernel_rfl))⟩,
  f23 := ⟨Tryz.f136.name, by decide, Tryz.func136.trans (congrArg some (by kernel_rfl))⟩,
  f24 := ⟨Tryz.f137.name, by decide, Tryz.func137.trans (congrArg some (by kernel_rfl))⟩,
  f25 := ⟨Tryz.f138.name, by decide, Tryz.func138.trans (congrArg some (by kernel_rfl))⟩,
  f26 := ⟨Tryz.f139.name, by decide, Tryz.func139.trans (congrArg some (by kernel_rfl))⟩,
  f27 := ⟨Tryz.f140.name, by decide, Tryz.func140.trans (congrArg some (by kernel_rfl))⟩,
  f28 := Tryz.func141.trans (congrArg some (by kernel_rfl)),
  f29 := Tryz.func142.trans (congrArg some (by kernel_rfl)),
  f46 := ⟨Tryz.f156.name, by decide, Tryz.func156.trans (congrArg some (by kernel_rfl))⟩,
  f47 := Tryz.func157.trans (congrArg some (by kernel_rfl)),
  f48 := Tryz.func158.trans (congrArg some (by kernel_rfl)),
  f49 := ⟨Tryz.f159.name, by decide, Tryz.func159.trans (congrArg some (by kernel_rfl))⟩,
  f50 := ⟨Tryz.f160.name, by decide, Tryz.func160.trans (congrArg some (by kernel_rfl))⟩,
  f57 := ⟨Tryz.f167.name, by decide, Tryz.func167.trans (congrArg some (by kernel_rfl))⟩,
  t0 := Tryz.underlying0,
  a0 := Tryz.isAgg0,
  z0 := Tryz.sizeOf0,
  v0 := Tryz.zeroValue0,
  t3 := Tryz.underlying3,
  a3 := Tryz.isAgg3,
  z3 := Tryz.sizeOf3,
  v3 := Tryz.zeroValue3,
  t4 := Tryz.underlying4,
  a4 := Tryz.isAgg4,
  z4 := Tryz.sizeOf4,
  v4 := Tryz.zeroValue4,
  t5 := Tryz.underlying5,
  a5 := Tryz.isAgg5,
  z5 := Tryz.sizeOf5,
  v5 := Tryz.zeroValue5,
  t9 := Tryz.underlying9,
  a9 := Tryz.isAgg9,
  z9 := Tryz.sizeOf9,
  v9 := Tryz.zeroValue9,
  t22 := Tryz.underlying39,
  a22 := Tryz.isAgg39,
  z22 := Tryz.sizeOf39,
  v22 := Tryz.zeroValue39,
  t25 := Tryz.underlying161,
  a25 := Tryz.isAgg161,
  z25 := Tryz.sizeOf161,
  v25 := Tryz.zeroValue161,
  t39 := Tryz.underlying95,
  a39 := Tryz.isAgg95,
  z39 := Tryz.sizeOf95,
  v39 := Tryz.zeroValue95,
  t45 := Tryz.underlying236,
  a45 := Tryz.isAgg236,
  z45 := Tryz.sizeOf236,
  v45 := Tryz.zeroValue236,
  t46 := Tryz.underlying237,
  a46 := Tryz.isAgg237,
  z46 := Tryz.sizeOf237,
  v46 := Tryz.zeroValue237,
  t50 := Tryz.underlying241,
  a50 := Tryz.isAgg241,
  z50 := Tryz.sizeOf241,
  v50 := Tryz.zeroValue241,
  t53 := Tryz.underlying244,
  a53 := Tryz.isAgg244,
  z53 := Tryz.sizeOf244,
  v53 := Tryz.zeroValue244,
  t55 := Tryz.underlying22,
  a55 := Tryz.isAgg22,
  z55 := Tryz.sizeOf22,
  v55 := Tryz.zeroValue22,
  t66 := Tryz.underlying257,
  a66 := Tryz.isAgg257,
  z66 := Tryz.sizeOf257,
  v66 := Tryz.zeroValue257,
  t70 := Tryz.underlying261,
  a70 := Tryz.isAgg261,
  z70 := Tryz.sizeOf261,
  v70 := Tryz.zeroValue261,
  t76 := Tryz.underlying266,
  a76 := Tryz.isAgg266,
  z76 := Tryz.sizeOf266,
  v76 := Tryz.zeroValue266,
  t77 := Tryz.underlying267,
  a77 := Tryz.isAgg267,
  z77 := Tryz.sizeOf267,
  v77 := Tryz.zeroValue267 }
end Go.Proofs.YtkflggojiiebeaaGreat.Smr

namespace Go.Proofs.YtkflggojiiebeaaGreat.Spn
open Go Go.RowKit Lw Grd Lin Con Shp Sk Exa Lev Stk Pcs
set_option linter.unusedVariables false
theorem parts_in16 {w : World} {p : Addr} {F : Nat → Prop} {c : Cfg} {sts : List LS} (h : ST w p F c sts) (lo hi : Int) : In64 (ptL c (fun L i => spV c sts (L : Int) i) lo hi) := by
  unfold ptL
  split
  · unfold parts
    intro v hv
    obtain ⟨q, hq, rfl⟩ := List.mem_map.1 hv
    exact sp_in16 h _ _
  · intro v hv
    simp at hv
theorem parts_len16 {c : Cfg} (hr : IsRight c) (pt : Nat → Int → Int) (lo hi : Int) (lo0 : 0 ≤ lo) : (ptL c pt lo hi).length ≤ 1000 := by
  unfold ptL
  split
  next h =>
    have hb := hr.1
    have hb2 := hr.2.1
    have h1 : ¬ hi < lo := fun h1 => by unfold ptC2 at h; rw [if_pos h1] at h; exact absurd h (by decide)
    have h2 : ¬ keys c 0 ≤ hi := fun h2 => by unfold ptC2 at h; rw [if_neg h1, if_pos h2] at h; exact absurd h (by decide)
    have e0 : keys c 0 = 2 ^ (c.bt - 0).toNat := keys_yes hr (by omega) (by omega)
    have e9 : (c.bt - 0).toNat = c.bt.toNat := by omega
    rw [e9] at e0
    have h5 : ((2 ^ c.bt.toNat : Nat) : Int) = 2 ^ c.bt.toNat := by simp
    unfold parts
    rw [List.length_map]
    unfold covL
    split
    next hx =>
      have h3 := (Classical.choose_spec hx).len (by omega) (by omega)
      omega
    next => simp
  next => simp
end Go.Proofs.YtkflggojiiebeaaGreat.Spn

namespace Go.Proofs.YtkflggojiiebeaaGreat.Stk
open Go Go.RowKit Lw Grd Lin Con Shp Sk Exa Lev Go.Shelf
set_option linter.unusedVariables false
set_option linter.unusedSimpArgs false
theorem cs_total (p : Addr) (F : Nat → Prop) (c : Cfg) (sts : List LS) (w : World) (h : ST w p F c sts) :
    Calls Tryz.prog 38 #[.pointer (some p)] w fun e w' => e = .returned (.int .i64 (spV c sts c.bt 0)) ∧ Below w.heap.size w w' := by
  have HS := Lib.hid h
  obtain ⟨hr, hc, hl, b, B0, hdr, vals, ts, rfl, hrow, hI, rfl⟩ := h
  have HH := Lib.hid (st_hold hrow hI)
  have hb1 := hr.1
  have hb2 := hr.2.1
  have hvl : vals.length = c.bt.toNat + 1 := hrow.lv.trans hl
  obtain ⟨g, cap, rfl, hcap, hmx, hcs⟩ := own_cell (HH.out.i (t := ownT B0 107 hdr vals) (by simp)) (by omega)
  have HCS := Lib.hid hcs
  have c0 := box_cell (HH.out.i (t := skB b c (.slice (some ⟨g, 0, none⟩) vals.length cap)) (by simp)) (i := 0) rfl
  have CP := Lib.hid (cs_point _ _ c sts c.bt 0 w HS.out (by omega) (by omega) (by omega) (by omega))
  clear hrow hI hcs hvl
  go_enter Tryz.func38, Tryz.ntmps38
  go_wp2_with (go_at_call 77; (with_reducible refine CP.out.mono ?_); rintro e w5 ⟨rfl, hb⟩)
  go_ret
  exact ⟨rfl, hb⟩
end Go.Proofs.YtkflggojiiebeaaGreat.Stk

namespace Go.Proofs.YtkflggojiiebeaaGreat.Qnt
open Go Go.RowKit Lw Grd Lin Con Shp Sk Exa Lev Stk Pcs Spn
set_option linter.unusedVariables false
set_option linter.unusedSimpArgs false
theorem fld_btq (c : Cfg) (w : World) : (Instr.field 24 (.agg #[.int .i64 c.bt, .int .i64 c.rw, .int .i64 c.wd, .int .i64 c.md, .int .u64 c.sd]) 0).run Tryz.prog w = .ok (.int .i64 c.bt) w := by kernel_rfl
theorem blk_set {X : World} {b : Nat} {e : TypeId} {vs : Array Value} (h : X.heap[b]? = some (.cells vs e (0, 0))) (i : Nat) (v : Value) : (X.setCell ⟨b, i, none⟩ v).heap[b]? = some (.cells (vs.setIfInBounds i v) e (0, 0)) := by
  simp [World.setCell, Array.getElem?_modify, h]
set_option maxRecDepth 100000 in
set_option maxHeartbeats 4000000 in
theorem qhalf_l (p : Addr) (F : Nat → Prop) (c : Cfg) (sts : List LS) (LL II VV k : Int) (w : World) (h : ST w p F c sts) (hP : isP c.bt LL II = true) (hL : 1 ≤ LL) (hI : 0 ≤ II) (hV : spV c sts (LL - 1) (2 * II) = VV) (hk : k ≤ VV) :
    Calls Tryz.prog 112 #[.pointer (some p), .agg #[.int .i64 LL, .int .u64 II], .int .i64 k] w fun e w' => e = .returned (.tuple #[.agg #[.int .i64 (LL - 1), .int .u64 (2 * II)], .int .i64 k, .bool true]) ∧ Below w.heap.size w w' := by
  have HS := Lib.hid h
  obtain ⟨h1, h2, h3, h4, h5, h6, h7⟩ := isP_bd hP hI
  have h8 := p2_bd (k := (c.bt - LL).toNat) (by omega)
  have CH := Lib.hid (fun w => chalves_y c.bt LL II w (by omega) (by omega) (by omega) (by omega) hI (by omega) hP (by omega))
  have CP := Lib.hid (fun w hs => cs_point p F c sts (LL - 1) (2 * II) w hs (by omega) (by omega) (by omega) (by omega))
  rw [hV] at CP
  have hfd := fld_btq c
  have g1 : decide (k ≤ VV) = true := decide_eq_true hk
  obtain ⟨L1, hL1⟩ : ∃ v, LL - 1 = v := ⟨_, rfl⟩
  obtain ⟨I2, hI2⟩ : ∃ v, 2 * II = v := ⟨_, rfl⟩
  obtain ⟨I3, hI3⟩ : ∃ v, I2 + 1 = v := ⟨_, rfl⟩
  obtain ⟨VC, hVC⟩ : ∃ v, spC c sts L1 I2 = v := ⟨_, rfl⟩
  rw [hL1, hI2] at CP CH
  rw [hVC] at CP
  rw [hI3] at CH
  rw [hL1, hI2]
  clear h hP hL hI hV hL1 hI2 hI3 hVC h1 h2 h3 h4 h5 h6 h7 h8
  go_enter Tryz.func112, Tryz.ntmps112
  go_wp2
  have B0w : Below w.heap.size w ((w.alloc (.cells #[.int .i64 LL, .int .u64 II] 82)).alloc (.cells #[.int .i64 0, .int .u64 0] 82)) := Lw.below_alloc (Lw.below_alloc (Below.refl _ _) _) _
  have q0 : ((w.alloc (.cells #[.int .i64 LL, .int .u64 II] 82)).alloc (.cells #[.int .i64 0, .int .u64 0] 82)).cell? ⟨w.heap.size, 0, none⟩ = some (.int .i64 LL) := by
    rw [World.cell?_alloc_lt _ _ _ (by simp)]
    exact box_cell (heap_alloc_new w _) rfl
  have q1 : ((w.alloc (.cells #[.int .i64 LL, .int .u64 II] 82)).alloc (.cells #[.int .i64 0, .int .u64 0] 82)).cell? ⟨w.heap.size, 1, none⟩ = some (.int .u64 II) := by
    rw [World.cell?_alloc_lt _ _ _ (by simp)]
    exact box_cell (heap_alloc_new w _) rfl
  have r0 : ((w.alloc (.cells #[.int .i64 LL, .int .u64 II] 82)).alloc (.cells #[.int .i64 0, .int .u64 0] 82)).heap[w.heap.size + 1]? = some (.cells #[.int .i64 0, .int .u64 0] 82 (0, 0)) := by
    have := heap_alloc_new (w.alloc (.cells #[.int .i64 LL, .int .u64 II] 82)) (.cells #[.int .i64 0, .int .u64 0] 82)
    simpa using this
  obtain ⟨W, hW⟩ : ∃ W, (w.alloc (.cells #[.int .i64 LL, .int .u64 II] 82)).alloc (.cells #[.int .i64 0, .int .u64 0] 82) = W := ⟨_, rfl⟩
  have hWs : W.heap.size = w.heap.size + 2 := by rw [← hW]; simp
  rw [hW] at B0w q0 q1 r0 ⊢
  clear hW
  have HS1 := Lib.hid (HS.out.up B0w)
  have R0 := Lib.hid r0
  clear r0
  go_cut [9, 10, 11] (fun s9 s10 s11 wx => ∃ a b : Nat, s9 = .pointer (some ⟨a, 0, none⟩) ∧ s10 = .pointer (some ⟨b, 0, none⟩) ∧ s11 = .bool true ∧ Below W.heap.size W wx ∧ wx.heap[a]? = some (.cells #[.int .i64 L1, .int .u64 I2] 82 (0, 0)) ∧ wx.heap[b]? = some (.cells #[.int .i64 L1, .int .u64 I3] 82 (0, 0)))
  case first =>
    go_region_held3 (fun w' => Below W.heap.size W w' ∧ w'.cell? ⟨w.heap.size, 0, none⟩ = some (.int .i64 LL) ∧ w'.cell? ⟨w.heap.size, 1, none⟩ = some (.int .u64 II)) (first | (refine ⟨?_, ?_, ?_⟩ <;> (first | (with_reducible assumption) | (with_reducible refine cell_up q0 ?_) | (with_reducible refine cell_up q1 ?_) | skip) <;> (repeat' (first | (with_reducible first | exact Below.refl _ _ | assumption | refine below_over ?_ _ _ | refine Lw.below_alloc ?_ _ | refine Below.drew ?_ | refine below_drewN ?_ _ | refine Below.setCell ?_ ?_ _) | go_size)))) (first
      | (go_at_call 53; (with_reducible refine (cs_config p F c sts _ (HS1.out.up (by (repeat' (first | (with_reducible first | exact Below.refl _ _ | assumption | refine below_over ?_ _ _ | refine Lw.below_alloc ?_ _ | refine Below.drew ?_ | refine below_drewN ?_ _ | refine Below.setCell ?_ ?_ _) | go_size))))).mono ?_); rintro e w5 ⟨rfl, hb⟩; obtain ⟨bs, d, rfl⟩ := below_grow hb; clear hb)
      | (go_at_call 95; (with_reducible refine (CH.out _).mono ?_); rintro e w5 ⟨rfl, hb⟩; obtain ⟨bs, d, rfl⟩ := below_grow hb; clear hb))
    all_goals go_wp2_with fail
    all_goals go_meet
    all_goals refine ⟨_, _, rfl, rfl, rfl, (by (repeat' (first | (with_reducible first | exact Below.refl _ _ | assumption | refine below_over ?_ _ _ | refine Lw.below_alloc ?_ _ | refine Below.drew ?_ | refine below_drewN ?_ _ | refine Below.setCell ?_ ?_ _) | go_size))), ?_, ?_⟩
    all_goals repeat' (first | (with_reducible refine blk_grow ?_) | (refine blk_new ?_; go_size; done) | (refine blk_new ?_; simp; omega) | (with_reducible refine blk_alloc ?_))
  case rest =>
    obtain ⟨a, b, rfl, rfl, rfl, hb, ha0, hb0⟩ := hcut
    obtain ⟨wo, rfl⟩ : ∃ wo, wo = wc := ⟨_, rfl⟩
    have HBo := Lib.hid (B0w.trans (hb.mono (by omega)))
    have hws := hb.size
    have HS2 := Lib.hid (HS1.out.up hb)
    have HA0 := Lib.hid ha0
    have HB0 := Lib.hid hb0
    have HR0 := Lib.hid (blk_up R0.out hb)
    have a0 := box_cell ha0 (i := 0) rfl
    have a1 := box_cell ha0 (i := 1) rfl
    have hla : a < wo.heap.size := (Array.getElem?_eq_some_iff.1 ha0).1
    have hlb : b < wo.heap.size := (Array.getElem?_eq_some_iff.1 hb0).1
    clear ha0 hb0 q0 q1 hb B0w
    go_wp2_with (go_at_call 77; (with_reducible refine (CP.out _ HS2.out).mono ?_); rintro e w6 ⟨rfl, hb⟩; have HB6 := Lib.hid (HBo.out.trans (hb.mono HBo.out.size)); have HC6 := Lib.hid (blk_up HR0.out hb); have c6 := box_cell HC6.out (i := 0) rfl; have c7 := box_cell HC6.out (i := 1) rfl; have f6 : w6.frozen? ⟨w.heap.size + 1, 0, none⟩ = false := blk_frozen HC6.out 0; have f7 : w6.frozen? ⟨w.heap.size + 1, 1, none⟩ = false := blk_frozen HC6.out 1; have y0 := box_cell (blk_up HA0.out hb) (i := 0) rfl; have y1 := box_cell (blk_up HA0.out hb) (i := 1) rfl; clear hb)
    have HC8 := Lib.hid (blk_set (blk_set HC6.out 0 (.int .i64 L1)) 1 (.int .u64 I2))
    have HB8 : Hid (Below w.heap.size w ((w6.setCell ⟨w.heap.size + 1, 0, none⟩ (.int .i64 L1)).setCell ⟨w.heap.size + 1, 1, none⟩ (.int .u64 I2))) := Lib.hid (by refine Below.setCell (Below.setCell HB6.out ?_ _) ?_ _ <;> simp)
    obtain ⟨w8, hw8⟩ : ∃ w8, (w6.setCell ⟨w.heap.size + 1, 0, none⟩ (.int .i64 L1)).setCell ⟨w.heap.size + 1, 1, none⟩ (.int .u64 I2) = w8 := ⟨_, rfl⟩
    rw [hw8] at HC8 HB8 ⊢
    have v0 := box_cell HC8.out (i := 0) (v := .int .i64 L1) (by simp)
    have v1 := box_cell HC8.out (i := 1) (v := .int .u64 I2) (by simp)
    refine bodyPost_ret (v := .tuple #[.agg #[.int .i64 L1, .int .u64 I2], .int .i64 k, .bool true]) (by simp [results, Tryz.results112, go_sem, v0, v1]) rfl ?_
    exact ⟨rfl, HB8.out⟩
set_option maxRecDepth 100000 in
set_option maxHeartbeats 4000000 in
theorem qhalf_r (p : Addr) (F : Nat → Prop) (c : Cfg) (sts : List LS) (LL II VV k : Int) (w : World) (h : ST w p F c sts) (hP : isP c.bt LL II = true) (hL : 1 ≤ LL) (hI : 0 ≤ II) (hV : spV c sts (LL - 1) (2 * II) = VV) (hk : ¬ k ≤ VV) (k1 : k ≤ 9223372036854775807) (v0 : -9223372036854775808 ≤ VV) :
    Calls Tryz.prog 112 #[.pointer (some p), .agg #[.int .i64 LL, .int .u64 II], .int .i64 k] w fun e w' => e = .returned (.tuple #[.agg #[.int .i64 (LL - 1), .int .u64 (2 * II + 1)], .int .i64 (Wid.f64 (k - VV)), .bool (Wid.fit64 (k - VV))]) ∧ Below w.heap.size w w' := by
  have HS := Lib.hid h
  obtain ⟨h1, h2, h3, h4, h5, h6, h7⟩ := isP_bd hP hI
  have h8 := p2_bd (k := (c.bt - LL).toNat) (by omega)
  have CH := Lib.hid (fun w => chalves_y c.bt LL II w (by omega) (by omega) (by omega) (by omega) hI (by omega) hP (by omega))
  have CP := Lib.hid (fun w hs => cs_point p F c sts (LL - 1) (2 * II) w hs (by omega) (by omega) (by omega) (by omega))
  rw [hV] at CP
  have hfd := fld_btq c
  have g1 : decide (k ≤ VV) = false := decide_eq_false hk
  have CM := Lib.hid (fun w => Wid.minus_any k VV w (by omega) (by omega) (by omega) (by omega))
  obtain ⟨KK, hKK⟩ : ∃ v, Wid.f64 (k - VV) = v := ⟨_, rfl⟩
  obtain ⟨KF, hKF⟩ : ∃ v, Wid.fit64 (k - VV) = v := ⟨_, rfl⟩
  rw [hKK, hKF] at CM
  rw [hKK, hKF]
  obtain ⟨L1, hL1⟩ : ∃ v, LL - 1 = v := ⟨_, rfl⟩
  obtain ⟨I2, hI2⟩ : ∃ v, 2 * II = v := ⟨_, rfl⟩
  obtain ⟨I3, hI3⟩ : ∃ v, I2 + 1 = v := ⟨_, rfl⟩
  obtain ⟨VC, hVC⟩ : ∃ v, spC c sts L1 I2 = v := ⟨_, rfl⟩
  rw [hL1, hI2] at CP CH
  rw [hVC] at CP
  rw [hI3] at CH
  rw [hL1, hI2, hI3]
  clear h hP hL hI hV hKK hKF k1 v0 hL1 hI2 hI3 hVC h1 h2 h3 h4 h5 h6 h7 h8
  go_enter Tryz.func112, Tryz.ntmps112
  go_wp2
  have B0w : Below w.heap.size w ((w.alloc (.cells #[.int .i64 LL, .int .u64 II] 82)).alloc (.cells #[.int .i64 0, .int .u64 0] 82)) := Lw.below_alloc (Lw.below_alloc (Below.refl _ _) _) _
  have q0 : ((w.alloc (.cells #[.int .i64 LL, .int .u64 II] 82)).alloc (.cells #[.int .i64 0, .int .u64 0] 82)).cell? ⟨w.heap.size, 0, none⟩ = some (.int .i64 LL) := by
    rw [World.cell?_alloc_lt _ _ _ (by simp)]
    exact box_cell (heap_alloc_new w _) rfl
  have q1 : ((w.alloc (.cells #[.int .i64 LL, .int .u64 II] 82)).alloc (.cells #[.int .i64 0, .int .u64 0] 82)).cell? ⟨w.heap.size, 1, none⟩ = some (.int .u64 II) := by
    rw [World.cell?_alloc_lt _ _ _ (by simp)]
    exact box_cell (heap_alloc_new w _) rfl
  have r0 : ((w.alloc (.cells #[.int .i64 LL, .int .u64 II] 82)).alloc (.cells #[.int .i64 0, .int .u64 0] 82)).heap[w.heap.size + 1]? = some (.cells #[.int .i64 0, .int .u64 0] 82 (0, 0)) := by
    have := heap_alloc_new (w.alloc (.cells #[.int .i64 LL, .int .u64 II] 82)) (.cells #[.int .i64 0, .int .u64 0] 82)
    simpa using this
  obtain ⟨W, hW⟩ : ∃ W, (w.alloc (.cells #[.int .i64 LL, .int .u64 II] 82)).alloc (.cells #[.int .i64 0, .int .u64 0] 82) = W := ⟨_, rfl⟩
  have hWs : W.heap.size = w.heap.size + 2 := by rw [← hW]; simp
  rw [hW] at B0w q0 q1 r0 ⊢
  clear hW
  have HS1 := Lib.hid (HS.out.up B0w)
  have R0 := Lib.hid r0
  clear r0
  go_cut [9, 10, 11] (fun s9 s10 s11 wx => ∃ a b : Nat, s9 = .pointer (some ⟨a, 0, none⟩) ∧ s10 = .pointer (some ⟨b, 0, none⟩) ∧ s11 = .bool true ∧ Below W.heap.size W wx ∧ wx.heap[a]? = some (.cells #[.int .i64 L1, .int .u64 I2] 82 (0, 0)) ∧ wx.heap[b]? = some (.cells #[.int .i64 L1, .int .u64 I3] 82 (0, 0)))
  case first =>
    go_region_held3 (fun w' => Below W.heap.size W w' ∧ w'.cell? ⟨w.heap.size, 0, none⟩ = some (.int .i64 LL) ∧ w'.cell? ⟨w.heap.size, 1, none⟩ = some (.int .u64 II)) (first | (refine ⟨?_, ?_, ?_⟩ <;> (first | (with_reducible assumption) | (with_reducible refine cell_up q0 ?_) | (with_reducible refine cell_up q1 ?_) | skip) <;> (repeat' (first | (with_reducible first | exact Below.refl _ _ | assumption | refine below_over ?_ _ _ | refine Lw.below_alloc ?_ _ | refine Below.drew ?_ | refine below_drewN ?_ _ | refine Below.setCell ?_ ?_ _) | go_size)))) (first
      | (go_at_call 53; (with_reducible refine (cs_config p F c sts _ (HS1.out.up (by (repeat' (first | (with_reducible first | exact Below.refl _ _ | assumption | refine below_over ?_ _ _ | refine Lw.below_alloc ?_ _ | refine Below.drew ?_ | refine below_drewN ?_ _ | refine Below.setCell ?_ ?_ _) | go_size))))).mono ?_); rintro e w5 ⟨rfl, hb⟩; obtain ⟨bs, d, rfl⟩ := below_grow hb; clear hb)
      | (go_at_call 95; (with_reducible refine (CH.out _).mono ?_); rintro e w5 ⟨rfl, hb⟩; obtain ⟨bs, d, rfl⟩ := below_grow hb; clear hb))
    all_goals go_wp2_with fail
    all_goals go_meet
    all_goals refine ⟨_, _, rfl, rfl, rfl, (by (repeat' (first | (with_reducible first | exact Below.refl _ _ | assumption | refine below_over ?_ _ _ | refine Lw.below_alloc ?_ _ | refine Below.drew ?_ | refine below_drewN ?_ _ | refine Below.setCell ?_ ?_ _) | go_size))), ?_, ?_⟩
    all_goals repeat' (first | (with_reducible refine blk_grow ?_) | (refine blk_new ?_; go_size; done) | (refine blk_new ?_; simp; omega) | (with_reducible refine blk_alloc ?_))
  case rest =>
    obtain ⟨a, b, rfl, rfl, rfl, hb, ha0, hb0⟩ := hcut
    obtain ⟨wo, rfl⟩ : ∃ wo, wo = wc := ⟨_, rfl⟩
    have HBo := Lib.hid (B0w.trans (hb.mono (by omega)))
    have hws := hb.size
    have HS2 := Lib.hid (HS1.out.up hb)
    have HA0 := Lib.hid ha0
    have HB0 := Lib.hid hb0
    have HR0 := Lib.hid (blk_up R0.out hb)
    have a0 := box_cell ha0 (i := 0) rfl
    have a1 := box_cell ha0 (i := 1) rfl
    have hla : a < wo.heap.size := (Array.getElem?_eq_some_iff.1 ha0).1
    have hlb : b < wo.heap.size := (Array.getElem?_eq_some_iff.1 hb0).1
    clear ha0 hb0 q0 q1 hb B0w
    go_wp2_with (first
      | (go_at_call 77; (with_reducible refine (CP.out _ HS2.out).mono ?_); rintro e w5 ⟨rfl, hb⟩; have HB5 := Lib.hid (HBo.out.trans (hb.mono HBo.out.size)); have HC5 := Lib.hid (blk_up HR0.out hb); have HY5 := Lib.hid (blk_up HB0.out hb); clear hb)
      | (go_at_call 145; (with_reducible refine (CM.out _).mono ?_); rintro e w6 ⟨rfl, hb⟩; have HB6 := Lib.hid (HB5.out.trans (hb.mono HB5.out.size)); have HC6 := Lib.hid (blk_up HC5.out hb); have c6 := box_cell HC6.out (i := 0) rfl; have c7 := box_cell HC6.out (i := 1) rfl; have f6 : w6.frozen? ⟨w.heap.size + 1, 0, none⟩ = false := blk_frozen HC6.out 0; have f7 : w6.frozen? ⟨w.heap.size + 1, 1, none⟩ = false := blk_frozen HC6.out 1; have y0 := box_cell (blk_up HY5.out hb) (i := 0) rfl; have y1 := box_cell (blk_up HY5.out hb) (i := 1) rfl; clear hb))
    have HC8 := Lib.hid (blk_set (blk_set HC6.out 0 (.int .i64 L1)) 1 (.int .u64 I3))
    have HB8 : Hid (Below w.heap.size w ((w6.setCell ⟨w.heap.size + 1, 0, none⟩ (.int .i64 L1)).setCell ⟨w.heap.size + 1, 1, none⟩ (.int .u64 I3))) := Lib.hid (by refine Below.setCell (Below.setCell HB6.out ?_ _) ?_ _ <;> simp)
    obtain ⟨w8, hw8⟩ : ∃ w8, (w6.setCell ⟨w.heap.size + 1, 0, none⟩ (.int .i64 L1)).setCell ⟨w.heap.size + 1, 1, none⟩ (.int .u64 I3) = w8 := ⟨_, rfl⟩
    rw [hw8] at HC8 HB8 ⊢
    have v0 := box_cell HC8.out (i := 0) (v := .int .i64 L1) (by simp)
    have v1 := box_cell HC8.out (i := 1) (v := .int .u64 I3) (by simp)
    refine bodyPost_ret (v := .tuple #[.agg #[.int .i64 L1, .int .u64 I3], .int .i64 KK, .bool KF]) (by simp [results, Tryz.results112, go_sem, v0, v1]) rfl ?_
    exact ⟨rfl, HB8.out⟩
end Go.Proofs.YtkflggojiiebeaaGreat.Qnt

