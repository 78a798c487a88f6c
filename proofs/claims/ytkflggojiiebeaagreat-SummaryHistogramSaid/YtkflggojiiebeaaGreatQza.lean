/- Texts that statements lean on, put together: WidRSum, LinPlay, PcsRef, PcsCov, SpnPt, SpnRPt, SpnRRg, SmrOpen, SmrRHis. -/
import Derived.Test.YtkflggojiiebeaaGreatQaa
import Derived.Test.YtkflggojiiebeaaGreatQab
import Derived.Test.YtkflggojiiebeaaGreatQac
import Derived.Test.YtkflggojiiebeaaGreatQad
import Derived.Test.YtkflggojiiebeaaGreatQae
import Derived.Test.YtkflggojiiebeaaGreatQaf
import Derived.Test.YtkflggojiiebeaaGreatQag
import Derived.Test.YtkflggojiiebeaaGreatQca
import Derived.Test.YtkflggojiiebeaaGreatQcb
import Derived.Test.YtkflggojiiebeaaGreatQcc
import Derived.Test.YtkflggojiiebeaaGreatQda
import Derived.Test.YtkflggojiiebeaaGreatQea
import Derived.Test.YtkflggojiiebeaaGreatQha
import Derived.Test.YtkflggojiiebeaaGreatQia
import Derived.Test.YtkflggojiiebeaaGreatQib
import Derived.Test.YtkflggojiiebeaaGreatQja
import Derived.Test.YtkflggojiiebeaaGreatQjb
import Derived.Test.YtkflggojiiebeaaGreatQjc
import Derived.Test.YtkflggojiiebeaaGreatQla
import Derived.Test.YtkflggojiiebeaaGreatQoa
import Derived.Test.YtkflggojiiebeaaGreatQpa
import Derived.Test.YtkflggojiiebeaaGreatQsa
import Derived.Test.YtkflggojiiebeaaGreatQva
import Derived.Test.YtkflggojiiebeaaGreatRows
import Derived.WalkKit
import Derived.ProofKit
import Derived.OpenShut
import Derived.DataShut
import Derived.Lib.SmallJoins
import Derived.Handy
import Derived.WalkSmall
import Derived.Deep.Draws
import Derived.WalkSpells
import Derived.Laws.AppendOwnNone
import Derived.Deep.AppendLies
import Derived.Lib.Hide
import Derived.Deep.MidRow
import Derived.Laws.BitsAllLaws
import Derived.WalkMore
import Derived.Deep.LoopGhost
import Derived.Deep.RegionHeld3
import Derived.Deep.QuietTactic
import Derived.BigQuiet
import Derived.Laws.Cover3
import Derived.Shelf.Spec.BitsCarry
import Derived.Deep.RegionWith
import Derived.Laws.OwnMore
import Derived.Deep.DeepCutAuto
import Derived.Laws.EntriesVeiled
import Derived.Deep.CutRange
import Derived.Defers
import Derived.RangeFuncNested
import Derived.RangeFuncBound
import Derived.RangeFuncCalls
import Derived.RangeFuncLeaves
import Derived.Deep.WholeRow
import Derived.Maps.AppendAt
import Derived.Shelf.Abstract
import Derived.Shelf.RegionOpen
import Derived.OwnWalkIn
import Derived.TacticsInMore
import Derived.LoopNIn
import Derived.LoopIn
import Derived.RangeFuncBox
import Derived.Laws.ResultCell
import Derived.Laws.CopyOwn
namespace Go.Proofs.YtkflggojiiebeaaGreat.Con
end Go.Proofs.YtkflggojiiebeaaGreat.Con
namespace Go.Proofs.YtkflggojiiebeaaGreat.Exa
end Go.Proofs.YtkflggojiiebeaaGreat.Exa
namespace Go.Proofs.YtkflggojiiebeaaGreat.Fld
end Go.Proofs.YtkflggojiiebeaaGreat.Fld
namespace Go.Proofs.YtkflggojiiebeaaGreat.Grd
end Go.Proofs.YtkflggojiiebeaaGreat.Grd
namespace Go.Proofs.YtkflggojiiebeaaGreat.Hsh
end Go.Proofs.YtkflggojiiebeaaGreat.Hsh
namespace Go.Proofs.YtkflggojiiebeaaGreat.Hvy
end Go.Proofs.YtkflggojiiebeaaGreat.Hvy
namespace Go.Proofs.YtkflggojiiebeaaGreat.Inn
end Go.Proofs.YtkflggojiiebeaaGreat.Inn
namespace Go.Proofs.YtkflggojiiebeaaGreat.Lev
end Go.Proofs.YtkflggojiiebeaaGreat.Lev
namespace Go.Proofs.YtkflggojiiebeaaGreat.Lin
end Go.Proofs.YtkflggojiiebeaaGreat.Lin
namespace Go.Proofs.YtkflggojiiebeaaGreat.Lw
end Go.Proofs.YtkflggojiiebeaaGreat.Lw
namespace Go.Proofs.YtkflggojiiebeaaGreat.Ord
end Go.Proofs.YtkflggojiiebeaaGreat.Ord
namespace Go.Proofs.YtkflggojiiebeaaGreat.Pcs
end Go.Proofs.YtkflggojiiebeaaGreat.Pcs
namespace Go.Proofs.YtkflggojiiebeaaGreat.Qnt
end Go.Proofs.YtkflggojiiebeaaGreat.Qnt
namespace Go.Proofs.YtkflggojiiebeaaGreat.Sed
end Go.Proofs.YtkflggojiiebeaaGreat.Sed
namespace Go.Proofs.YtkflggojiiebeaaGreat.Shp
end Go.Proofs.YtkflggojiiebeaaGreat.Shp
namespace Go.Proofs.YtkflggojiiebeaaGreat.Sk
end Go.Proofs.YtkflggojiiebeaaGreat.Sk
namespace Go.Proofs.YtkflggojiiebeaaGreat.Smr
end Go.Proofs.YtkflggojiiebeaaGreat.Smr
namespace Go.Proofs.YtkflggojiiebeaaGreat.Spn
end Go.Proofs.YtkflggojiiebeaaGreat.Spn
namespace Go.Proofs.YtkflggojiiebeaaGreat.Stk
end Go.Proofs.YtkflggojiiebeaaGreat.Stk
namespace Go.Proofs.YtkflggojiiebeaaGreat.Wid
end Go.Proofs.YtkflggojiiebeaaGreat.Wid
namespace Go.Proofs.YtkflggojiiebeaaGreat.Wid
open Go.RowKit Lw
set_option linter.unusedVariables false
set_option maxRecDepth 100000 in
set_option maxHeartbeats 4000000 in
theorem rsum_any (A : Option Addr) (n cap : Nat) (zs : List Int) (w : World) (hr : RdI w A zs) (hl : zs.length = n) (hn : n ≤ 1000) (hz : In64 zs) :
    Calls Tryz.prog 105 #[.slice A n cap] w fun e w' => e = .returned (.tuple #[.int .i64 (f64 zs.sum), .bool (fit64 zs.sum)]) ∧ Below w.heap.size w w' := by
  have HR := Lib.hid hr
  have HL := Lib.hid hl
  have HZ := Lib.hid hz
  clear hr hl hz
  go_enter Tryz.func105, Tryz.ntmps105
  go_wp2
  go_loopw [5] (fun i wr => ∃ k : Nat, k ≤ n ∧ i = .int .i64 k ∧ Below w.heap.size w wr ∧ LBlk wr w.heap.size (zs.take k).sum) (fun i _ => n - (intOf i).toNat)
  case atStart =>
    exact ⟨0, Nat.zero_le _, rfl, by go_grown, by simpa [LBlk, dcells, dg] using heap_alloc_new w _⟩
  case round =>
    obtain ⟨k, hk, rfl, hbel, hblk⟩ := hrel
    have hsb := sum_bd zs HZ.out k
    obtain ⟨s, hs⟩ : ∃ s, s = (zs.take k).sum := ⟨_, rfl⟩
    rw [← hs] at hblk hsb
    have HS := Lib.hid hs
    clear hs
    have k0 : wr.cell? ⟨w.heap.size, 0, none⟩ = some (.int .i64 (dg s 0)) := cell_of_row _ _ _ _ _ _ hblk
    have f0 := blk_frozen hblk 0
    have k1 : wr.cell? ⟨w.heap.size, 1, none⟩ = some (.int .i64 (dg s 1)) := cell_of_row _ _ _ _ _ _ hblk
    have f1 := blk_frozen hblk 1
    have k2 : wr.cell? ⟨w.heap.size, 2, none⟩ = some (.int .i64 (dg s 2)) := cell_of_row _ _ _ _ _ _ hblk
    have f2 := blk_frozen hblk 2
    have k3 : wr.cell? ⟨w.heap.size, 3, none⟩ = some (.int .i64 (dg s 3)) := cell_of_row _ _ _ _ _ _ hblk
    have f3 := blk_frozen hblk 3
    have k4 : wr.cell? ⟨w.heap.size, 4, none⟩ = some (.int .i64 (dg s 4)) := cell_of_row _ _ _ _ _ _ hblk
    have f4 := blk_frozen hblk 4
    have k5 : wr.cell? ⟨w.heap.size, 5, none⟩ = some (.int .i64 (dg s 5)) := cell_of_row _ _ _ _ _ _ hblk
    have f5 := blk_frozen hblk 5
    have k6 : wr.cell? ⟨w.heap.size, 6, none⟩ = some (.int .i64 (dg s 6)) := cell_of_row _ _ _ _ _ _ hblk
    have f6 := blk_frozen hblk 6
    have k7 : wr.cell? ⟨w.heap.size, 7, none⟩ = some (.int .i64 (dg s 7)) := cell_of_row _ _ _ _ _ _ hblk
    have f7 := blk_frozen hblk 7
    have k8 : wr.cell? ⟨w.heap.size, 8, none⟩ = some (.int .i64 (dg s 8)) := cell_of_row _ _ _ _ _ _ hblk
    have f8 := blk_frozen hblk 8
    have k9 : wr.cell? ⟨w.heap.size, 9, none⟩ = some (.int .i64 (dg s 9)) := cell_of_row _ _ _ _ _ _ hblk
    have f9 := blk_frozen hblk 9
    have hzlt := blk_lt hblk
    have HB := Lib.hid hblk
    clear hblk
    by_cases hlt : k < n
    · have hk2 : k < zs.length := by have := HL.out; omega
      obtain ⟨v, hv⟩ : ∃ v, v = zs[k] := ⟨_, rfl⟩
      have hvb := HZ.out v (by rw [hv]; exact List.getElem_mem hk2)
      obtain ⟨ad, rfl, hc⟩ := HR.out k v (by rw [hv]; exact List.getElem?_eq_getElem hk2)
      have hcw : wr.cell? (ad.add k) = some (.int .i64 v) := cell_on hbel hc
      have hcl := cell_lt hcw
      have hcg : ∀ bs d, (grow wr bs d).cell? (ad.add k) = some (.int .i64 v) := fun bs d => cell_on (grow_below wr bs d) hcw
      have hnext : (zs.take (k + 1)).sum = s + v := by rw [HS.out, hv]; exact sum_next zs k hk2
      have HN := Lib.hid hnext
      clear hv hc hnext
      go_wp2_with fail
      go_region_with (first
        | (go_at_call 58; ((with_reducible refine (rofint_any v _ hvb.1 hvb.2).mono ?_)); rintro e w' ⟨rfl, hb⟩; obtain ⟨bs, d, rfl⟩ := below_grow hb; clear hb)
        | (go_at_call 60; ((with_reducible refine (rplus_any s v _ _ _ _ _ _ _ _ _ _ _ _ _ _ _ _ _ _ _ _ _ rfl rfl).mono ?_)); rintro e w' ⟨rfl, hb⟩; obtain ⟨bs, d, rfl⟩ := below_grow hb; clear hb))
      all_goals
        go_wp2
        go_roundw
        case rel =>
          refine ⟨k + 1, by omega, by go_num, ?_, by rw [HN.out]; exact blk_grow (LBlk.set HB.out (s + v)) _ _⟩
          repeat' (first | (with_reducible first | exact Below.refl _ _ | assumption | refine below_over ?_ _ _ | refine Lw.below_alloc ?_ _ | refine Below.drew ?_ | refine below_drewN ?_ _ | refine Below.setCell ?_ ?_ _) | go_size)
        case measure => simp [intOf]; omega
    · have e : k = n := by omega
      subst e
      have hs : s = zs.sum := by rw [HS.out, List.take_of_length_le (by have := HL.out; omega)]
      have HS2 := Lib.hid hs
      clear hs
      go_wp2_with (go_at_call 62; ((with_reducible refine (rint_any s _ _ _ _ _ _ _ _ _ _ _ rfl (by omega) (by omega)).mono ?_)); rintro e w' ⟨rfl, hb⟩; obtain ⟨bs, d, rfl⟩ := below_grow hb; clear hb)
      go_ret2
      refine ⟨by rw [HS2.out]; rfl, ?_⟩
      repeat' (first | (with_reducible first | exact Below.refl _ _ | assumption | refine below_over ?_ _ _ | refine Lw.below_alloc ?_ _ | refine Below.drew ?_ | refine below_drewN ?_ _ | refine Below.setCell ?_ ?_ _) | go_size)
end Go.Proofs.YtkflggojiiebeaaGreat.Wid

namespace Go.Proofs.YtkflggojiiebeaaGreat.Lin
open Go Go.RowKit Lw Grd
set_option linter.unusedVariables false
set_option linter.unusedSimpArgs false
theorem same_yes (A B : Option Addr) (n ca cb : Nat) (xs : List Int) (w : World) (ha : Rd .i64 w A xs) (hb : Rd .i64 w B xs) (hl : xs.length = n) (hn : n ≤ 1000000) :
    Calls Tryz.prog 33 #[.slice A n ca, .slice B n cb] w fun e w' => e = .returned (.bool true) ∧ Below w.heap.size w w' :=
  (rsame_any A B n n ca cb xs xs w ha hb hl hl (by omega) (by omega)).mono fun e w' h => by
    rw [decide_eq_true rfl] at h
    exact h
end Go.Proofs.YtkflggojiiebeaaGreat.Lin

namespace Go.Proofs.YtkflggojiiebeaaGreat.Pcs
open Go Go.RowKit Lw
set_option linter.unusedVariables false
set_option linter.unusedSimpArgs false
theorem p2_next (k : Nat) : p2 k + p2 k = p2 (k + 1) := by unfold p2; rw [pow_next]; omega
set_option maxRecDepth 100000 in
theorem two_at (n : Nat) (hn : n ≤ 60) (N : Int) (hN : N = n) (w : World) : Calls Tryz.prog 155 #[.int .i64 N] w fun e w' => e = .returned (.int .u64 (p2 n)) ∧ w' = w := by
  subst hN
  go_enter Tryz.func155, Tryz.ntmps155
  go_wp2
  go_loopw [3, 4] (fun ov iv wr => ∃ k : Nat, k ≤ n ∧ ov = .int .u64 (p2 k) ∧ iv = .int .i64 k ∧ wr = w) (fun _ iv _ => n - (intOf iv).toNat)
  case atStart => exact ⟨0, Nat.zero_le _, rfl, rfl, (by first | exact True.intro | exact rfl)⟩
  case round =>
    obtain ⟨k, hk, rfl, rfl, rfl⟩ := hrel
    by_cases hlt : k < n
    · have hnx := p2_next k
      have hb := p2_bd (show k + 1 ≤ 60 by omega)
      have hw : IntKind.u64.wrap (p2 k + p2 k) = p2 (k + 1) := by rw [hnx]; exact u64_in (by omega) (by omega)
      obtain ⟨X, hX⟩ : ∃ X, p2 k = X := ⟨_, rfl⟩
      obtain ⟨Y, hY⟩ : ∃ Y, p2 (k + 1) = Y := ⟨_, rfl⟩
      rw [hX] at hw ⊢
      rw [hY] at hw
      have HY := Lib.hid hY
      clear hnx hb hX hY
      go_wp2
      go_roundw
      case rel => exact ⟨k + 1, by omega, by rw [HY.out], by go_num, (by first | exact True.intro | exact rfl)⟩
      case measure => simp [intOf]; omega
    · obtain rfl : k = n := by omega
      go_wp2
      go_ret
      exact ⟨rfl, rfl⟩
end Go.Proofs.YtkflggojiiebeaaGreat.Pcs

namespace Go.Proofs.YtkflggojiiebeaaGreat.Pcs
open Go Go.RowKit Lw
set_option linter.unusedVariables false
set_option linter.unusedSimpArgs false
theorem dvd_tmod {j k : Nat} : Int.tmod (j : Int) (p2 k) = ((j % 2 ^ k : Nat) : Int) := by
  unfold p2
  rw [Int.tmod_eq_emod_of_nonneg (by omega), Int.natCast_emod]
theorem div_tdiv {j k : Nat} : Int.tdiv (j : Int) (p2 k) = ((j / 2 ^ k : Nat) : Int) := by
  unfold p2
  rw [Int.tdiv_eq_ediv_of_nonneg (by omega), Int.natCast_ediv]
set_option maxRecDepth 100000 in
set_option maxHeartbeats 4000000 in
theorem rcover_n1 (b lo hi : Int) (w : World) (hb0 : -9223372036854775808 ≤ b) (hb1 : b ≤ 9223372036854775807) (lo0 : 0 ≤ lo) (lo1 : lo ≤ 18446744073709551615) (hi0 : 0 ≤ hi) (hi1 : hi ≤ 18446744073709551615)  (h1 : ¬ 1 ≤ b) :
    Calls Tryz.prog 132 #[.int .i64 b, .int .u64 lo, .int .u64 hi] w fun e w' => CovR w w' e b lo hi := by
  have HOK : Hid (okC b lo hi = false) := Lib.hid (decide_eq_false (fun h => h1 h.1))
  have d1 : decide (b < 1) = true := decide_eq_true (by omega)
  have f1 : b < 1 := by omega
  clear hb0 hb1 lo0 lo1 hi0 hi1 h1
  go_enter Tryz.func132, Tryz.ntmps132
  go_wp2_with (fail)
  refine bodyPost_ret (v := .tuple #[.slice (some ⟨w.heap.size, 0, none⟩) 0 0, .bool false]) (by simp [results, Tryz.results132, go_sem]) rfl ?_
  have q1 : (pcT (some ⟨w.heap.size, 0, none⟩) 0 0 (ints [])).I (w.alloc (.cells #[] 82)) := pcT_nil _ _ (fun a e => by injection e with e; subst e; simp)
  have q2 : ∀ k, (pcT (some ⟨w.heap.size, 0, none⟩) 0 0 (ints [])).F k → w.heap.size ≤ k := fun k hk => by obtain ⟨a, e, rfl⟩ := hk; injection e with e; subst e; exact Nat.le_refl _
  unfold CovR
  rw [HOK.out]
  exact ⟨some ⟨w.heap.size, 0, none⟩, 0, 0, [], rfl, q1, q2, (by repeat' (first | (with_reducible first | exact Below.refl _ _ | assumption | refine below_over ?_ _ _ | refine Lw.below_alloc ?_ _ | refine Below.drew ?_ | refine below_drewN ?_ _ | refine Below.setCell ?_ ?_ _) | go_size)), fun h => by simp at h, fun _ => rfl⟩
set_option maxRecDepth 100000 in
set_option maxHeartbeats 4000000 in
theorem rcover_n2 (b lo hi : Int) (w : World) (hb0 : -9223372036854775808 ≤ b) (hb1 : b ≤ 9223372036854775807) (lo0 : 0 ≤ lo) (lo1 : lo ≤ 18446744073709551615) (hi0 : 0 ≤ hi) (hi1 : hi ≤ 18446744073709551615) (h1 : 1 ≤ b) (h2 : ¬ b ≤ 59) :
    Calls Tryz.prog 132 #[.int .i64 b, .int .u64 lo, .int .u64 hi] w fun e w' => CovR w w' e b lo hi := by
  have HOK : Hid (okC b lo hi = false) := Lib.hid (decide_eq_false (fun h => h2 h.2.1))
  have d1 : decide (b < 1) = false := decide_eq_false (by omega)
  have f1 : ¬ b < 1 := by omega
  have d2 : decide (59 < b) = true := decide_eq_true (by omega)
  have f2 : 59 < b := by omega
  clear hb0 hb1 lo0 lo1 hi0 hi1 h1 h2
  go_enter Tryz.func132, Tryz.ntmps132
  go_wp2_with (fail)
  refine bodyPost_ret (v := .tuple #[.slice (some ⟨w.heap.size, 0, none⟩) 0 0, .bool false]) (by simp [results, Tryz.results132, go_sem]) rfl ?_
  have q1 : (pcT (some ⟨w.heap.size, 0, none⟩) 0 0 (ints [])).I (w.alloc (.cells #[] 82)) := pcT_nil _ _ (fun a e => by injection e with e; subst e; simp)
  have q2 : ∀ k, (pcT (some ⟨w.heap.size, 0, none⟩) 0 0 (ints [])).F k → w.heap.size ≤ k := fun k hk => by obtain ⟨a, e, rfl⟩ := hk; injection e with e; subst e; exact Nat.le_refl _
  unfold CovR
  rw [HOK.out]
  exact ⟨some ⟨w.heap.size, 0, none⟩, 0, 0, [], rfl, q1, q2, (by repeat' (first | (with_reducible first | exact Below.refl _ _ | assumption | refine below_over ?_ _ _ | refine Lw.below_alloc ?_ _ | refine Below.drew ?_ | refine below_drewN ?_ _ | refine Below.setCell ?_ ?_ _) | go_size)), fun h => by simp at h, fun _ => rfl⟩
set_option maxRecDepth 100000 in
set_option maxHeartbeats 4000000 in
theorem rcover_n3 (b lo hi : Int) (w : World) (hb0 : -9223372036854775808 ≤ b) (hb1 : b ≤ 9223372036854775807) (lo0 : 0 ≤ lo) (lo1 : lo ≤ 18446744073709551615) (hi0 : 0 ≤ hi) (hi1 : hi ≤ 18446744073709551615) (h1 : 1 ≤ b) (h2 : b ≤ 59) (h3 : ¬ lo ≤ hi) :
    Calls Tryz.prog 132 #[.int .i64 b, .int .u64 lo, .int .u64 hi] w fun e w' => CovR w w' e b lo hi := by
  have HOK : Hid (okC b lo hi = false) := Lib.hid (decide_eq_false (fun h => h3 h.2.2.1))
  have d1 : decide (b < 1) = false := decide_eq_false (by omega)
  have f1 : ¬ b < 1 := by omega
  have d2 : decide (59 < b) = false := decide_eq_false (by omega)
  have f2 : ¬ 59 < b := by omega
  have d3 : decide (hi < lo) = true := decide_eq_true (by omega)
  have f3 : hi < lo := by omega
  clear hb0 hb1 lo0 lo1 hi0 hi1 h1 h2 h3
  go_enter Tryz.func132, Tryz.ntmps132
  go_wp2_with (fail)
  refine bodyPost_ret (v := .tuple #[.slice (some ⟨w.heap.size, 0, none⟩) 0 0, .bool false]) (by simp [results, Tryz.results132, go_sem]) rfl ?_
  have q1 : (pcT (some ⟨w.heap.size, 0, none⟩) 0 0 (ints [])).I (w.alloc (.cells #[] 82)) := pcT_nil _ _ (fun a e => by injection e with e; subst e; simp)
  have q2 : ∀ k, (pcT (some ⟨w.heap.size, 0, none⟩) 0 0 (ints [])).F k → w.heap.size ≤ k := fun k hk => by obtain ⟨a, e, rfl⟩ := hk; injection e with e; subst e; exact Nat.le_refl _
  unfold CovR
  rw [HOK.out]
  exact ⟨some ⟨w.heap.size, 0, none⟩, 0, 0, [], rfl, q1, q2, (by repeat' (first | (with_reducible first | exact Below.refl _ _ | assumption | refine below_over ?_ _ _ | refine Lw.below_alloc ?_ _ | refine Below.drew ?_ | refine below_drewN ?_ _ | refine Below.setCell ?_ ?_ _) | go_size)), fun h => by simp at h, fun _ => rfl⟩
set_option maxRecDepth 100000 in
set_option maxHeartbeats 4000000 in
theorem rcover_n4 (b lo hi : Int) (w : World) (hb0 : -9223372036854775808 ≤ b) (hb1 : b ≤ 9223372036854775807) (lo0 : 0 ≤ lo) (lo1 : lo ≤ 18446744073709551615) (hi0 : 0 ≤ hi) (hi1 : hi ≤ 18446744073709551615) (h1 : 1 ≤ b) (h2 : b ≤ 59) (h3 : lo ≤ hi) (h4 : ¬ hi < p2 b.toNat) :
    Calls Tryz.prog 132 #[.int .i64 b, .int .u64 lo, .int .u64 hi] w fun e w' => CovR w w' e b lo hi := by
  have HOK : Hid (okC b lo hi = false) := Lib.hid (decide_eq_false (fun h => h4 h.2.2.2))
  have d1 : decide (b < 1) = false := decide_eq_false (by omega)
  have f1 : ¬ b < 1 := by omega
  have d2 : decide (59 < b) = false := decide_eq_false (by omega)
  have f2 : ¬ 59 < b := by omega
  have d3 : decide (hi < lo) = false := decide_eq_false (by omega)
  have f3 : ¬ hi < lo := by omega
  have C := Lib.hid (fun w => two_at b.toNat (by omega) b (by omega) w)
  obtain ⟨P, hP⟩ : ∃ P, p2 b.toNat = P := ⟨_, rfl⟩
  rw [hP] at C h4
  have d4 : decide (P ≤ hi) = true := decide_eq_true (by omega)
  have f4 : P ≤ hi := by omega
  clear hP
  clear hb0 hb1 lo0 lo1 hi0 hi1 h1 h2 h3 h4
  go_enter Tryz.func132, Tryz.ntmps132
  go_wp2_with ((go_at_call 155; (with_reducible refine (C.out _).mono ?_); rintro e w' ⟨rfl, rfl⟩; skip))
  refine bodyPost_ret (v := .tuple #[.slice (some ⟨w.heap.size, 0, none⟩) 0 0, .bool false]) (by simp [results, Tryz.results132, go_sem]) rfl ?_
  have q1 : (pcT (some ⟨w.heap.size, 0, none⟩) 0 0 (ints [])).I (w.alloc (.cells #[] 82)) := pcT_nil _ _ (fun a e => by injection e with e; subst e; simp)
  have q2 : ∀ k, (pcT (some ⟨w.heap.size, 0, none⟩) 0 0 (ints [])).F k → w.heap.size ≤ k := fun k hk => by obtain ⟨a, e, rfl⟩ := hk; injection e with e; subst e; exact Nat.le_refl _
  unfold CovR
  rw [HOK.out]
  exact ⟨some ⟨w.heap.size, 0, none⟩, 0, 0, [], rfl, q1, q2, (by repeat' (first | (with_reducible first | exact Below.refl _ _ | assumption | refine below_over ?_ _ _ | refine Lw.below_alloc ?_ _ | refine Below.drew ?_ | refine below_drewN ?_ _ | refine Below.setCell ?_ ?_ _) | go_size)), fun h => by simp at h, fun _ => rfl⟩
set_option maxRecDepth 100000 in
set_option maxHeartbeats 8000000 in
theorem rcover_y (b lo hi : Int) (w : World) (hb0 : -9223372036854775808 ≤ b) (hb1 : b ≤ 9223372036854775807) (lo0 : 0 ≤ lo) (lo1 : lo ≤ 18446744073709551615) (hi0 : 0 ≤ hi) (hi1 : hi ≤ 18446744073709551615) (h1 : 1 ≤ b) (h2 : b ≤ 59) (h3 : lo ≤ hi) (h4 : hi < p2 b.toNat) :
    Calls Tryz.prog 132 #[.int .i64 b, .int .u64 lo, .int .u64 hi] w fun e w' => CovR w w' e b lo hi := by
  have hok : okC b lo hi = true := decide_eq_true ⟨h1, h2, h3, h4⟩
  obtain ⟨i0, hi_, hz0, hz1, hz2⟩ := info_parts pc_info
  obtain ⟨n, rfl⟩ : ∃ n : Nat, b = n := ⟨b.toNat, by omega⟩
  obtain ⟨s, rfl⟩ : ∃ s : Nat, lo = s := ⟨lo.toNat, by omega⟩
  obtain ⟨t, rfl⟩ : ∃ t : Nat, hi = t := ⟨hi.toNat, by omega⟩
  have HOK := Lib.hid hok
  rw [Int.toNat_natCast] at h4
  have C0 := Lib.hid (fun w => two_at n (by omega) n rfl w)
  have CT := Lib.hid (fun (k : Nat) (N : Int) w h hN => two_at k h N hN w)
  have hn60 : n ≤ 59 := by omega
  have hn1 : 1 ≤ n := by omega
  have hst : s ≤ t := by omega
  have hpb := p2_bd (show n ≤ 60 by omega)
  have hE : t + 1 ≤ 2 ^ n := by unfold p2 at h4; omega
  have ht60 : (t : Int) < 1152921504606846976 := by omega
  have HE := Lib.hid hE
  obtain ⟨P, hP⟩ : ∃ P, p2 n = P := ⟨_, rfl⟩
  rw [hP] at C0 h4
  have d1 : decide ((n : Int) < 1) = false := decide_eq_false (by omega)
  have f1 : ¬ (n : Int) < 1 := by omega
  have d2 : decide ((59 : Int) < (n : Int)) = false := decide_eq_false (by omega)
  have f2 : ¬ (59 : Int) < (n : Int) := by omega
  have d3 : decide ((t : Int) < (s : Int)) = false := decide_eq_false (by omega)
  have f3 : ¬ (t : Int) < (s : Int) := by omega
  have d4 : decide (P ≤ (t : Int)) = false := decide_eq_false (by omega)
  have f4 : ¬ P ≤ (t : Int) := by omega
  clear hP hpb hE h3 hb0 hb1 lo0 lo1 hi0 hi1 h1 h2 hok h4
  go_enter Tryz.func132, Tryz.ntmps132
  go_wp2_with ((go_at_call 155; (with_reducible refine (C0.out _).mono ?_); rintro e w' ⟨rfl, rfl⟩; skip))
  clear d1 d2 d3 d4 f1 f2 f3 f4
  go_loopw [1, 8] (fun lv ov wr => ∃ (j : Nat) (xs : List (Nat × Nat)), j ≤ t + 1 ∧ lv = .int .u64 j ∧ wr.ownsRow w.heap.size 82 2 ov xs.length (flatP (ints xs)) ∧ (∀ l, Cov n (t + 1) j l → Cov n (t + 1) s (xs ++ l)) ∧ Below w.heap.size w wr) (fun lv _ _ => t + 1 - (intOf lv).toNat)
  case atStart => exact ⟨s, [], by omega, rfl, own_empty w _ _ _ (Nat.le_refl _), fun l h => h, (by repeat' (first | (with_reducible first | exact Below.refl _ _ | assumption | refine below_over ?_ _ _ | refine Lw.below_alloc ?_ _ | refine Below.drew ?_ | refine below_drewN ?_ _ | refine Below.setCell ?_ ?_ _) | go_size))⟩
  case round =>
    obtain ⟨j, xs, hj, rfl, hown, hcv, hbel⟩ := hrel
    have HCV := Lib.hid hcv
    have HBEL := Lib.hid hbel
    have HOWN := Lib.hid hown
    have hxl : xs.length ≤ 118 := by
      obtain ⟨l, hl⟩ := Cov.ex (B := n) (e := t + 1) _ j rfl hj
      have h9 := (hcv l hl).len HE.out hn1
      rw [List.length_append] at h9
      omega
    clear hcv
    by_cases hlt : j ≤ t
    · have g1 : (j : Int) ≤ (t : Int) := by omega
      obtain ⟨wo, rfl⟩ : ∃ wo, wo = wr := ⟨_, rfl⟩
      go_wp2
      go_loopw [9] (fun kv wr => ∃ (k : Nat), k ≤ n ∧ 2 ^ k ∣ j ∧ j + 2 ^ k ≤ t + 1 ∧ kv = .int .i64 k ∧ wr = wo) (fun kv _ => n - (intOf kv).toNat)
      case atStart => exact ⟨0, Nat.zero_le _, ⟨j, by simp⟩, (by rw [Nat.pow_zero]; omega), rfl, (by first | exact True.intro | exact rfl)⟩
      case round =>
        obtain ⟨k, hk1, hk2, hk3, rfl, rfl⟩ := hrel
        have HK := Lib.hid (And.intro hk2 hk3)
        have hk59 : k ≤ 59 := by omega
        have hpk := p2_bd (show k ≤ 60 by omega)
        clear hk2 hk3
        have ADV : Hid (∀ _ : GL n j (t + 1) k, True) := Lib.hid (fun _ => True.intro)
        by_cases hc1 : k < n
        · have hnx : (k : Int) + 1 = ((k + 1 : Nat) : Int) := by omega
          have HNX := Lib.hid hnx
          have wk1 : wrap64 ((k : Int) + 1) = (k : Int) + 1 := IntWalk.wrap64_in _ ⟨by omega, by omega⟩
          have wk2 : IntKind.i64.wrap ((k : Int) + 1) = (k : Int) + 1 := IntWalk.i64_in _ ⟨by omega, by omega⟩
          have CK := Lib.hid (fun w => CT.out (k + 1) ((k : Int) + 1) w (by omega) hnx)
          clear hnx
          have hpn := p2_bd (show k + 1 ≤ 60 by omega)
          have htm : Int.tmod (j : Int) (p2 (k + 1)) = ((j % 2 ^ (k + 1) : Nat) : Int) := dvd_tmod
          have hpz : ¬ p2 (k + 1) = 0 := by omega
          have hmod := Nat.mod_lt j (pow_pos (k + 1))
          have hpu : p2 (k + 1) = ((2 ^ (k + 1) : Nat) : Int) := rfl
          have kn : (k : Int) < (n : Int) := by omega
          by_cases hc2 : 2 ^ (k + 1) ∣ j
          · have hm0 : j % 2 ^ (k + 1) = 0 := Nat.mod_eq_zero_of_dvd hc2
            have ws : IntKind.u64.wrap ((t : Int) - (j : Int)) = (t : Int) - (j : Int) := u64_in (by omega) (by omega)
            have wm : IntKind.u64.wrap (p2 (k + 1) - 1) = p2 (k + 1) - 1 := u64_in (by omega) (by omega)
            rw [hm0] at htm
            by_cases hc3 : j + 2 ^ (k + 1) ≤ t + 1
            · have HG := Lib.hid (And.intro hc2 hc3)
              have hge : p2 (k + 1) - 1 ≤ (t : Int) - (j : Int) := by rw [hpu]; omega
              obtain ⟨DT, hDT⟩ : ∃ D, (t : Int) - (j : Int) = D := ⟨_, rfl⟩
              obtain ⟨X, hX⟩ : ∃ X, p2 (k + 1) = X := ⟨_, rfl⟩
              rw [hX] at CK htm hpz wm hge
              rw [hDT] at hge
              have ws2 : IntKind.u64.wrap ((t : Int) - (j : Int)) = DT := by rw [ws, hDT]
              obtain ⟨Y, hY⟩ : ∃ Y, X - 1 = Y := ⟨_, rfl⟩
              rw [hY] at hge
              have wm2 : IntKind.u64.wrap (X - 1) = Y := by rw [wm, hY]
              have dge : decide (Y ≤ DT) = true := decide_eq_true hge
              clear hDT hY ws wm
              clear hX hpu hmod hm0 hc2 hc3 hpn hpk
              go_wp2_with ((go_at_call 155; (with_reducible refine (CK.out _).mono ?_); rintro e w' ⟨rfl, rfl⟩; skip))
              go_roundw
              case rel => exact ⟨k + 1, by omega, HG.out.1, HG.out.2, by go_num, (by first | exact True.intro | exact rfl)⟩
              case measure => simp [intOf]; omega
            · have HG : Hid (GL n j (t + 1) k) := Lib.hid ⟨hk1, HK.out.1, HK.out.2, .inr (.inr (by omega))⟩
              have hge : (t : Int) - (j : Int) < p2 (k + 1) - 1 := by rw [hpu]; omega
              obtain ⟨DT, hDT⟩ : ∃ D, (t : Int) - (j : Int) = D := ⟨_, rfl⟩
              obtain ⟨X, hX⟩ : ∃ X, p2 (k + 1) = X := ⟨_, rfl⟩
              rw [hX] at CK htm hpz wm hge
              rw [hDT] at hge
              have ws2 : IntKind.u64.wrap ((t : Int) - (j : Int)) = DT := by rw [ws, hDT]
              obtain ⟨Y, hY⟩ : ∃ Y, X - 1 = Y := ⟨_, rfl⟩
              rw [hY] at hge
              have wm2 : IntKind.u64.wrap (X - 1) = Y := by rw [wm, hY]
              have dge : decide (Y ≤ DT) = false := decide_eq_false (by omega)
              clear hDT hY ws wm
              clear hX hpu hmod hm0 hc2 hc3 hpn
              have CQ := Lib.hid (fun w => CT.out k (k : Int) w (by omega) rfl)
              have hdv : Int.tdiv (j : Int) (p2 k) = ((j / 2 ^ k : Nat) : Int) := div_tdiv
              have hpz2 : ¬ p2 k = 0 := by omega
              have hdl : j / 2 ^ k ≤ j := Nat.div_le_self _ _
              have hsum : (j : Int) + p2 k = ((j + 2 ^ k : Nat) : Int) := by unfold p2; omega
              have hjn : j + 2 ^ k ≤ t + 1 := HG.out.2.2.1
              have hp1 := pow_pos k
              obtain ⟨V, hV⟩ : ∃ V, j / 2 ^ k = V := ⟨_, rfl⟩
              obtain ⟨J2, hJ2⟩ : ∃ J2, j + 2 ^ k = J2 := ⟨_, rfl⟩
              have HC2 : Hid (∀ l, Cov n (t + 1) J2 l → Cov n (t + 1) s (xs ++ [(k, V)] ++ l)) := Lib.hid (fun l hl => by
                rw [List.append_assoc]
                refine HCV.out _ ?_
                rw [← hV]
                exact Cov.cons HG.out (by rw [hJ2]; exact hl))
              have HFL : Hid (flatP (ints (xs ++ [(k, V)])) = flatP (ints xs) ++ [.int .i64 (k : Int), .int .u64 (V : Int)]) := Lib.hid (by rw [ints_app]; exact flatP_snoc _ _)
              have HLEN : Hid ((xs ++ [(k, V)]).length = xs.length + 1) := Lib.hid (by simp)
              have HJ : Hid (j < J2) := Lib.hid (by omega)
              rw [hV] at hdv hdl
              rw [hJ2] at hsum hjn
              have wv : IntKind.u64.wrap (V : Int) = V := u64_in (by omega) (by omega)
              have wj : IntKind.u64.wrap (J2 : Int) = J2 := u64_in (by omega) (by omega)
              obtain ⟨X2, hX2⟩ : ∃ X, p2 k = X := ⟨_, rfl⟩
              rw [hX2] at CQ hdv hpz2 hsum
              have hbs := HBEL.out.size
              clear hX2 hV hJ2 hp1 hpk
              go_wp2_with (first
                | (go_at_call 155; (with_reducible refine (CQ.out _).mono ?_); rintro e w' ⟨rfl, rfl⟩; skip)
                | (go_at_call 155; (with_reducible refine (CK.out _).mono ?_); rintro e w' ⟨rfl, rfl⟩; skip)
                | (at_builtin; go_must (refine wpList_append_own _ rfl _ _ 118 rfl w.heap.size 82 i0 (.agg #[.int .i64 0, .int .u64 0]) 2 16 pcs_u hi_ hz0 hz1 hz2 rfl (by decide) _ _ _ rfl (HOWN.out.alloc _) ⟨_, 0, none⟩ 1 1 [.int .i64 (k : Int), .int .u64 (V : Int)] rfl rfl (pc_news (pc_alloc (by simp))) (pc_one _ _) (by unfold maxLen; omega) (by omega) (by simp; omega) ?_); intro v7 w7 hown7 hgrow7 _))
              go_roundw
              case rel => exact ⟨J2, xs ++ [(k, V)], by omega, by go_num, by rw [HLEN.out, HFL.out]; exact hown7, HC2.out, (HBEL.out.alloc hbs _).grown hgrow7 (by simp; omega) (fun x hx => own_ge HOWN.out x hx)⟩
              case measure => have := HJ.out; simp [intOf]; omega
          · have HG : Hid (GL n j (t + 1) k) := Lib.hid ⟨hk1, HK.out.1, HK.out.2, .inr (.inl hc2)⟩
            have hm0 : ¬ j % 2 ^ (k + 1) = 0 := fun h => hc2 (Nat.dvd_of_mod_eq_zero h)
            obtain ⟨M, hM⟩ : ∃ M, j % 2 ^ (k + 1) = M := ⟨_, rfl⟩
            rw [hM] at htm hm0
            have hmz : ((M : Int) == 0) = false := by simp; omega
            obtain ⟨X, hX⟩ : ∃ X, p2 (k + 1) = X := ⟨_, rfl⟩
            rw [hX] at CK htm hpz
            clear hX hpu hmod hM hc2 hpn
            have CQ := Lib.hid (fun w => CT.out k (k : Int) w (by omega) rfl)
            have hdv : Int.tdiv (j : Int) (p2 k) = ((j / 2 ^ k : Nat) : Int) := div_tdiv
            have hpz2 : ¬ p2 k = 0 := by omega
            have hdl : j / 2 ^ k ≤ j := Nat.div_le_self _ _
            have hsum : (j : Int) + p2 k = ((j + 2 ^ k : Nat) : Int) := by unfold p2; omega
            have hjn : j + 2 ^ k ≤ t + 1 := HG.out.2.2.1
            have hp1 := pow_pos k
            obtain ⟨V, hV⟩ : ∃ V, j / 2 ^ k = V := ⟨_, rfl⟩
            obtain ⟨J2, hJ2⟩ : ∃ J2, j + 2 ^ k = J2 := ⟨_, rfl⟩
            have HC2 : Hid (∀ l, Cov n (t + 1) J2 l → Cov n (t + 1) s (xs ++ [(k, V)] ++ l)) := Lib.hid (fun l hl => by
              rw [List.append_assoc]
              refine HCV.out _ ?_
              rw [← hV]
              exact Cov.cons HG.out (by rw [hJ2]; exact hl))
            have HFL : Hid (flatP (ints (xs ++ [(k, V)])) = flatP (ints xs) ++ [.int .i64 (k : Int), .int .u64 (V : Int)]) := Lib.hid (by rw [ints_app]; exact flatP_snoc _ _)
            have HLEN : Hid ((xs ++ [(k, V)]).length = xs.length + 1) := Lib.hid (by simp)
            have HJ : Hid (j < J2) := Lib.hid (by omega)
            rw [hV] at hdv hdl
            rw [hJ2] at hsum hjn
            have wv : IntKind.u64.wrap (V : Int) = V := u64_in (by omega) (by omega)
            have wj : IntKind.u64.wrap (J2 : Int) = J2 := u64_in (by omega) (by omega)
            obtain ⟨X2, hX2⟩ : ∃ X, p2 k = X := ⟨_, rfl⟩
            rw [hX2] at CQ hdv hpz2 hsum
            have hbs := HBEL.out.size
            clear hX2 hV hJ2 hp1 hpk
            go_wp2_with (first
              | (go_at_call 155; (with_reducible refine (CQ.out _).mono ?_); rintro e w' ⟨rfl, rfl⟩; skip)
              | (go_at_call 155; (with_reducible refine (CK.out _).mono ?_); rintro e w' ⟨rfl, rfl⟩; skip)
              | (at_builtin; go_must (refine wpList_append_own _ rfl _ _ 118 rfl w.heap.size 82 i0 (.agg #[.int .i64 0, .int .u64 0]) 2 16 pcs_u hi_ hz0 hz1 hz2 rfl (by decide) _ _ _ rfl (HOWN.out.alloc _) ⟨_, 0, none⟩ 1 1 [.int .i64 (k : Int), .int .u64 (V : Int)] rfl rfl (pc_news (pc_alloc (by simp))) (pc_one _ _) (by unfold maxLen; omega) (by omega) (by simp; omega) ?_); intro v7 w7 hown7 hgrow7 _))
            go_roundw
            case rel => exact ⟨J2, xs ++ [(k, V)], by omega, by go_num, by rw [HLEN.out, HFL.out]; exact hown7, HC2.out, (HBEL.out.alloc hbs _).grown hgrow7 (by simp; omega) (fun x hx => own_ge HOWN.out x hx)⟩
            case measure => have := HJ.out; simp [intOf]; omega
        · have HG : Hid (GL n j (t + 1) k) := Lib.hid ⟨hk1, HK.out.1, HK.out.2, .inl (by omega)⟩
          have kn : ¬ (k : Int) < (n : Int) := by omega
          have CQ := Lib.hid (fun w => CT.out k (k : Int) w (by omega) rfl)
          have hdv : Int.tdiv (j : Int) (p2 k) = ((j / 2 ^ k : Nat) : Int) := div_tdiv
          have hpz2 : ¬ p2 k = 0 := by omega
          have hdl : j / 2 ^ k ≤ j := Nat.div_le_self _ _
          have hsum : (j : Int) + p2 k = ((j + 2 ^ k : Nat) : Int) := by unfold p2; omega
          have hjn : j + 2 ^ k ≤ t + 1 := HG.out.2.2.1
          have hp1 := pow_pos k
          obtain ⟨V, hV⟩ : ∃ V, j / 2 ^ k = V := ⟨_, rfl⟩
          obtain ⟨J2, hJ2⟩ : ∃ J2, j + 2 ^ k = J2 := ⟨_, rfl⟩
          have HC2 : Hid (∀ l, Cov n (t + 1) J2 l → Cov n (t + 1) s (xs ++ [(k, V)] ++ l)) := Lib.hid (fun l hl => by
            rw [List.append_assoc]
            refine HCV.out _ ?_
            rw [← hV]
            exact Cov.cons HG.out (by rw [hJ2]; exact hl))
          have HFL : Hid (flatP (ints (xs ++ [(k, V)])) = flatP (ints xs) ++ [.int .i64 (k : Int), .int .u64 (V : Int)]) := Lib.hid (by rw [ints_app]; exact flatP_snoc _ _)
          have HLEN : Hid ((xs ++ [(k, V)]).length = xs.length + 1) := Lib.hid (by simp)
          have HJ : Hid (j < J2) := Lib.hid (by omega)
          rw [hV] at hdv hdl
          rw [hJ2] at hsum hjn
          have wv : IntKind.u64.wrap (V : Int) = V := u64_in (by omega) (by omega)
          have wj : IntKind.u64.wrap (J2 : Int) = J2 := u64_in (by omega) (by omega)
          obtain ⟨X2, hX2⟩ : ∃ X, p2 k = X := ⟨_, rfl⟩
          rw [hX2] at CQ hdv hpz2 hsum
          have hbs := HBEL.out.size
          clear hX2 hV hJ2 hp1 hpk
          go_wp2_with (first
            | (go_at_call 155; (with_reducible refine (CQ.out _).mono ?_); rintro e w' ⟨rfl, rfl⟩; skip)
            | (go_at_call 155; (with_reducible refine (CK.out _).mono ?_); rintro e w' ⟨rfl, rfl⟩; skip)
            | (at_builtin; go_must (refine wpList_append_own _ rfl _ _ 118 rfl w.heap.size 82 i0 (.agg #[.int .i64 0, .int .u64 0]) 2 16 pcs_u hi_ hz0 hz1 hz2 rfl (by decide) _ _ _ rfl (HOWN.out.alloc _) ⟨_, 0, none⟩ 1 1 [.int .i64 (k : Int), .int .u64 (V : Int)] rfl rfl (pc_news (pc_alloc (by simp))) (pc_one _ _) (by unfold maxLen; omega) (by omega) (by simp; omega) ?_); intro v7 w7 hown7 hgrow7 _))
          go_roundw
          case rel => exact ⟨J2, xs ++ [(k, V)], by omega, by go_num, by rw [HLEN.out, HFL.out]; exact hown7, HC2.out, (HBEL.out.alloc hbs _).grown hgrow7 (by simp; omega) (fun x hx => own_ge HOWN.out x hx)⟩
          case measure => have := HJ.out; simp [intOf]; omega
    · have he : j = t + 1 := by omega
      have g1 : ¬ (j : Int) ≤ (t : Int) := by omega
      have dg1 : decide ((j : Int) ≤ (t : Int)) = false := decide_eq_false g1
      have hcov : Cov n (t + 1) s xs := by
        have h9 := HCV.out [] (by rw [he]; exact Cov.nil)
        rwa [List.append_nil] at h9
      clear he hlt hj
      have hbd : ∀ u ∈ ints xs, (-9223372036854775808 ≤ u.1 ∧ u.1 ≤ 9223372036854775807) ∧ (0 ≤ u.2 ∧ u.2 ≤ 18446744073709551615) := by
        intro u hu
        obtain ⟨p, hp, rfl⟩ := List.mem_map.1 hu
        obtain ⟨i, hi⟩ := List.getElem?_of_mem hp
        obtain ⟨q1, q2, q3⟩ := hcov.at i p hi
        have q4 := pow_pos p.1
        have q5 : p.2 * 1 ≤ p.2 * 2 ^ p.1 := Nat.mul_le_mul_left _ q4
        exact ⟨⟨by show -9223372036854775808 ≤ (p.1 : Int); omega, by show (p.1 : Int) ≤ 9223372036854775807; omega⟩, ⟨by show 0 ≤ (p.2 : Int); omega, by show (p.2 : Int) ≤ 18446744073709551615; omega⟩⟩
      obtain ⟨A2, cap, rfl, hI, hF⟩ := pc_own HOWN.out (ints_len xs) hbd
      have HI := Lib.hid hI
      have HF := Lib.hid hF
      have HCO := Lib.hid hcov
      clear hcov hbd hI hF hown hbel
      go_wp2
      refine bodyPost_ret (v := .tuple #[.slice A2 xs.length cap, .bool true]) (by simp [results, Tryz.results132, go_sem]) rfl ?_
      unfold CovR
      rw [HOK.out]
      exact ⟨A2, _, cap, xs, rfl, HI.out, HF.out, HBEL.out, fun _ => HCO.out, fun h => by simp at h⟩
theorem rcover_any (b lo hi : Int) (w : World) (hb0 : -9223372036854775808 ≤ b) (hb1 : b ≤ 9223372036854775807) (lo0 : 0 ≤ lo) (lo1 : lo ≤ 18446744073709551615) (hi0 : 0 ≤ hi) (hi1 : hi ≤ 18446744073709551615) :
    Calls Tryz.prog 132 #[.int .i64 b, .int .u64 lo, .int .u64 hi] w fun e w' => CovR w w' e b lo hi := by
  by_cases h1 : 1 ≤ b
  · by_cases h2 : b ≤ 59
    · by_cases h3 : lo ≤ hi
      · by_cases h4 : hi < p2 b.toNat
        · exact rcover_y b lo hi w hb0 hb1 lo0 lo1 hi0 hi1 h1 h2 h3 h4
        · exact rcover_n4 b lo hi w hb0 hb1 lo0 lo1 hi0 hi1 h1 h2 h3 h4
      · exact rcover_n3 b lo hi w hb0 hb1 lo0 lo1 hi0 hi1 h1 h2 h3
    · exact rcover_n2 b lo hi w hb0 hb1 lo0 lo1 hi0 hi1 h1 h2
  · exact rcover_n1 b lo hi w hb0 hb1 lo0 lo1 hi0 hi1 h1
end Go.Proofs.YtkflggojiiebeaaGreat.Pcs

namespace Go.Proofs.YtkflggojiiebeaaGreat.Spn
open Go Go.RowKit Lw Grd Lin Con Shp Sk Exa Lev Stk Pcs
set_option linter.unusedVariables false
set_option linter.unusedSimpArgs false
theorem two_keys {c : Cfg} (hr : IsRight c) : ((2 ^ c.bt.toNat : Nat) : Int) = keys c 0 := by
  have e0 : keys c 0 = 2 ^ (c.bt - 0).toNat := keys_yes hr (by omega) (by have := hr.1; omega)
  have e9 : (c.bt - 0).toNat = c.bt.toNat := by omega
  rw [e9] at e0
  rw [e0]
  simp
end Go.Proofs.YtkflggojiiebeaaGreat.Spn

namespace Go.Proofs.YtkflggojiiebeaaGreat.Spn
open Go Go.RowKit Lw Grd Lin Con Shp Sk Exa Lev Stk Pcs
set_option linter.unusedVariables false
set_option linter.unusedSimpArgs false
/-- One number appended to a row of one's own: where the row lies behind it. -/
theorem app_onh {P : Program} {w : World} {ops : Array Oper} {rest : List Oper} {o : Oper} {a : Act} {Q : Exit → Act → World → Prop} (k : IntKind) (hgd : o.guard = none) (s x : Operand) (t : TypeId)
    (ho : o.op = .call { callee := .builtin .append, args := #[s, x], argTypes := #[t, t] })
    (base : Nat) (e : TypeId) (i : TypeInfo) (bytes : Nat) (ht : P.underlying t = some (.slice e)) (hi : P.info? e = some i) (hz : i.zero = some (.int k 0)) (hsize : i.size = 1) (hby : i.bytes = bytes)
    (v : Value) (n : Nat) (xs : List Int) (hs : a.eval s = v) (hown : w.ownsRow base e 1 v n (xs.map (Value.int k)))
    (X : Int) (B : Nat) (hx : a.eval x = .slice (some ⟨B, 0, none⟩) 1 1) (hc : ∀ j u, ([Value.int k X] : List Value)[j]? = some u → w.cell? ((⟨B, 0, none⟩ : Addr).add j) = some u) (h63 : n + 1 ≤ maxLen) (hbytes : (n + 1) * bytes ≤ 140737488355328) (hbase : base ≤ w.heap.size)
    (h : ∀ g cap w', w'.ownsRow base e 1 (.slice (some ⟨g, 0, none⟩) (n + 1) cap) (n + 1) ((xs ++ [X]).map (Value.int k)) → w.grownBy w' v.ownBlock → (v.ownBlock = some g ∨ g = w.heap.size) → wpList P ops Q rest (a.put o.dst (.slice (some ⟨g, 0, none⟩) (n + 1) cap)) w') :
    wpList P ops Q (o :: rest) a w := by
  refine wpList_append_lies w hgd s x t ho base e i (.int k 0) 1 bytes ht hi hz hsize hby rfl (by decide) v n _ hs hown ⟨B, 0, none⟩ 1 1 [.int k X] hx rfl hc (by intro u hu; simp at hu; subst hu; rfl) (by decide) h63 hbytes hbase w.heap.size rfl ?_
  intro g cap w' hown2 hgrow hat hlt
  exact h g cap w' (by rw [List.map_append]; exact hown2) hgrow hat
theorem kept_grown16 {w w' : World} {row : Option Nat} (hg : w.grownBy w' row) : Kept (fun q => row = some q) w w' := (Kept.refl (fun q => row = some q) w).grown hg (fun q hq => .inl hq)
theorem cover_ok (b lo hi : Int) (l : List (Nat × Nat)) (w : World) (hb0 : 1 ≤ b) (hb1 : b ≤ 59) (lo0 : 0 ≤ lo) (lo1 : lo ≤ hi) (hi1 : hi < p2 b.toNat) (hc : Cov b.toNat (hi.toNat + 1) lo.toNat l) :
    Calls Tryz.prog 132 #[.int .i64 b, .int .u64 lo, .int .u64 hi] w fun e w' => ∃ (A : Option Addr) (cap : Nat), e = .returned (.tuple #[.slice A l.length cap, .bool true]) ∧ (pcT A l.length cap (ints l)).I w' ∧ (∀ a, A = some a → w.heap.size ≤ a.block) ∧ Below w.heap.size w w' := by
  have hp : p2 b.toNat ≤ 576460752303423488 := by
    have h := Nat.pow_le_pow_right (show 0 < 2 by omega) (show b.toNat ≤ 59 by omega)
    have e : (2 : Nat) ^ 59 = 576460752303423488 := by decide
    unfold p2
    omega
  refine (rcover_any b lo hi w (by omega) (by omega) lo0 (by omega) (by omega) (by omega)).mono ?_
  rintro e w' ⟨A, n, cap, l2, rfl, hp2, hF, hb, hok, -⟩
  have h1 : okC b lo hi = true := decide_eq_true ⟨hb0, hb1, lo1, hi1⟩
  have h2 := (hok h1).uniq hc
  subst h2
  have h4 := hp2.1.len
  rw [ints_len] at h4
  subst h4
  rw [h1]
  exact ⟨A, cap, rfl, hp2, fun a ha => hF _ ⟨a, ha, rfl⟩, hb⟩
theorem cover_no (b lo hi : Int) (w : World) (hb0 : 1 ≤ b) (hb1 : b ≤ 59) (lo0 : 0 ≤ lo) (lo1 : lo ≤ 18446744073709551615) (hi0 : 0 ≤ hi) (hi1 : hi ≤ 18446744073709551615) (hn : p2 b.toNat ≤ hi) :
    Calls Tryz.prog 132 #[.int .i64 b, .int .u64 lo, .int .u64 hi] w fun e w' => ∃ v, e = .returned (.tuple #[v, .bool false]) ∧ Below w.heap.size w w' := by
  refine (rcover_any b lo hi w (by omega) (by omega) lo0 lo1 hi0 hi1).mono ?_
  rintro e w' ⟨A, n, cap, l2, rfl, -, -, hb, -, -⟩
  have h1 : okC b lo hi = false := decide_eq_false (by omega)
  rw [h1]
  exact ⟨_, rfl, hb⟩
set_option maxRecDepth 100000 in
set_option maxHeartbeats 4000000 in
theorem rpt_1 (r : Addr) (F : Nat → Prop) (c : Cfg) (sts : List LS) (lo hi : Int) (w : World) (h : DK w r F c sts) (lo0 : 0 ≤ lo) (lo1 : lo ≤ 18446744073709551615) (hi0 : 0 ≤ hi) (hi1 : hi ≤ 18446744073709551615) (h1 : hi < lo) :
    Calls Tryz.prog 104 #[.pointer (some r), .int .u64 lo, .int .u64 hi] w fun e w' => ∃ (A : Addr) (n cap : Nat), e = .returned (.tuple #[.slice (some A) n cap, .int .i64 (ptC2 c lo hi)]) ∧ Rd .i64 w' (some A) (ptL c (fun L i => spV c sts (L : Int) i) lo hi) ∧ (ptL c (fun L i => spV c sts (L : Int) i) lo hi).length = n ∧ n ≤ cap ∧ cap ≤ maxLen ∧ Below w.heap.size w w' := by
  have e1 : ptC2 c lo hi = 1 := by unfold ptC2; rw [if_pos h1]
  have e2 : ptL c (fun L i => spV c sts (L : Int) i) lo hi = [] := by unfold ptL; rw [if_neg (by rw [e1]; decide)]
  rw [e1, e2]
  clear h e1 e2
  go_enter Tryz.func104, Tryz.ntmps104
  go_wp2
  refine bodyPost_ret (v := .tuple #[.slice (some ⟨w.heap.size, 0, none⟩) 0 0, .int .i64 1]) (by simp [results, Tryz.results104, go_sem]) rfl ?_
  exact ⟨_, 0, 0, rfl, rd_nil _ _ _, rfl, Nat.le_refl _, Nat.zero_le _, (by repeat' (first | (with_reducible first | exact Below.refl _ _ | assumption | refine below_over ?_ _ _ | refine Lw.below_alloc ?_ _ | refine Below.drew ?_ | refine below_drewN ?_ _ | refine Below.setCell ?_ ?_ _) | go_size))⟩
set_option maxRecDepth 100000 in
set_option maxHeartbeats 4000000 in
theorem rpt_2 (r : Addr) (F : Nat → Prop) (c : Cfg) (sts : List LS) (lo hi : Int) (w : World) (h : DK w r F c sts) (lo0 : 0 ≤ lo) (lo1 : lo ≤ 18446744073709551615) (hi0 : 0 ≤ hi) (hi1 : hi ≤ 18446744073709551615) (h1 : ¬ hi < lo) (h2 : keys c 0 ≤ hi) :
    Calls Tryz.prog 104 #[.pointer (some r), .int .u64 lo, .int .u64 hi] w fun e w' => ∃ (A : Addr) (n cap : Nat), e = .returned (.tuple #[.slice (some A) n cap, .int .i64 (ptC2 c lo hi)]) ∧ Rd .i64 w' (some A) (ptL c (fun L i => spV c sts (L : Int) i) lo hi) ∧ (ptL c (fun L i => spV c sts (L : Int) i) lo hi).length = n ∧ n ≤ cap ∧ cap ≤ maxLen ∧ Below w.heap.size w w' := by
  have e1 : ptC2 c lo hi = 2 := by unfold ptC2; rw [if_neg h1, if_pos h2]
  have e2 : ptL c (fun L i => spV c sts (L : Int) i) lo hi = [] := by unfold ptL; rw [if_neg (by rw [e1]; decide)]
  rw [e1, e2]
  have hr := h.right.1
  obtain ⟨b, rfl, d0, dlt⟩ := dk_bt h
  have CV := Lib.hid (fun w => cover_no c.bt lo hi w hr.1 hr.2.1 lo0 lo1 hi0 hi1 (by rw [show p2 c.bt.toNat = keys c 0 from two_keys hr]; exact h2))
  clear h e1 e2 hr h2
  go_enter Tryz.func104, Tryz.ntmps104
  go_wp2_with (go_at_call 132; (with_reducible refine (CV.out _).mono ?_); rintro e w1 ⟨v1, rfl, hb⟩; have HB := Lib.hid hb; clear hb)
  refine bodyPost_ret (v := .tuple #[.slice (some ⟨w.heap.size, 0, none⟩) 0 0, .int .i64 2]) (by simp [results, Tryz.results104, go_sem]) rfl ?_
  exact ⟨_, 0, 0, rfl, rd_nil _ _ _, rfl, Nat.le_refl _, Nat.zero_le _, below_call (by repeat' (first | (with_reducible first | exact Below.refl _ _ | assumption | refine below_over ?_ _ _ | refine Lw.below_alloc ?_ _ | refine Below.drew ?_ | refine below_drewN ?_ _ | refine Below.setCell ?_ ?_ _) | go_size)) HB.out (Nat.le_refl _)⟩
set_option maxRecDepth 100000 in
set_option maxHeartbeats 4000000 in
theorem rpt_0 (r : Addr) (F : Nat → Prop) (c : Cfg) (sts : List LS) (lo hi : Int) (w : World) (h : DK w r F c sts) (lo0 : 0 ≤ lo) (lo1 : lo ≤ 18446744073709551615) (hi0 : 0 ≤ hi) (hi1 : hi ≤ 18446744073709551615) (h1 : ¬ hi < lo) (h2 : ¬ keys c 0 ≤ hi) :
    Calls Tryz.prog 104 #[.pointer (some r), .int .u64 lo, .int .u64 hi] w fun e w' => ∃ (A : Addr) (n cap : Nat), e = .returned (.tuple #[.slice (some A) n cap, .int .i64 (ptC2 c lo hi)]) ∧ Rd .i64 w' (some A) (ptL c (fun L i => spV c sts (L : Int) i) lo hi) ∧ (ptL c (fun L i => spV c sts (L : Int) i) lo hi).length = n ∧ n ≤ cap ∧ cap ≤ maxLen ∧ Below w.heap.size w w' := by
  have e1 : ptC2 c lo hi = 0 := by unfold ptC2; rw [if_neg h1, if_neg h2]
  have hr := h.right.1
  have hbt := hr.1
  have h2k := two_keys hr
  obtain ⟨l, hc⟩ := Cov.ex (B := c.bt.toNat) (e := hi.toNat + 1) (hi.toNat + 1 - lo.toNat) lo.toNat rfl (by omega)
  have hll := hc.len (by omega) (by omega)
  have e2 : ptL c (fun L i => spV c sts (L : Int) i) lo hi = l.map (fun p : Nat × Nat => spV c sts (p.1 : Int) ((p.2 : Nat) : Int)) := by
    unfold ptL parts
    rw [if_pos e1, covL_eq hc]
  rw [e1, e2]
  obtain ⟨b, rfl, d0, dlt⟩ := dk_bt h
  have CV := Lib.hid (fun w => cover_ok c.bt lo hi l w hr.1 hr.2.1 lo0 (by omega) (by rw [show p2 c.bt.toNat = keys c 0 from two_keys hr]; omega) hc)
  have CPT := Lib.hid (fun n i w hs n0 n1 i0 i1 => dk_point ⟨b, 0, none⟩ F c sts n i w hs n0 n1 i0 i1)
  have HD := Lib.hid h
  have HNX := Lib.hid (fun j p (h : l[j]? = some p) => (show (l.map (fun p : Nat × Nat => spV c sts (p.1 : Int) ((p.2 : Nat) : Int))).take (j + 1) = (l.map (fun p : Nat × Nat => spV c sts (p.1 : Int) ((p.2 : Nat) : Int))).take j ++ [(fun p : Nat × Nat => spV c sts (p.1 : Int) ((p.2 : Nat) : Int)) p] by
    obtain ⟨k1, k2⟩ := List.getElem?_eq_some_iff.1 h
    rw [← List.map_take, ← List.map_take, List.take_succ_eq_append_getElem k1, List.map_append, k2]
    rfl))
  have hll2 : l.length ≤ 200 := by have := hr.2.1; omega
  have hmx : l.length ≤ maxLen := by unfold maxLen; omega
  obtain ⟨i0, hi9, hi0', hi1', hi2'⟩ := info_parts Exa.i64_info
  obtain ⟨VS, hVS⟩ : ∃ v, l.map (fun p : Nat × Nat => spV c sts (p.1 : Int) ((p.2 : Nat) : Int)) = v := ⟨_, rfl⟩
  rw [hVS] at HNX ⊢
  have HVL : Hid (VS.length = l.length) := Lib.hid (by rw [← hVS, List.length_map])
  clear h e1 e2 hr hc hll hVS h2 h2k hbt hmx
  go_enter Tryz.func104, Tryz.ntmps104
  go_wp2_with (go_at_call 132; (with_reducible refine (CV.out _).mono ?_); rintro e w4 ⟨A2, cap2, rfl, hpc, hbk, hb⟩; have HPC := Lib.hid hpc; have HBK := Lib.hid hbk; have HB4 := Lib.hid hb; clear hb hbk hpc)
  have HBW : Hid (Below w.heap.size w w4) := Lib.hid (below_call (by repeat' (first | (with_reducible first | exact Below.refl _ _ | assumption | refine below_over ?_ _ _ | refine Lw.below_alloc ?_ _ | refine Below.drew ?_ | refine below_drewN ?_ _ | refine Below.setCell ?_ ?_ _) | go_size)) HB4.out (Nat.le_refl _))
  have HOW : Hid (w4.ownsRow w.heap.size 2 1 (.slice (some ⟨w.heap.size, 0, none⟩) 0 0) 0 ((VS.take 0).map (Value.int .i64))) := Lib.hid (by
    rw [List.take_zero]
    exact (Kept.of_below (F := fun _ => False) HB4.out).own (own_empty w 2 1 w.heap.size (Nat.le_refl _)) (fun _ _ h => h))
  clear d0 dlt
  go_loopw [8, 11] (fun v iv wr => ∃ (j g cp : Nat), j ≤ l.length ∧ iv = .int .i64 j ∧ v = .slice (some ⟨g, 0, none⟩) j cp ∧ wr.ownsRow w.heap.size 2 1 v j ((VS.take j).map (Value.int .i64)) ∧ (pcT A2 l.length cap2 (ints l)).I wr ∧ (∀ a, A2 = some a → a.block ≠ g) ∧ w.heap.size ≤ g ∧ Below w.heap.size w wr) (fun _ iv _ => l.length - (intOf iv).toNat)
  case atStart => exact ⟨0, w.heap.size, 0, Nat.zero_le _, rfl, rfl, HOW.out, HPC.out, fun a ha h9 => by
      have h8 := HBK.out a ha
      have h7 : w.heap.size < (w.alloc (.cells #[] 2)).heap.size := by go_size
      first | omega | (simp [go_sem] at h8; omega), Nat.le_refl _, HBW.out⟩
  case round =>
    obtain ⟨j, g, cp, hj, rfl, rfl, hown, hpc, hne, hge, hbw⟩ := hrel
    have HOWN := Lib.hid hown
    have HPCR := Lib.hid hpc
    have HNE := Lib.hid hne
    have HBWR := Lib.hid hbw
    have HDR := Lib.hid (HD.out.up hbw)
    clear hown hpc hne hbw
    by_cases hlt : j < l.length
    · obtain ⟨pp, hp1⟩ : ∃ pp, l[j]? = some pp := ⟨_, List.getElem?_eq_getElem hlt⟩
      have HN := Lib.hid (HNX.out j pp hp1)
      obtain ⟨LV, IX⟩ := pp
      obtain ⟨a2, g2, o2, rfl, hadd, d1, d2, kb, db⟩ := HPCR.out.1.at (ints_get hp1)
      simp only at d1 d2 kb db
      have CPJ := Lib.hid (fun w hs => CPT.out LV IX w hs kb.1 kb.2 db.1 db.2)
      obtain ⟨VV, hVV⟩ : ∃ v, spV c sts (LV : Int) (IX : Int) = v := ⟨_, rfl⟩
      rw [hVV] at CPJ
      have HN2 : Hid (VS.take (j + 1) = VS.take j ++ [VV]) := Lib.hid (by rw [← hVV]; exact HN.out)
      have hj3 : (j : Int) < (l.length : Int) := by omega
      clear hp1 hVV kb db
      go_wp2_with (first
        | (at_builtin; (refine app_onh .i64 rfl _ _ 54 rfl w.heap.size 2 i0 8 Exa.i64s_u hi9 hi0' hi1' hi2' (.slice (some ⟨g, 0, none⟩) j cp) j (VS.take j) rfl (HOW7.out.alloc _) VV w7.heap.size rfl (cell_one_new _ _ _) (by unfold maxLen; omega) (by omega) (by have h4 := HB7.out.size; have h5 := HBWR.out.size; simp [go_sem]; omega) ?_); intro gg cc w1 own1 grow1 hat1)
        | (go_at_call 56; (with_reducible refine (CPJ.out _ HDR.out).mono ?_); rintro e w7 ⟨rfl, hb⟩; have HB7 := Lib.hid hb; have HOW7 := Lib.hid ((Kept.of_below (F := fun _ => False) hb).own HOWN.out (fun _ _ h => h)); have HPC7 := Lib.hid ((pcT (some a2) l.length cap2 (ints l)).keep _ _ (fun _ => False) HPCR.out (Kept.of_below hb) (fun _ _ h => h)); clear hb))
      have hsz7 := HB7.out.size
      have hal : (w7.alloc (.cells #[.int .i64 VV] 2)).heap.size = w7.heap.size + 1 := by simp [go_sem]
      have HPC8 := Lib.hid ((pcT (some a2) l.length cap2 (ints l)).keep _ (w7.alloc (.cells #[.int .i64 VV] 2)) (fun _ => False) HPC7.out (Kept.of_below (Lw.below_alloc (Below.refl _ _) _)) (fun _ _ h => h))
      have HPC9 := Lib.hid ((pcT (some a2) l.length cap2 (ints l)).keep _ w1 (fun q => (Value.slice (some ⟨g, 0, none⟩) j cp).ownBlock = some q) HPC8.out (kept_grown16 grow1) (fun k hk hk2 => by
        obtain ⟨a9, h9, h8⟩ := hk
        have h7 : some g = some k := hk2
        injection h7 with h7
        exact HNE.out a9 h9 (h8.trans h7.symm)))
      have HNE9 : Hid (∀ a, some a2 = some a → a.block ≠ gg) := Lib.hid (fun a ha => by
        rcases hat1 with h | h
        · have h7 : some g = some gg := h
          injection h7 with h7
          rw [← h7]
          exact HNE.out a ha
        · have h8 := HPC7.out.2 a ha
          omega)
      have hgg : w.heap.size ≤ gg := by
        rcases hat1 with h | h
        · have h7 : some g = some gg := h
          injection h7 with h7
          omega
        · have h5 := HBWR.out.size
          omega
      have hb9 : Below w.heap.size w w1 := app_below3 (Lw.below_alloc (below_call HBWR.out HB7.out (Nat.le_refl _)) _) grow1 (fun q hq => by
        have h7 : some g = some q := hq
        injection h7 with h7
        omega)
      have HB9 := Lib.hid hb9
      clear hb9 hal hsz7 hat1 grow1
      go_roundw
      case rel => exact ⟨j + 1, gg, cc, by omega, by go_num, rfl, by rw [HN2.out]; exact own1, HPC9.out, HNE9.out, hgg, HB9.out⟩
      case measure => simp [intOf]; omega
    · obtain rfl : j = l.length := by omega
      have HRD : Hid (Rd .i64 wr (some ⟨g, 0, none⟩) VS ∧ l.length ≤ cp ∧ cp ≤ maxLen) := Lib.hid (by
        have h := HOWN.out
        rw [← HVL.out, List.take_length] at h
        obtain ⟨h1, h2 | ⟨g9, cap9, cur, h3, h4, h5, h6, h7, h8, h9⟩⟩ := h
        · exact absurd h2.1 (by simp)
        · injection h3 with h3 h3b h3c
          injection h3 with h3
          injection h3 with h3
          subst h3 h3c
          exact ⟨fun k v hk => ⟨_, rfl, HOWN.out.cells (g := g) rfl k _ (by rw [List.getElem?_map, ← HVL.out, List.take_length, hk]; rfl)⟩, by rw [← HVL.out]; exact h6, h7⟩)
      clear hlt
      go_wp2
      refine bodyPost_ret (v := .tuple #[.slice (some ⟨g, 0, none⟩) l.length cp, .int .i64 0]) (by simp [results, Tryz.results104, go_sem]) rfl ?_
      exact ⟨_, _, _, rfl, HRD.out.1, HVL.out, HRD.out.2.1, HRD.out.2.2, HBWR.out⟩
theorem rpt_any (r : Addr) (F : Nat → Prop) (c : Cfg) (sts : List LS) (lo hi : Int) (w : World) (h : DK w r F c sts) (lo0 : 0 ≤ lo) (lo1 : lo ≤ 18446744073709551615) (hi0 : 0 ≤ hi) (hi1 : hi ≤ 18446744073709551615) :
    Calls Tryz.prog 104 #[.pointer (some r), .int .u64 lo, .int .u64 hi] w fun e w' => ∃ (A : Addr) (n cap : Nat), e = .returned (.tuple #[.slice (some A) n cap, .int .i64 (ptC2 c lo hi)]) ∧ Rd .i64 w' (some A) (ptL c (fun L i => spV c sts (L : Int) i) lo hi) ∧ (ptL c (fun L i => spV c sts (L : Int) i) lo hi).length = n ∧ n ≤ cap ∧ cap ≤ maxLen ∧ Below w.heap.size w w' := by
  by_cases h1 : hi < lo
  · exact rpt_1 r F c sts lo hi w h lo0 lo1 hi0 hi1 h1
  · by_cases h2 : keys c 0 ≤ hi
    · exact rpt_2 r F c sts lo hi w h lo0 lo1 hi0 hi1 h1 h2
    · exact rpt_0 r F c sts lo hi w h lo0 lo1 hi0 hi1 h1 h2
end Go.Proofs.YtkflggojiiebeaaGreat.Spn

namespace Go.Proofs.YtkflggojiiebeaaGreat.Spn
open Go Go.RowKit Lw Grd Lin Con Shp Sk Exa Lev Stk Pcs
set_option linter.unusedVariables false
set_option linter.unusedSimpArgs false
set_option maxRecDepth 100000 in
set_option maxHeartbeats 4000000 in
theorem rrg_any (r : Addr) (F : Nat → Prop) (c : Cfg) (sts : List LS) (lo hi : Int) (w : World) (h : DK w r F c sts) (lo0 : 0 ≤ lo) (lo1 : lo ≤ 18446744073709551615) (hi0 : 0 ≤ hi) (hi1 : hi ≤ 18446744073709551615) (hz : In64 (ptL c (fun L i => spV c sts (L : Int) i) lo hi)) (hn : (ptL c (fun L i => spV c sts (L : Int) i) lo hi).length ≤ 1000) :
    Calls Tryz.prog 71 #[.pointer (some r), .int .u64 lo, .int .u64 hi] w fun e w' => e = .returned (.tuple #[.int .i64 (rgV c (fun L i => spV c sts (L : Int) i) lo hi), .int .i64 (rgC c (fun L i => spV c sts (L : Int) i) lo hi)]) ∧ Below w.heap.size w w' := by
  have CP := Lib.hid (fun w hs => rpt_any r F c sts lo hi w hs lo0 lo1 hi0 hi1)
  have HD := Lib.hid h
  have HZ := Lib.hid hz
  by_cases h0 : ptC2 c lo hi = 0
  · have e1 : (ptL c (fun L i => spV c sts (L : Int) i) lo hi) = parts c (fun L i => spV c sts (L : Int) i) lo hi := if_pos h0
    have hc : rgC c (fun L i => spV c sts (L : Int) i) lo hi = if Wid.fit64 (ptL c (fun L i => spV c sts (L : Int) i) lo hi).sum = true then 0 else 4 := by unfold rgC; rw [if_pos h0, e1]
    have hv : rgV c (fun L i => spV c sts (L : Int) i) lo hi = Wid.f64 (ptL c (fun L i => spV c sts (L : Int) i) lo hi).sum := by
      unfold rgV Wid.f64
      rw [hc, e1]
      cases hf : Wid.fit64 (parts c (fun L i => spV c sts (L : Int) i) lo hi).sum <;> simp
    rw [hc, hv]
    rw [h0] at CP
    obtain ⟨L, hL⟩ : ∃ L, (ptL c (fun L i => spV c sts (L : Int) i) lo hi) = L := ⟨_, rfl⟩
    rw [hL] at CP HZ hn ⊢
    have HN := Lib.hid hn
    cases hf : Wid.fit64 L.sum with
    | true =>
      have CS := Lib.hid (fun (A : Option Addr) (n cap : Nat) (w : World) (hr : Rd .i64 w A L) (hl : L.length = n) => Wid.rsum_any A n cap L w hr hl (by have := HN.out; omega) HZ.out)
      rw [hf] at CS
      rw [if_pos rfl]
      obtain ⟨S, hS⟩ : ∃ S, Wid.f64 L.sum = S := ⟨_, rfl⟩
      rw [hS] at CS ⊢
      clear h hz e1 hc hv h0 hL hn hf hS
      go_enter Tryz.func71, Tryz.ntmps71
      go_wp2_with (first
        | (go_at_call 105; (with_reducible refine (CS.out _ _ _ _ HR1.out HL1.out).mono ?_); rintro e w2 ⟨rfl, hb⟩; have HB2 := Lib.hid (below_call HB1.out hb (Nat.le_refl _)); clear hb)
        | (go_at_call 104; (with_reducible refine (CP.out _ HD.out).mono ?_); rintro e w1 ⟨A1, n1, cap1, rfl, hr1, hl1, _, _, hb⟩; have HR1 := Lib.hid hr1; have HL1 := Lib.hid hl1; have HB1 := Lib.hid hb; clear hb hr1 hl1))
      refine bodyPost_ret (v := .tuple #[.int .i64 S, .int .i64 0]) (by simp [results, Tryz.results71, go_sem]) rfl ?_
      exact ⟨rfl, HB2.out⟩
    | false =>
      have CS := Lib.hid (fun (A : Option Addr) (n cap : Nat) (w : World) (hr : Rd .i64 w A L) (hl : L.length = n) => Wid.rsum_any A n cap L w hr hl (by have := HN.out; omega) HZ.out)
      rw [hf] at CS
      rw [show Wid.f64 L.sum = 0 by unfold Wid.f64; rw [hf]; rfl] at CS ⊢
      rw [if_neg (by decide)]
      clear h hz e1 hc hv h0 hL hn hf
      go_enter Tryz.func71, Tryz.ntmps71
      go_wp2_with (first
        | (go_at_call 105; (with_reducible refine (CS.out _ _ _ _ HR1.out HL1.out).mono ?_); rintro e w2 ⟨rfl, hb⟩; have HB2 := Lib.hid (below_call HB1.out hb (Nat.le_refl _)); clear hb)
        | (go_at_call 104; (with_reducible refine (CP.out _ HD.out).mono ?_); rintro e w1 ⟨A1, n1, cap1, rfl, hr1, hl1, _, _, hb⟩; have HR1 := Lib.hid hr1; have HL1 := Lib.hid hl1; have HB1 := Lib.hid hb; clear hb hr1 hl1))
      refine bodyPost_ret (v := .tuple #[.int .i64 0, .int .i64 4]) (by simp [results, Tryz.results71, go_sem]) rfl ?_
      exact ⟨rfl, HB2.out⟩
  · have hc : rgC c (fun L i => spV c sts (L : Int) i) lo hi = ptC2 c lo hi := by unfold rgC; rw [if_neg h0]
    have hv : rgV c (fun L i => spV c sts (L : Int) i) lo hi = 0 := by unfold rgV; rw [if_neg (by rw [hc]; exact h0)]
    rw [hc, hv]
    obtain ⟨E, hE⟩ : ∃ E, ptC2 c lo hi = E := ⟨_, rfl⟩
    rw [hE] at CP h0 ⊢
    have h0b : (E == 0) = false := by simpa using h0
    have h0c : (E != 0) = true := by simpa using h0
    clear h hz hc hv hE
    go_enter Tryz.func71, Tryz.ntmps71
    go_wp2_with (go_at_call 104; (with_reducible refine (CP.out _ HD.out).mono ?_); rintro e w1 ⟨A1, n1, cap1, rfl, hr1, hl1, _, _, hb⟩; have HB1 := Lib.hid hb; clear hb hr1 hl1)
    refine bodyPost_ret (v := .tuple #[.int .i64 0, .int .i64 E]) (by simp [results, Tryz.results71, go_sem]) rfl ?_
    exact ⟨rfl, HB1.out⟩
end Go.Proofs.YtkflggojiiebeaaGreat.Spn

namespace Go.Proofs.YtkflggojiiebeaaGreat.Smr
open Go Go.RowKit Lw Grd Lin Con Shp Sk Exa Lev Stk
set_option linter.unusedVariables false
set_option linter.unusedSimpArgs false
theorem lst_uint64_c : Tryz.prog.cellsOf 22 = 1 := by kernel_rfl
set_option maxRecDepth 100000 in
theorem open_list_uint64 {H : Type} {enc : TypeId × Value → H} {W : World} {v : Value} {d : DataW H} {p : List MemPlace} {base : Nat} (hv : Value.okWide Tryz.prog W .any base 66 v)
    (h : DataW.Trod enc Tryz.prog W 0 (fun _ => true) true 66 v d p) :
    ∃ (A : Option Addr) (n cap : Nat) (zs : List Int), v = .slice A n cap ∧ (A = none → n = 0 ∧ cap = 0) ∧ n ≤ cap ∧ cap ≤ maxLen ∧ Rd .u64 W A zs ∧ zs.length = n ∧ (∀ v ∈ zs, 0 ≤ v ∧ v ≤ 18446744073709551615) := by
  obtain ⟨a0, len, cap, rfl⟩ := Go.WideShapes.okWide_slice Tryz.underlying66 hv
  obtain ⟨fuel, hf⟩ := h
  rcases Go.ChangeShapes.open_ints Tryz.underlying66 Tryz.underlying22 lst_uint64_c hf with ⟨hcs, _⟩ | ⟨a, len', cap', zs, hcs, _, hl, hm, hz, _, hcell, hwz⟩
  · simp [Value.cells] at hcs
    obtain ⟨rfl, rfl, rfl⟩ := hcs
    exact ⟨none, 0, 0, [], rfl, fun _ => ⟨rfl, rfl⟩, Nat.le_refl _, by simp, rd_nil _ _ _, rfl, fun v h => by simp at h⟩
  · simp [Value.cells] at hcs
    obtain ⟨rfl, rfl, rfl⟩ := hcs
    have hz2 : zs.length = cap := by simpa using hz
    refine ⟨some a, len, cap, zs.take len, rfl, (fun h => by cases h), hl, hm, ?_, by simp; omega, ?_⟩
    · intro k v hk
      rw [List.getElem?_take] at hk
      split at hk
      · refine ⟨a, rfl, ?_⟩
        rw [hcell k (by omega)]
        simp [hk]
      · cases hk
    · intro v hv
      exact Lw.wf_u64 (hwz v (List.mem_of_mem_take hv))
end Go.Proofs.YtkflggojiiebeaaGreat.Smr

namespace Go.Proofs.YtkflggojiiebeaaGreat.Smr
open Go Go.RowKit Lw Grd Lin Con Shp Sk Exa Lev Stk Pcs Spn Qnt Hvy
set_option linter.unusedVariables false
set_option linter.unusedSimpArgs false
theorem dk_cfg {w : World} {r : Addr} {F : Nat → Prop} {c : Cfg} {sts : List LS} (h : DK w r F c sts) : ∃ b, r = ⟨b, 0, none⟩ ∧ w.cell? ⟨b, 0, none⟩ = some (.int .i64 c.bt) ∧ w.cell? ⟨b, 1, none⟩ = some (.int .i64 c.rw) ∧ w.cell? ⟨b, 2, none⟩ = some (.int .i64 c.wd) ∧ w.cell? ⟨b, 3, none⟩ = some (.int .i64 c.md) ∧ w.cell? ⟨b, 4, none⟩ = some (.int .u64 c.sd) := by
  obtain ⟨hr, hc, hl, b, B0, hdr, vals, ts, e, hrow, hI, -⟩ := h
  have hb := (Hold.start hI).i (t := dkB b c hdr) (by simp)
  exact ⟨b, e, box_cell hb (i := 0) rfl, box_cell hb (i := 1) rfl, box_cell hb (i := 2) rfl, box_cell hb (i := 3) rfl, box_cell hb (i := 4) rfl⟩
set_option maxRecDepth 100000 in
set_option maxHeartbeats 8000000 in
theorem rhisto (r : Addr) (G : Nat → Prop) (c : Cfg) (sts : List LS) (A : Option Addr) (n cap : Nat) (cs : List Int) (w : World) (h : DK w r G c sts) (hpt : (∀ lo hi : Int, In64 (ptL c (fun L i => spV c sts (L : Int) i) lo hi)) ∧ (∀ lo hi : Int, 0 ≤ lo → (ptL c (fun L i => spV c sts (L : Int) i) lo hi).length ≤ 1000)) (hrd : Rd .u64 w A cs) (hl : cs.length = n) (hz : ∀ v ∈ cs, 0 ≤ v ∧ v ≤ 18446744073709551615) (hn : n ≤ 4000) :
    Calls Tryz.prog 32 #[.pointer (some r), .slice A n cap] w fun e w' => ∃ (A2 : Option Addr) (n2 cap2 : Nat), e = .returned (.tuple #[.slice A2 n2 cap2, .int .i64 (hgC c (fun L i => spV c sts (L : Int) i) cs)]) ∧ w'.ownsRow w.heap.size 2 1 (.slice A2 n2 cap2) n2 ((hgL c (fun L i => spV c sts (L : Int) i) cs).map (Value.int .i64)) ∧ (hgL c (fun L i => spV c sts (L : Int) i) cs).length = n2 ∧ Below w.heap.size w w' := by
  obtain ⟨b0, rfl⟩ := dk_ptr h
  have hkey : 1 ≤ keys c 0 := keys_pos.2 ⟨h.1, by omega, by have := h.1.1; omega⟩
  have hkb := keys_bd c 0
  have CK := Lib.hid (fun w => rkeys_any c 0 w h.2.1 (by omega) (by omega))
  have HD := Lib.hid h
  have HPT := Lib.hid hpt
  have HRD := Lib.hid hrd
  have HL := Lib.hid hl
  have HN := Lib.hid hn
  have HZ := Lib.hid hz
  have HNO := Lib.hid (fun hh => hg_no (c := c) (pt := (fun L i => spV c sts (L : Int) i)) (l := cs) hh)
  have HYE := Lib.hid (fun hh => hg_yes (c := c) (pt := (fun L i => spV c sts (L : Int) i)) (l := cs) hh)
  have HSBX := Lib.hid (fun hh => spans_bd (cs := cs) hkey (by omega) hh)
  have HSL := Lib.hid (spansQ_len (keys c 0) cs)
  obtain ⟨K, hK⟩ : ∃ v, keys c 0 = v := ⟨_, rfl⟩
  rw [hK] at CK HNO HYE HSBX HSL hkey hkb
  have HKB := Lib.hid (And.intro hkey hkb.2)
  have wK : IntKind.u64.wrap (K - 1) = K - 1 := by rw [IntKind.wrap_u64]; omega
  obtain ⟨C9, hC9⟩ : ∃ v, (hgC c (fun L i => spV c sts (L : Int) i) cs) = v := ⟨_, rfl⟩
  obtain ⟨L9, hL9⟩ : ∃ v, (hgL c (fun L i => spV c sts (L : Int) i) cs) = v := ⟨_, rfl⟩
  rw [hC9] at HNO HYE ⊢
  rw [hL9] at HNO HYE ⊢
  obtain ⟨i0, hi_, hz0, hz1, hz2⟩ := info_parts i64_info
  clear h hpt hrd hl hz hkey hkb hK hC9 hL9
  go_enter Tryz.func32, Tryz.ntmps32
  go_wp2
  go_loopw [6] (fun iv wr => ∃ (t : Nat), 1 ≤ t ∧ (t ≤ n ∨ t = 1) ∧ iv = .int .i64 (t : Int) ∧ (∀ (i : Nat) (a b : Int), i + 1 < t → cs[i]? = some a → cs[i + 1]? = some b → a < b) ∧ Below w.heap.size w wr) (fun iv _ => n + 1 - (intOf iv).toNat)
  case atStart => exact ⟨1, Nat.le_refl _, .inr rfl, rfl, fun i a b h => by omega, Below.refl _ _⟩
  case round =>
    obtain ⟨t, ht1, ht, rfl, hok, hv⟩ := hrel
    have HOK := Lib.hid hok
    have HBr := Lib.hid hv
    clear hok hv
    by_cases hlt : t < n
    · have lt1 : (t : Int) < (n : Int) := by omega
      have lt0 : (0 : Int) ≤ (t : Int) := by omega
      obtain ⟨x, hx⟩ : ∃ x, cs[t]? = some x := ⟨_, List.getElem?_eq_getElem (by rw [HL.out]; exact hlt)⟩
      have HX := Lib.hid hx
      obtain ⟨ad, rfl, hcz⟩ := HRD.out _ _ hx
      have d1 := cell_up hcz HBr.out
      obtain ⟨j, hj⟩ : ∃ j, t = j + 1 := ⟨t - 1, by omega⟩
      obtain ⟨y, hy⟩ : ∃ y, cs[j]? = some y := ⟨_, List.getElem?_eq_getElem (by rw [HL.out]; omega)⟩
      have d2 := cell_up (HRD.out.at hy) HBr.out
      have HY := Lib.hid hy
      have p2 : (0 : Int) ≤ (j : Int) := by omega
      have p3 : (j : Int) < (n : Int) := by omega
      have p4 : wrap64 ((t : Int) - 1) = (j : Int) := (IntWalk.wrap64_in _ ⟨by omega, by omega⟩).trans (by omega)
      have p5 : IntKind.i64.wrap ((t : Int) - 1) = (j : Int) := (IntWalk.i64_in _ ⟨by omega, by omega⟩).trans (by omega)
      have HJ := Lib.hid hj
      clear hx hcz hy hj ht
      by_cases hle : x ≤ y
      · have HRN := Lib.hid (rise_no HY.out (by rw [← HJ.out]; exact HX.out) hle)
        have HCU := Lib.hid (cut_arg (K := K) HRN.out)
        have HQ := Lib.hid (HNO.out (by rw [HCU.out]; decide))
        have g1 : decide (x ≤ y) = true := decide_eq_true hle
        go_wp2
        go_quiet (fail)
        go_wp2
        refine bodyPost_ret (v := .tuple #[.slice none 0 0, .int .i64 1]) (by simp [results, Tryz.results32, go_sem]) rfl ?_
        rw [HQ.out.1, HQ.out.2, HCU.out]
        exact ⟨none, 0, 0, rfl, World.ownsRow_nil _ _ _ _, rfl, by have h5 := HBr.out; exact (by repeat' (first | (with_reducible first | exact Below.refl _ _ | assumption | refine below_over ?_ _ _ | refine Lw.below_alloc ?_ _ | refine Below.drew ?_ | refine below_drewN ?_ _ | refine Below.setCell ?_ ?_ _) | go_size))⟩
      · have g1 : decide (x ≤ y) = false := decide_eq_false hle
        have HLT : Hid (y < x) := Lib.hid (by omega)
        go_wp2
        go_quiet (fail)
        go_wp2
        go_roundw
        case rel => exact ⟨t + 1, by omega, .inl (by omega), by go_num, fun i a b h h1 h2 => by
            by_cases hi : i = j
            · subst hi
              rw [HY.out] at h1
              rw [← HJ.out, HX.out] at h2
              cases h1; cases h2
              exact HLT.out
            · exact HOK.out i a b (by have := HJ.out; omega) h1 h2, by have h5 := HBr.out; exact (by repeat' (first | (with_reducible first | exact Below.refl _ _ | assumption | refine below_over ?_ _ _ | refine Lw.below_alloc ?_ _ | refine Below.drew ?_ | refine below_drewN ?_ _ | refine Below.setCell ?_ ?_ _) | go_size))⟩
        case measure => simp [intOf]; omega
    · have lt1 : ¬ (t : Int) < (n : Int) := by omega
      have HRY := Lib.hid (rise_yes (l := cs) (fun i a b h1 h2 => HOK.out i a b (by have := (List.getElem?_eq_some_iff.1 h2).1; rw [HL.out] at this; omega) h1 h2))
      have HDr := Lib.hid (HD.out.up HBr.out)
      obtain ⟨b, eb, c0, c1, c2, c3, c4⟩ := dk_cfg HDr.out
      injection eb with eb
      subst eb
      clear HOK ht ht1 hlt
      go_wp2_with (go_at_call 37; (with_reducible refine (CK.out _).mono ?_); rintro e w2 ⟨rfl, hb⟩; have HB2 := Lib.hid (HBr.out.trans (hb.mono HBr.out.size)); clear hb)
      clear lt1 c0 c1 c2 c3 c4
      go_loopw [8] (fun iv wr => ∃ (t : Nat), t ≤ n ∧ iv = .int .i64 (t : Int) ∧ (∀ x ∈ cs.take t, 1 ≤ x ∧ x < K) ∧ Below w.heap.size w wr) (fun iv _ => n - (intOf iv).toNat)
      case atStart => exact ⟨0, Nat.zero_le _, rfl, fun x hx => by simp at hx, HB2.out⟩
      case round =>
        obtain ⟨t, ht, rfl, hok, hv⟩ := hrel
        have HOK := Lib.hid hok
        have HBq := Lib.hid hv
        clear hok hv
        by_cases hlt : t < n
        · have lt1 : (t : Int) < (n : Int) := by omega
          have lt0 : (0 : Int) ≤ (t : Int) := by omega
          obtain ⟨x, hx⟩ : ∃ x, cs[t]? = some x := ⟨_, List.getElem?_eq_getElem (by rw [HL.out]; exact hlt)⟩
          have HX := Lib.hid hx
          have hzx := HZ.out x (List.mem_of_getElem? hx)
          obtain ⟨ad, rfl, hcz⟩ := HRD.out _ _ hx
          have d1 := cell_up hcz HBq.out
          clear hx hcz
          by_cases hbad : x < 1 ∨ K ≤ x
          · have HIN := Lib.hid (inn_no (K := K) (List.mem_of_getElem? HX.out) (by omega))
            have HC := Lib.hid (cut_key HRY.out HIN.out)
            have HQ := Lib.hid (HNO.out (by rw [HC.out]; decide))
            by_cases hx1 : x < 1
            · have e1 : decide (x < 1) = true := decide_eq_true hx1
              go_wp2
              refine bodyPost_ret (v := .tuple #[.slice none 0 0, .int .i64 2]) (by simp [results, Tryz.results32, go_sem]) rfl ?_
              rw [HQ.out.1, HQ.out.2, HC.out]
              exact ⟨none, 0, 0, rfl, World.ownsRow_nil _ _ _ _, rfl, HBq.out⟩
            · have e1 : decide (x < 1) = false := decide_eq_false hx1
              have e3 : K ≤ x := by omega
              have e2 : decide (K ≤ x) = true := decide_eq_true e3
              go_wp2
              refine bodyPost_ret (v := .tuple #[.slice none 0 0, .int .i64 2]) (by simp [results, Tryz.results32, go_sem]) rfl ?_
              rw [HQ.out.1, HQ.out.2, HC.out]
              exact ⟨none, 0, 0, rfl, World.ownsRow_nil _ _ _ _, rfl, HBq.out⟩
          · have e1 : decide (x < 1) = false := decide_eq_false (by omega)
            have e4 : ¬ x < 1 := by omega
            have e3 : ¬ K ≤ x := by omega
            have e2 : decide (K ≤ x) = false := decide_eq_false e3
            have HNX := Lib.hid (all_next (p := fun x => 1 ≤ x ∧ x < K) HX.out HOK.out (by omega))
            clear hbad hzx
            go_wp2
            go_roundw
            case rel => exact ⟨t + 1, by omega, by go_num, HNX.out, HBq.out⟩
            case measure => simp [intOf]; omega
        · obtain rfl : t = n := by omega
          have lt1 : ¬ (t : Int) < (t : Int) := by omega
          have et : cs.take t = cs := List.take_of_length_le (by rw [HL.out]; omega)
          rw [et] at HOK
          have HIN2 := Lib.hid HOK.out
          have HCU := Lib.hid (cut_ok HRY.out (inn_yes HOK.out))
          have HYES := Lib.hid (HYE.out HCU.out)
          have HSB := Lib.hid (HSBX.out HCU.out)
          have HV0 : Hid (Have w (wr.alloc (.cells #[] 2)) [ownK w.heap.size 2 1 (.slice (some ⟨wr.heap.size, 0, none⟩) 0 0) 0 []]) := Lib.hid (((Have.nil w).up HBq.out).push (ownK w.heap.size 2 1 (.slice (some ⟨wr.heap.size, 0, none⟩) 0 0) 0 []) (Lw.below_alloc (Below.refl _ _) _) (own_empty wr 2 1 w.heap.size HBq.out.size) (fun k hk => by have : some wr.heap.size = some k := hk; injection this with this; omega))
          clear HNO HYE HSBX HOK et hlt ht
          obtain ⟨n, hnt⟩ : ∃ n, n = t := ⟨_, rfl⟩
          rw [← hnt] at HL HN lt1 hn ⊢
          clear hnt
          go_wp2
          clear lt1
          go_loopw [9, 10] (fun av iv wr => ∃ (t : Nat), t ≤ n + 1 ∧ iv = .int .i64 (t : Int) ∧ (∀ q ∈ (spansQ K cs).take t, ((rgF c (fun L i => spV c sts (L : Int) i)) q).2 = 0) ∧ Have w wr [ownK w.heap.size 2 1 av t ((((spansQ K cs).take t).map (fun q => ((rgF c (fun L i => spV c sts (L : Int) i)) q).1)).map (Value.int .i64))]) (fun _ iv _ => n + 1 - (intOf iv).toNat)
          case atStart => exact ⟨0, Nat.zero_le _, rfl, fun q hq => by simp at hq, HV0.out⟩
          case round =>
            obtain ⟨t, ht, rfl, hok, hv⟩ := hrel
            have HVr := Lib.hid hv
            have HOK := Lib.hid hok
            clear hv hok
            by_cases hle : t ≤ n
            · have le0 : (0 : Int) ≤ (t : Int) := by omega
              have le1 : (t : Int) ≤ (n : Int) := by omega
              by_cases ht0 : 0 < t
              · by_cases hlt : t < n
                · as_aux_lemma =>
                  obtain ⟨j, hj⟩ : ∃ j, t = j + 1 := ⟨t - 1, by omega⟩
                  obtain ⟨y, hy⟩ : ∃ y, cs[j]? = some y := ⟨_, List.getElem?_eq_getElem (by rw [HL.out]; omega)⟩
                  obtain ⟨ady, hay, hcy⟩ := HRD.out _ _ hy
                  have d2 := cell_up hcy HVr.out.below
                  have p2 : (0 : Int) ≤ (j : Int) := by omega
                  have p3 : (j : Int) < (n : Int) := by omega
                  have p4 : wrap64 ((t : Int) - 1) = (j : Int) := (IntWalk.wrap64_in _ ⟨by omega, by omega⟩).trans (by omega)
                  have p5 : IntKind.i64.wrap ((t : Int) - 1) = (j : Int) := (IntWalk.i64_in _ ⟨by omega, by omega⟩).trans (by omega)
                  have HLO : Hid (loQ cs t = y) := Lib.hid (by rw [hj]; exact loQ_next hy)
                  have p0 : decide (0 < t) = true := decide_eq_true ht0
                  obtain ⟨x, hx⟩ : ∃ x, cs[t]? = some x := ⟨_, List.getElem?_eq_getElem (by rw [HL.out]; exact hlt)⟩
                  obtain ⟨ad, hax, hcx⟩ := HRD.out _ _ hx
                  obtain rfl : ady = ad := by rw [hay] at hax; injection hax
                  subst hay
                  have d1 := cell_up hcx HVr.out.below
                  have hxb := HIN2.out x (List.mem_of_getElem? hx)
                  have HHI : Hid (hiQ K cs t = x - 1) := Lib.hid (hiQ_at hx)
                  have lt1 : (t : Int) < (n : Int) := by omega
                  have hxv := hxb.1
                  obtain ⟨XM, hXM⟩ : ∃ v, x - 1 = v := ⟨_, rfl⟩
                  have wx : IntKind.u64.wrap (x - 1) = XM := by rw [← hXM, IntKind.wrap_u64]; have := HKB.out.2; omega
                  rw [hXM] at HHI
                  have HXM : Hid (x - 1 = XM) := Lib.hid hXM
                  have HSQ := Lib.hid (spansQ_at (K := K) (l := cs) (i := t) (by rw [HL.out]; omega))
                  rw [HLO.out, HHI.out] at HSQ
                  have hsb := HSB.out _ (List.mem_of_getElem? HSQ.out)
                  obtain ⟨V, hV⟩ : ∃ v, ((rgF c (fun L i => spV c sts (L : Int) i)) (y, XM)).1 = v := ⟨_, rfl⟩
                  obtain ⟨E, hE⟩ : ∃ v, ((rgF c (fun L i => spV c sts (L : Int) i)) (y, XM)).2 = v := ⟨_, rfl⟩
                  have HVE := Lib.hid (And.intro hV hE)
                  have CC : Hid (∀ w9, DK w9 ⟨b0, 0, none⟩ G c sts → Calls Tryz.prog 71 #[.pointer (some ⟨b0, 0, none⟩), .int .u64 y, .int .u64 XM] w9 fun e w' => e = .returned (.tuple #[.int .i64 V, .int .i64 E]) ∧ Below w9.heap.size w9 w') := Lib.hid (fun w9 h1 => by rw [← hV, ← hE]; exact rrg_any ⟨b0, 0, none⟩ G c sts y XM w9 h1 hsb.1.1 hsb.1.2 hsb.2.1 hsb.2.2 (HPT.out.1 _ _) (HPT.out.2 _ _ hsb.1.1))
                  clear hV hE hsb hXM hy hcy hj hx hcx hxb
                  by_cases hE0 : E = 0
                  · subst hE0
                    have HNX := Lib.hid (all_next (p := fun q => ((rgF c (fun L i => spV c sts (L : Int) i)) q).2 = 0) HSQ.out HOK.out HVE.out.2)
                    have HTK : Hid (((((spansQ K cs).take (t + 1)).map (fun q => ((rgF c (fun L i => spV c sts (L : Int) i)) q).1)).map (Value.int .i64)) = ((((spansQ K cs).take t).map (fun q => ((rgF c (fun L i => spV c sts (L : Int) i)) q).1)).map (Value.int .i64)) ++ [.int .i64 V]) := Lib.hid (by rw [take_next HSQ.out, List.map_append, List.map_append]; show _ ++ [Value.int .i64 ((rgF c (fun L i => spV c sts (L : Int) i)) _).1] = _; rw [HVE.out.1])
                    go_upto_region 25 with (go_at_call 71; (with_reducible refine (CC.out _ (HD.out.up HVr.out.below)).mono ?_); rintro e w5 ⟨rfl, hb⟩; have HV5 := Lib.hid (HVr.out.up hb); clear hb)
                    have n4 := HN.out
                    go_wp2_with (at_builtin; go_must (refine wpList_append_lies _ rfl _ _ 54 rfl w.heap.size 2 i0 (.int .i64 0) 1 8 i64s_u hi_ hz0 hz1 hz2 rfl (by decide) _ _ _ rfl ((okI HV5.out.i0).alloc _) ⟨_, 0, none⟩ 1 1 [.int .i64 V] rfl rfl (World.news_of_block (heap_alloc_new w5 _)) (one_i64 _) (by decide) (by unfold maxLen; omega) (by omega) (by simp; have := HV5.out.below.size; omega) _ rfl ?_); intro g7 cap7 w7 hown7 hgrow7 hat7 hlt7)
                    have HVa := Lib.hid (HV5.out.up (Lw.below_alloc (Below.refl _ w5) (.cells #[.int .i64 V] 2)))
                    have HV7 := Lib.hid (turn0K HVa.out hown7 hgrow7 hat7)
                    go_roundw
                    case rel => exact ⟨t + 1, by omega, by go_num, HNX.out, by rw [HTK.out]; exact HV7.out.up (by repeat' (first | (with_reducible first | exact Below.refl _ _ | assumption | refine below_over ?_ _ _ | refine Lw.below_alloc ?_ _ | refine Below.drew ?_ | refine below_drewN ?_ _ | refine Below.setCell ?_ ?_ _) | go_size))⟩
                    case measure => simp [intOf]; omega
                  · have hE1 : ((E : Int) == 0) = false := beq_eq_false_iff_ne.2 hE0
                    have hE2 : ((E : Int) != 0) = true := by simp [hE0]
                    have HMA := Lib.hid (many_at HSQ.out HOK.out (by rw [HVE.out.2]; exact hE0))
                    have HEE := Lib.hid HVE.out.2
                    go_wp2_with (go_at_call 71; (with_reducible refine (CC.out _ (HD.out.up HVr.out.below)).mono ?_); rintro e w5 ⟨rfl, hb⟩; have HV5 := Lib.hid (HVr.out.up hb); clear hb)
                    refine bodyPost_ret (v := .tuple #[.slice none 0 0, .int .i64 E]) (by simp [results, Tryz.results32, go_sem]) rfl ?_
                    obtain ⟨e9, l9⟩ := HYES.out
                    rw [e9, l9, HMA.out.1, HMA.out.2, HEE.out]
                    exact ⟨none, 0, 0, rfl, World.ownsRow_nil _ _ _ _, rfl, HV5.out.below⟩
                · as_aux_lemma =>
                  obtain ⟨j, hj⟩ : ∃ j, t = j + 1 := ⟨t - 1, by omega⟩
                  obtain ⟨y, hy⟩ : ∃ y, cs[j]? = some y := ⟨_, List.getElem?_eq_getElem (by rw [HL.out]; omega)⟩
                  obtain ⟨ady, hay, hcy⟩ := HRD.out _ _ hy
                  have d2 := cell_up hcy HVr.out.below
                  have p2 : (0 : Int) ≤ (j : Int) := by omega
                  have p3 : (j : Int) < (n : Int) := by omega
                  have p4 : wrap64 ((t : Int) - 1) = (j : Int) := (IntWalk.wrap64_in _ ⟨by omega, by omega⟩).trans (by omega)
                  have p5 : IntKind.i64.wrap ((t : Int) - 1) = (j : Int) := (IntWalk.i64_in _ ⟨by omega, by omega⟩).trans (by omega)
                  have HLO : Hid (loQ cs t = y) := Lib.hid (by rw [hj]; exact loQ_next hy)
                  have p0 : decide (0 < t) = true := decide_eq_true ht0
                  subst hay
                  have HHI : Hid (hiQ K cs t = K - 1) := Lib.hid (by have h9 := hiQ_last K cs; rw [HL.out] at h9; rw [show t = n by omega]; exact h9)
                  have lt1 : ¬ (t : Int) < (n : Int) := by omega
                  obtain ⟨XM, hXM⟩ : ∃ v, K - 1 = v := ⟨_, rfl⟩
                  rw [hXM] at HHI
                  have wK2 : IntKind.u64.wrap (K - 1) = XM := wK.trans hXM
                  clear wK
                  have HSQ := Lib.hid (spansQ_at (K := K) (l := cs) (i := t) (by rw [HL.out]; omega))
                  rw [HLO.out, HHI.out] at HSQ
                  have hsb := HSB.out _ (List.mem_of_getElem? HSQ.out)
                  obtain ⟨V, hV⟩ : ∃ v, ((rgF c (fun L i => spV c sts (L : Int) i)) (y, XM)).1 = v := ⟨_, rfl⟩
                  obtain ⟨E, hE⟩ : ∃ v, ((rgF c (fun L i => spV c sts (L : Int) i)) (y, XM)).2 = v := ⟨_, rfl⟩
                  have HVE := Lib.hid (And.intro hV hE)
                  have CC : Hid (∀ w9, DK w9 ⟨b0, 0, none⟩ G c sts → Calls Tryz.prog 71 #[.pointer (some ⟨b0, 0, none⟩), .int .u64 y, .int .u64 XM] w9 fun e w' => e = .returned (.tuple #[.int .i64 V, .int .i64 E]) ∧ Below w9.heap.size w9 w') := Lib.hid (fun w9 h1 => by rw [← hV, ← hE]; exact rrg_any ⟨b0, 0, none⟩ G c sts y XM w9 h1 hsb.1.1 hsb.1.2 hsb.2.1 hsb.2.2 (HPT.out.1 _ _) (HPT.out.2 _ _ hsb.1.1))
                  clear hV hE hsb hXM hy hcy hj
                  by_cases hE0 : E = 0
                  · subst hE0
                    have HNX := Lib.hid (all_next (p := fun q => ((rgF c (fun L i => spV c sts (L : Int) i)) q).2 = 0) HSQ.out HOK.out HVE.out.2)
                    have HTK : Hid (((((spansQ K cs).take (t + 1)).map (fun q => ((rgF c (fun L i => spV c sts (L : Int) i)) q).1)).map (Value.int .i64)) = ((((spansQ K cs).take t).map (fun q => ((rgF c (fun L i => spV c sts (L : Int) i)) q).1)).map (Value.int .i64)) ++ [.int .i64 V]) := Lib.hid (by rw [take_next HSQ.out, List.map_append, List.map_append]; show _ ++ [Value.int .i64 ((rgF c (fun L i => spV c sts (L : Int) i)) _).1] = _; rw [HVE.out.1])
                    go_upto_region 25 with (go_at_call 71; (with_reducible refine (CC.out _ (HD.out.up HVr.out.below)).mono ?_); rintro e w5 ⟨rfl, hb⟩; have HV5 := Lib.hid (HVr.out.up hb); clear hb)
                    have n4 := HN.out
                    go_wp2_with (at_builtin; go_must (refine wpList_append_lies _ rfl _ _ 54 rfl w.heap.size 2 i0 (.int .i64 0) 1 8 i64s_u hi_ hz0 hz1 hz2 rfl (by decide) _ _ _ rfl ((okI HV5.out.i0).alloc _) ⟨_, 0, none⟩ 1 1 [.int .i64 V] rfl rfl (World.news_of_block (heap_alloc_new w5 _)) (one_i64 _) (by decide) (by unfold maxLen; omega) (by omega) (by simp; have := HV5.out.below.size; omega) _ rfl ?_); intro g7 cap7 w7 hown7 hgrow7 hat7 hlt7)
                    have HVa := Lib.hid (HV5.out.up (Lw.below_alloc (Below.refl _ w5) (.cells #[.int .i64 V] 2)))
                    have HV7 := Lib.hid (turn0K HVa.out hown7 hgrow7 hat7)
                    go_roundw
                    case rel => exact ⟨t + 1, by omega, by go_num, HNX.out, by rw [HTK.out]; exact HV7.out.up (by repeat' (first | (with_reducible first | exact Below.refl _ _ | assumption | refine below_over ?_ _ _ | refine Lw.below_alloc ?_ _ | refine Below.drew ?_ | refine below_drewN ?_ _ | refine Below.setCell ?_ ?_ _) | go_size))⟩
                    case measure => simp [intOf]; omega
                  · have hE1 : ((E : Int) == 0) = false := beq_eq_false_iff_ne.2 hE0
                    have hE2 : ((E : Int) != 0) = true := by simp [hE0]
                    have HMA := Lib.hid (many_at HSQ.out HOK.out (by rw [HVE.out.2]; exact hE0))
                    have HEE := Lib.hid HVE.out.2
                    go_wp2_with (go_at_call 71; (with_reducible refine (CC.out _ (HD.out.up HVr.out.below)).mono ?_); rintro e w5 ⟨rfl, hb⟩; have HV5 := Lib.hid (HVr.out.up hb); clear hb)
                    refine bodyPost_ret (v := .tuple #[.slice none 0 0, .int .i64 E]) (by simp [results, Tryz.results32, go_sem]) rfl ?_
                    obtain ⟨e9, l9⟩ := HYES.out
                    rw [e9, l9, HMA.out.1, HMA.out.2, HEE.out]
                    exact ⟨none, 0, 0, rfl, World.ownsRow_nil _ _ _ _, rfl, HV5.out.below⟩
              · by_cases hlt : t < n
                · as_aux_lemma =>
                  have HLO : Hid (loQ cs t = 0) := Lib.hid (by rw [show t = 0 by omega]; exact loQ_zero cs)
                  have p0 : decide (0 < t) = false := decide_eq_false ht0
                  obtain ⟨x, hx⟩ : ∃ x, cs[t]? = some x := ⟨_, List.getElem?_eq_getElem (by rw [HL.out]; exact hlt)⟩
                  obtain ⟨ad, hax, hcx⟩ := HRD.out _ _ hx
                  subst hax
                  have d1 := cell_up hcx HVr.out.below
                  have hxb := HIN2.out x (List.mem_of_getElem? hx)
                  have HHI : Hid (hiQ K cs t = x - 1) := Lib.hid (hiQ_at hx)
                  have lt1 : (t : Int) < (n : Int) := by omega
                  have hxv := hxb.1
                  obtain ⟨XM, hXM⟩ : ∃ v, x - 1 = v := ⟨_, rfl⟩
                  have wx : IntKind.u64.wrap (x - 1) = XM := by rw [← hXM, IntKind.wrap_u64]; have := HKB.out.2; omega
                  rw [hXM] at HHI
                  have HXM : Hid (x - 1 = XM) := Lib.hid hXM
                  have HSQ := Lib.hid (spansQ_at (K := K) (l := cs) (i := t) (by rw [HL.out]; omega))
                  rw [HLO.out, HHI.out] at HSQ
                  have hsb := HSB.out _ (List.mem_of_getElem? HSQ.out)
                  obtain ⟨V, hV⟩ : ∃ v, ((rgF c (fun L i => spV c sts (L : Int) i)) (0, XM)).1 = v := ⟨_, rfl⟩
                  obtain ⟨E, hE⟩ : ∃ v, ((rgF c (fun L i => spV c sts (L : Int) i)) (0, XM)).2 = v := ⟨_, rfl⟩
                  have HVE := Lib.hid (And.intro hV hE)
                  have CC : Hid (∀ w9, DK w9 ⟨b0, 0, none⟩ G c sts → Calls Tryz.prog 71 #[.pointer (some ⟨b0, 0, none⟩), .int .u64 0, .int .u64 XM] w9 fun e w' => e = .returned (.tuple #[.int .i64 V, .int .i64 E]) ∧ Below w9.heap.size w9 w') := Lib.hid (fun w9 h1 => by rw [← hV, ← hE]; exact rrg_any ⟨b0, 0, none⟩ G c sts 0 XM w9 h1 hsb.1.1 hsb.1.2 hsb.2.1 hsb.2.2 (HPT.out.1 _ _) (HPT.out.2 _ _ hsb.1.1))
                  clear hV hE hsb hXM hx hcx hxb
                  by_cases hE0 : E = 0
                  · subst hE0
                    have HNX := Lib.hid (all_next (p := fun q => ((rgF c (fun L i => spV c sts (L : Int) i)) q).2 = 0) HSQ.out HOK.out HVE.out.2)
                    have HTK : Hid (((((spansQ K cs).take (t + 1)).map (fun q => ((rgF c (fun L i => spV c sts (L : Int) i)) q).1)).map (Value.int .i64)) = ((((spansQ K cs).take t).map (fun q => ((rgF c (fun L i => spV c sts (L : Int) i)) q).1)).map (Value.int .i64)) ++ [.int .i64 V]) := Lib.hid (by rw [take_next HSQ.out, List.map_append, List.map_append]; show _ ++ [Value.int .i64 ((rgF c (fun L i => spV c sts (L : Int) i)) _).1] = _; rw [HVE.out.1])
                    go_upto_region 25 with (go_at_call 71; (with_reducible refine (CC.out _ (HD.out.up HVr.out.below)).mono ?_); rintro e w5 ⟨rfl, hb⟩; have HV5 := Lib.hid (HVr.out.up hb); clear hb)
                    have n4 := HN.out
                    go_wp2_with (at_builtin; go_must (refine wpList_append_lies _ rfl _ _ 54 rfl w.heap.size 2 i0 (.int .i64 0) 1 8 i64s_u hi_ hz0 hz1 hz2 rfl (by decide) _ _ _ rfl ((okI HV5.out.i0).alloc _) ⟨_, 0, none⟩ 1 1 [.int .i64 V] rfl rfl (World.news_of_block (heap_alloc_new w5 _)) (one_i64 _) (by decide) (by unfold maxLen; omega) (by omega) (by simp; have := HV5.out.below.size; omega) _ rfl ?_); intro g7 cap7 w7 hown7 hgrow7 hat7 hlt7)
                    have HVa := Lib.hid (HV5.out.up (Lw.below_alloc (Below.refl _ w5) (.cells #[.int .i64 V] 2)))
                    have HV7 := Lib.hid (turn0K HVa.out hown7 hgrow7 hat7)
                    go_roundw
                    case rel => exact ⟨t + 1, by omega, by go_num, HNX.out, by rw [HTK.out]; exact HV7.out.up (by repeat' (first | (with_reducible first | exact Below.refl _ _ | assumption | refine below_over ?_ _ _ | refine Lw.below_alloc ?_ _ | refine Below.drew ?_ | refine below_drewN ?_ _ | refine Below.setCell ?_ ?_ _) | go_size))⟩
                    case measure => simp [intOf]; omega
                  · have hE1 : ((E : Int) == 0) = false := beq_eq_false_iff_ne.2 hE0
                    have hE2 : ((E : Int) != 0) = true := by simp [hE0]
                    have HMA := Lib.hid (many_at HSQ.out HOK.out (by rw [HVE.out.2]; exact hE0))
                    have HEE := Lib.hid HVE.out.2
                    go_wp2_with (go_at_call 71; (with_reducible refine (CC.out _ (HD.out.up HVr.out.below)).mono ?_); rintro e w5 ⟨rfl, hb⟩; have HV5 := Lib.hid (HVr.out.up hb); clear hb)
                    refine bodyPost_ret (v := .tuple #[.slice none 0 0, .int .i64 E]) (by simp [results, Tryz.results32, go_sem]) rfl ?_
                    obtain ⟨e9, l9⟩ := HYES.out
                    rw [e9, l9, HMA.out.1, HMA.out.2, HEE.out]
                    exact ⟨none, 0, 0, rfl, World.ownsRow_nil _ _ _ _, rfl, HV5.out.below⟩
                · as_aux_lemma =>
                  have HLO : Hid (loQ cs t = 0) := Lib.hid (by rw [show t = 0 by omega]; exact loQ_zero cs)
                  have p0 : decide (0 < t) = false := decide_eq_false ht0
                  have HHI : Hid (hiQ K cs t = K - 1) := Lib.hid (by have h9 := hiQ_last K cs; rw [HL.out] at h9; rw [show t = n by omega]; exact h9)
                  have lt1 : ¬ (t : Int) < (n : Int) := by omega
                  obtain ⟨XM, hXM⟩ : ∃ v, K - 1 = v := ⟨_, rfl⟩
                  rw [hXM] at HHI
                  have wK2 : IntKind.u64.wrap (K - 1) = XM := wK.trans hXM
                  clear wK
                  have HSQ := Lib.hid (spansQ_at (K := K) (l := cs) (i := t) (by rw [HL.out]; omega))
                  rw [HLO.out, HHI.out] at HSQ
                  have hsb := HSB.out _ (List.mem_of_getElem? HSQ.out)
                  obtain ⟨V, hV⟩ : ∃ v, ((rgF c (fun L i => spV c sts (L : Int) i)) (0, XM)).1 = v := ⟨_, rfl⟩
                  obtain ⟨E, hE⟩ : ∃ v, ((rgF c (fun L i => spV c sts (L : Int) i)) (0, XM)).2 = v := ⟨_, rfl⟩
                  have HVE := Lib.hid (And.intro hV hE)
                  have CC : Hid (∀ w9, DK w9 ⟨b0, 0, none⟩ G c sts → Calls Tryz.prog 71 #[.pointer (some ⟨b0, 0, none⟩), .int .u64 0, .int .u64 XM] w9 fun e w' => e = .returned (.tuple #[.int .i64 V, .int .i64 E]) ∧ Below w9.heap.size w9 w') := Lib.hid (fun w9 h1 => by rw [← hV, ← hE]; exact rrg_any ⟨b0, 0, none⟩ G c sts 0 XM w9 h1 hsb.1.1 hsb.1.2 hsb.2.1 hsb.2.2 (HPT.out.1 _ _) (HPT.out.2 _ _ hsb.1.1))
                  clear hV hE hsb hXM
                  by_cases hE0 : E = 0
                  · subst hE0
                    have HNX := Lib.hid (all_next (p := fun q => ((rgF c (fun L i => spV c sts (L : Int) i)) q).2 = 0) HSQ.out HOK.out HVE.out.2)
                    have HTK : Hid (((((spansQ K cs).take (t + 1)).map (fun q => ((rgF c (fun L i => spV c sts (L : Int) i)) q).1)).map (Value.int .i64)) = ((((spansQ K cs).take t).map (fun q => ((rgF c (fun L i => spV c sts (L : Int) i)) q).1)).map (Value.int .i64)) ++ [.int .i64 V]) := Lib.hid (by rw [take_next HSQ.out, List.map_append, List.map_append]; show _ ++ [Value.int .i64 ((rgF c (fun L i => spV c sts (L : Int) i)) _).1] = _; rw [HVE.out.1])
                    go_upto_region 25 with (go_at_call 71; (with_reducible refine (CC.out _ (HD.out.up HVr.out.below)).mono ?_); rintro e w5 ⟨rfl, hb⟩; have HV5 := Lib.hid (HVr.out.up hb); clear hb)
                    have n4 := HN.out
                    go_wp2_with (at_builtin; go_must (refine wpList_append_lies _ rfl _ _ 54 rfl w.heap.size 2 i0 (.int .i64 0) 1 8 i64s_u hi_ hz0 hz1 hz2 rfl (by decide) _ _ _ rfl ((okI HV5.out.i0).alloc _) ⟨_, 0, none⟩ 1 1 [.int .i64 V] rfl rfl (World.news_of_block (heap_alloc_new w5 _)) (one_i64 _) (by decide) (by unfold maxLen; omega) (by omega) (by simp; have := HV5.out.below.size; omega) _ rfl ?_); intro g7 cap7 w7 hown7 hgrow7 hat7 hlt7)
                    have HVa := Lib.hid (HV5.out.up (Lw.below_alloc (Below.refl _ w5) (.cells #[.int .i64 V] 2)))
                    have HV7 := Lib.hid (turn0K HVa.out hown7 hgrow7 hat7)
                    go_roundw
                    case rel => exact ⟨t + 1, by omega, by go_num, HNX.out, by rw [HTK.out]; exact HV7.out.up (by repeat' (first | (with_reducible first | exact Below.refl _ _ | assumption | refine below_over ?_ _ _ | refine Lw.below_alloc ?_ _ | refine Below.drew ?_ | refine below_drewN ?_ _ | refine Below.setCell ?_ ?_ _) | go_size))⟩
                    case measure => simp [intOf]; omega
                  · have hE1 : ((E : Int) == 0) = false := beq_eq_false_iff_ne.2 hE0
                    have hE2 : ((E : Int) != 0) = true := by simp [hE0]
                    have HMA := Lib.hid (many_at HSQ.out HOK.out (by rw [HVE.out.2]; exact hE0))
                    have HEE := Lib.hid HVE.out.2
                    go_wp2_with (go_at_call 71; (with_reducible refine (CC.out _ (HD.out.up HVr.out.below)).mono ?_); rintro e w5 ⟨rfl, hb⟩; have HV5 := Lib.hid (HVr.out.up hb); clear hb)
                    refine bodyPost_ret (v := .tuple #[.slice none 0 0, .int .i64 E]) (by simp [results, Tryz.results32, go_sem]) rfl ?_
                    obtain ⟨e9, l9⟩ := HYES.out
                    rw [e9, l9, HMA.out.1, HMA.out.2, HEE.out]
                    exact ⟨none, 0, 0, rfl, World.ownsRow_nil _ _ _ _, rfl, HV5.out.below⟩
            · obtain rfl : t = n + 1 := by omega
              have le1 : ¬ (((n + 1 : Nat) : Int)) ≤ (n : Int) := by omega
              have et : (spansQ K cs).take (n + 1) = (spansQ K cs) := List.take_of_length_le (by rw [HSL.out, HL.out]; omega)
              rw [et] at HVr HOK
              have HMK := Lib.hid (many_ok HOK.out)
              obtain ⟨-, A2, cap2, rfl⟩ := own_formK (okI HVr.out.i0)
              go_wp2
              refine bodyPost_ret (v := .tuple #[.slice A2 (n + 1) cap2, .int .i64 0]) (by simp [results, Tryz.results32, go_sem]) rfl ?_
              obtain ⟨e9, l9⟩ := HYES.out
              rw [e9, l9, HMK.out.1, HMK.out.2]
              exact ⟨A2, n + 1, cap2, rfl, okI HVr.out.i0, by rw [List.length_map, HSL.out, HL.out], HVr.out.below⟩
end Go.Proofs.YtkflggojiiebeaaGreat.Smr

