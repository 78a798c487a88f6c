/- The statement SummaryTop of layer 19 holds. Printed by wip/gen/smr5.py. -/
import Derived.Test.YtkflggojiiebeaaGreatQaa
import Derived.Test.YtkflggojiiebeaaGreatQab
import Derived.Test.YtkflggojiiebeaaGreatQac
import Derived.Test.YtkflggojiiebeaaGreatQad
import Derived.Test.YtkflggojiiebeaaGreatQae
import Derived.Test.YtkflggojiiebeaaGreatQaf
import Derived.Test.YtkflggojiiebeaaGreatQag
import Derived.Test.YtkflggojiiebeaaGreatQah
import Derived.Test.YtkflggojiiebeaaGreatQba
import Derived.Test.YtkflggojiiebeaaGreatQca
import Derived.Test.YtkflggojiiebeaaGreatQcb
import Derived.Test.YtkflggojiiebeaaGreatQcc
import Derived.Test.YtkflggojiiebeaaGreatQda
import Derived.Test.YtkflggojiiebeaaGreatQea
import Derived.Test.YtkflggojiiebeaaGreatQga
import Derived.Test.YtkflggojiiebeaaGreatQia
import Derived.Test.YtkflggojiiebeaaGreatQib
import Derived.Test.YtkflggojiiebeaaGreatQja
import Derived.Test.YtkflggojiiebeaaGreatQjb
import Derived.Test.YtkflggojiiebeaaGreatQjc
import Derived.Test.YtkflggojiiebeaaGreatQna
import Derived.Test.YtkflggojiiebeaaGreatQpa
import Derived.Test.YtkflggojiiebeaaGreatQua
import Derived.Test.YtkflggojiiebeaaGreatQbba
import Derived.Test.YtkflggojiiebeaaGreatRows
import Derived.WalkKit
import Derived.ProofKit
import Derived.OpenShut
import Derived.DataShut
import Derived.Lib.SmallJoins
import Derived.Handy
import Derived.WalkSmall
import Derived.Deep.Draws
import Derived.WalkSpells
import Derived.Laws.AppendOwnNone
import Derived.Deep.AppendLies
import Derived.Lib.Hide
import Derived.Deep.MidRow
import Derived.Laws.BitsAllLaws
import Derived.WalkMore
import Derived.Deep.LoopGhost
import Derived.Deep.RegionHeld3
import Derived.Deep.QuietTactic
import Derived.BigQuiet
import Derived.Laws.Cover3
import Derived.Shelf.Spec.BitsCarry
import Derived.Deep.RegionWith
import Derived.Laws.OwnMore
import Derived.Deep.DeepCutAuto
import Derived.Laws.EntriesVeiled
import Derived.Deep.CutRange
import Derived.Defers
import Derived.RangeFuncNested
import Derived.RangeFuncBound
import Derived.RangeFuncCalls
import Derived.RangeFuncLeaves
import Derived.Deep.WholeRow
import Derived.Shelf.SlSortCmp.NoneTotal
import Derived.Maps.AppendAt
import Derived.Shelf.Abstract
import Derived.Shelf.RegionOpen
import Derived.OwnWalkIn
import Derived.TacticsInMore
import Derived.LoopNIn
import Derived.LoopIn
import Derived.RangeFuncBox
import Derived.Laws.ResultCell
import Derived.Laws.CopyOwn
import Derived.Maps.OwnSet
import Derived.Maps.Own
import Derived.DeepKeys4
import Derived.Lib.AppendZerosOnto
import Derived.Lib.SliceRun
import Derived.Deep.OwnRows
import Derived.Laws.IdiomCopy
namespace Go.Proofs.YtkflggojiiebeaaGreat.Con
end Go.Proofs.YtkflggojiiebeaaGreat.Con
namespace Go.Proofs.YtkflggojiiebeaaGreat.Exa
end Go.Proofs.YtkflggojiiebeaaGreat.Exa
namespace Go.Proofs.YtkflggojiiebeaaGreat.Fld
end Go.Proofs.YtkflggojiiebeaaGreat.Fld
namespace Go.Proofs.YtkflggojiiebeaaGreat.Grd
end Go.Proofs.YtkflggojiiebeaaGreat.Grd
namespace Go.Proofs.YtkflggojiiebeaaGreat.Hsh
end Go.Proofs.YtkflggojiiebeaaGreat.Hsh
namespace Go.Proofs.YtkflggojiiebeaaGreat.Hvy
end Go.Proofs.YtkflggojiiebeaaGreat.Hvy
namespace Go.Proofs.YtkflggojiiebeaaGreat.Inn
end Go.Proofs.YtkflggojiiebeaaGreat.Inn
namespace Go.Proofs.YtkflggojiiebeaaGreat.Lev
end Go.Proofs.YtkflggojiiebeaaGreat.Lev
namespace Go.Proofs.YtkflggojiiebeaaGreat.Lin
end Go.Proofs.YtkflggojiiebeaaGreat.Lin
namespace Go.Proofs.YtkflggojiiebeaaGreat.Lw
end Go.Proofs.YtkflggojiiebeaaGreat.Lw
namespace Go.Proofs.YtkflggojiiebeaaGreat.Ord
end Go.Proofs.YtkflggojiiebeaaGreat.Ord
namespace Go.Proofs.YtkflggojiiebeaaGreat.Pcs
end Go.Proofs.YtkflggojiiebeaaGreat.Pcs
namespace Go.Proofs.YtkflggojiiebeaaGreat.Qnt
end Go.Proofs.YtkflggojiiebeaaGreat.Qnt
namespace Go.Proofs.YtkflggojiiebeaaGreat.Sed
end Go.Proofs.YtkflggojiiebeaaGreat.Sed
namespace Go.Proofs.YtkflggojiiebeaaGreat.Shp
end Go.Proofs.YtkflggojiiebeaaGreat.Shp
namespace Go.Proofs.YtkflggojiiebeaaGreat.Sk
end Go.Proofs.YtkflggojiiebeaaGreat.Sk
namespace Go.Proofs.YtkflggojiiebeaaGreat.Smr
end Go.Proofs.YtkflggojiiebeaaGreat.Smr
namespace Go.Proofs.YtkflggojiiebeaaGreat.Spn
end Go.Proofs.YtkflggojiiebeaaGreat.Spn
namespace Go.Proofs.YtkflggojiiebeaaGreat.Stk
end Go.Proofs.YtkflggojiiebeaaGreat.Stk
namespace Go.Proofs.YtkflggojiiebeaaGreat.Wid
end Go.Proofs.YtkflggojiiebeaaGreat.Wid
namespace Go.Proofs.YtkflggojiiebeaaGreat.Smr
open Go Go.RowKit Lw Grd Lin Con Shp Sk Exa Lev Stk Pcs Spn Qnt Hvy
set_option linter.unusedVariables false
set_option linter.unusedSimpArgs false
theorem box9 {w : World} {b : Nat} {e : TypeId} {v0 v1 v2 v3 v4 v5 v6 v7 v8 : Value} (h : (boxT b e #[v0, v1, v2, v3, v4, v5, v6, v7, v8]).I w) : w.cell? ⟨b, 0, none⟩ = some v0 ∧ w.cell? ⟨b, 1, none⟩ = some v1 ∧ w.cell? ⟨b, 2, none⟩ = some v2 ∧ w.cell? ⟨b, 3, none⟩ = some v3 ∧ w.cell? ⟨b, 4, none⟩ = some v4 ∧ w.cell? ⟨b, 5, none⟩ = some v5 ∧ w.cell? ⟨b, 6, none⟩ = some v6 ∧ w.cell? ⟨b, 7, none⟩ = some v7 ∧ w.cell? ⟨b, 8, none⟩ = some v8 :=
  ⟨box_cell h rfl, box_cell h rfl, box_cell h rfl, box_cell h rfl, box_cell h rfl, box_cell h rfl, box_cell h rfl, box_cell h rfl, box_cell h rfl⟩
theorem tp_len (c : Cfg) (pt : Nat → Int → Int) (n least bud : Int) : (tpL c pt n least bud).length ≤ 4096 := by
  unfold tpL
  rw [List.length_take, sortK_len]
  have h1 := keysK_len (hvL c pt least bud)
  have h2 := hvL_le c pt least bud
  omega
theorem tp_min (c : Cfg) (pt : Nat → Int → Int) (n m least bud : Int) (hm : m = min n 100) (hb : bud ≤ 100 ∨ 4096 < bud) : tpL c pt m least bud = tpL c pt n least bud := by
  rcases hb with hb | hb
  · have h0 : (hvL c pt least bud).length ≤ 100 := by
      by_cases h : hvC c pt least bud = 0
      · have h1 : hvL c pt least bud = foundQ pt least c.bt.toNat (c.bt.toNat + 1) := if_pos h
        rw [h1]
        have h2 := foundQ_len pt least c.bt.toNat
        unfold hvC at h
        split at h
        · cases h
        · split at h
          · cases h
          · omega
      · have h1 : hvL c pt least bud = [] := if_neg h
        rw [h1]
        exact Nat.zero_le _
    have h1 := keysK_len (hvL c pt least bud)
    unfold tpL
    rcases Int.lt_or_le n 100 with h3 | h3
    · rw [show m = n by omega]
    · rw [List.take_of_length_le (by rw [sortK_len]; omega), List.take_of_length_le (by rw [sortK_len]; omega)]
  · have h1 : hvC c pt least bud ≠ 0 := by rw [(hv_arg (.inr hb)).1]; decide
    rw [tp_no h1, tp_no h1]
set_option maxRecDepth 100000 in
set_option maxHeartbeats 40000000 in
theorem top_law (x : Cfg) (A : Option Addr) (n0 k0 : Nat) (qs : Ups) (N Bd Ls : Int) (w : World) (hx : x.Ok) (hq : UpdV w A n0 k0 qs) (n9 : -9223372036854775808 ≤ N ∧ N ≤ 9223372036854775807) (d9 : -9223372036854775808 ≤ Bd ∧ Bd ≤ 9223372036854775807) (l9 : -9223372036854775808 ≤ Ls ∧ Ls ≤ 9223372036854775807) :
    Calls Tryz.prog 7 #[.agg #[.int .i64 x.bt, .int .i64 x.rw, .int .i64 x.wd, .int .i64 x.md, .int .u64 x.sd, .slice A n0 k0, .int .i64 N, .int .i64 Bd, .int .i64 Ls]] w fun e w' => e = .returned (.bool true) ∧ Below w.heap.size w w' := by
  obtain ⟨c, hC⟩ : ∃ c, anyC x 5 9 = c := ⟨_, rfl⟩
  have HMD := Lib.hid (fun w hq => made_5 x A n0 k0 qs c w hx hq hC)
  have HQ := Lib.hid hq
  have HB9 := Lib.hid (And.intro n9 (And.intro d9 l9))
  have HBX : Hid (Have w (w.alloc (.cells #[.int .i64 x.bt, .int .i64 x.rw, .int .i64 x.wd, .int .i64 x.md, .int .u64 x.sd, .slice A n0 k0, .int .i64 N, .int .i64 Bd, .int .i64 Ls] 78)) [boxT w.heap.size 78 #[.int .i64 x.bt, .int .i64 x.rw, .int .i64 x.wd, .int .i64 x.md, .int .u64 x.sd, .slice A n0 k0, .int .i64 N, .int .i64 Bd, .int .i64 Ls]]) := Lib.hid (box_new w _ _)
  clear hC hx hq n9 d9 l9
  go_enter Tryz.func7, Tryz.ntmps7
  go_upto_region 5 with (first
    | (go_at_call 27; (with_reducible refine (HMD.out _ (HQ.out.up HV1.out.below)).mono ?_); rintro e w2 ⟨p, r, F, G, sts, rfl, hv⟩; have HV2 := Lib.hid (HV1.out.join hv); simp only [List.cons_append, List.nil_append] at HV2; clear hv x0 x1 x2 x3 x4 x5 x6 x7 x8; obtain ⟨x0, x1, x2, x3, x4, x5, x6, x7, x8⟩ := box9 HV2.out.i2)
    | (go_at_call 26; (with_reducible refine (shown_any _).mono ?_); rintro e w1 ⟨rfl, hb⟩; have HV1 := Lib.hid (HBX.out.up hb); clear hb; obtain ⟨x0, x1, x2, x3, x4, x5, x6, x7, x8⟩ := box9 HV1.out.i0))
  have HIN : Hid (∀ n i : Int, -9223372036854775808 ≤ spV c sts n i ∧ spV c sts n i ≤ 9223372036854775807) := Lib.hid (fun n i => sp_in16 (stI HV2.out.i1) n i)
  obtain ⟨BD, M, hbd, hM, hBM⟩ : ∃ BD M : Int, ((4096 < Bd ∧ BD = Bd) ∨ (Bd ≤ 4096 ∧ Bd < 100 ∧ BD = Bd) ∨ (Bd ≤ 4096 ∧ 100 ≤ Bd ∧ BD = 100)) ∧ M = min N 100 ∧ (-9223372036854775808 ≤ BD ∧ BD ≤ 9223372036854775807) := by
    have h5 := HB9.out
    by_cases e1 : 4096 < Bd
    · exact ⟨Bd, _, .inl ⟨e1, rfl⟩, rfl, by omega⟩
    · by_cases e2 : Bd < 100
      · exact ⟨Bd, _, .inr (.inl ⟨by omega, e2, rfl⟩), rfl, by omega⟩
      · exact ⟨100, _, .inr (.inr ⟨by omega, by omega, rfl⟩), rfl, by omega⟩
  have HFIN : Hid (∃ (E : Int) (LL : List (Nat × Int)), LL.length ≤ 4096 ∧
      (∀ w9, ST w9 p F c sts → Calls Tryz.prog 34 #[.pointer (some p), .int .i64 N, .int .i64 Ls, .int .i64 BD] w9 fun e w' => ∃ (A2 : Option Addr) (n2 cap2 : Nat), e = .returned (.tuple #[.slice A2 n2 cap2, .int .i64 E]) ∧ (stRowT 3 encK A2 n2 cap2 LL).I w' ∧ (∀ q, (stRowT 3 encK A2 n2 cap2 LL).F q → w9.heap.size ≤ q) ∧ Below w9.heap.size w9 w') ∧
      (∀ w9, DK w9 r G c sts → Calls Tryz.prog 35 #[.pointer (some r), .int .i64 M, .int .i64 Ls, .int .i64 BD] w9 fun e w' => ∃ (A2 : Option Addr) (n2 cap2 : Nat), e = .returned (.tuple #[.slice A2 n2 cap2, .int .i64 E]) ∧ (stRowT 3 encK A2 n2 cap2 LL).I w' ∧ (∀ q, (stRowT 3 encK A2 n2 cap2 LL).F q → w9.heap.size ≤ q) ∧ Below w9.heap.size w9 w')) := Lib.hid (by
    obtain ⟨n9, d9, l9⟩ := HB9.out
    have hbb : BD ≤ 100 ∨ 4096 < BD := by omega
    have e9 := tp_min c (fun L i => spV c sts (L : Int) i) N M Ls BD hM hbb
    refine ⟨hvC c (fun L i => spV c sts (L : Int) i) Ls BD, tpL c (fun L i => spV c sts (L : Int) i) N Ls BD, tp_len _ _ _ _ _, fun w9 hs => sm_top p F c sts N Ls BD w9 hs n9.1 n9.2 l9.1 l9.2 hBM.1 hBM.2, fun w9 hs => ?_⟩
    have h9 := rtop r G c sts M Ls BD w9 hs HIN.out (by omega) (by omega) l9.1 l9.2 hBM.1 hBM.2
    rw [e9] at h9
    exact h9)
  obtain ⟨E, LL, hll, q1, q2⟩ := HFIN.out
  have HLL := Lib.hid hll
  have CC := Lib.hid q1
  have CD := Lib.hid q2
  have HM := Lib.hid hM
  clear HFIN HIN q1 q2 hll hBM hM
  rcases hbd with ⟨e1, rfl⟩ | ⟨e1, e2, rfl⟩ | ⟨e1, e2, rfl⟩
  · have HE1 := Lib.hid e1
    clear e1
    as_aux_lemma =>
      go_upto_region 6 with fail
      have f1 : decide (BD ≤ 4096) = false := decide_eq_false (by have := HE1.out; omega)
      have f2 : ¬ BD ≤ 4096 := by have := HE1.out; omega
      have hM := HM.out.symm
      go_upto_region 12 with (first
        | (go_at_call 35; (with_reducible refine (CD.out _ (dkI HV3.out.i1)).mono ?_); rintro e w4 ⟨A4, n4, cap4, rfl, h1, h2, hb⟩; obtain rfl : n3 = n4 := HN3.out.symm.trans (strI h1).len; have HV4 := Lib.hid (HV3.out.push (stRowT 3 encK A4 n3 cap4 LL) hb h1 h2); clear h1 h2 hb)
        | (go_at_call 34; (with_reducible refine (CC.out _ (stI HV2.out.i1)).mono ?_); rintro e w3 ⟨A3, n3, cap3, rfl, h1, h2, hb⟩; have HN3 := Lib.hid (strI h1).len; have HV3 := Lib.hid (HV2.out.push (stRowT 3 encK A3 n3 cap3 LL) hb h1 h2); clear h1 h2 hb; clear x0 x1 x2 x3 x4 x5 x6 x7 x8; obtain ⟨x0, x1, x2, x3, x4, x5, x6, x7, x8⟩ := box9 HV3.out.i3))
      have hn9 : n3 ≤ 5000 := by have := HLL.out; rw [HN3.out] at this; omega
      clear x0 x1 x2 x3 x4 x5 x6 x7 x8
      go_wp2
      go_loopw [11] (fun iv wr => ∃ k d : Nat, k ≤ n3 ∧ iv = .int .i64 k ∧ wr = w4.drewN d) (fun iv _ => n3 - (intOf iv).toNat)
      case atStart => exact ⟨0, 0, Nat.zero_le _, rfl, rfl⟩
      case round =>
        obtain ⟨k, d, hk, rfl, rfl⟩ := hrel
        by_cases hlt : k < n3
        · have lt0 : (0 : Int) ≤ (k : Int) := by omega
          have lt1 : (k : Int) < (n3 : Int) := by omega
          obtain ⟨y, hy⟩ : ∃ y, LL[k]? = some y := ⟨_, List.getElem?_eq_getElem (by rw [HN3.out]; exact hlt)⟩
          obtain ⟨ad, g1, q1, rfl, had, hy1⟩ := (strI HV4.out.i1).at hy (v0 := .int .i64 0) rfl
          obtain ⟨bd, g2, q2, rfl, hbd, hy2⟩ := (strI HV4.out.i0).at hy (v0 := .int .i64 0) rfl
          have u0 := hy1 0 _ rfl
          have u1 := hy1 1 _ rfl
          have u2 := hy1 2 _ rfl
          have v0 := hy2 0 _ rfl
          have v1 := hy2 1 _ rfl
          have v2 := hy2 2 _ rfl
          rw [Nat.add_zero] at u0 v0
          clear hy hy1 hy2
          go_wp2
          go_quiet (fail)
          go_wp2
          go_roundw
          case rel => exact ⟨k + 1, _, by omega, by go_num, rfl⟩
          case measure => simp [intOf]; omega
        · obtain rfl : k = n3 := by omega
          have lt1 : ¬ (k : Int) < (k : Int) := by omega
          go_wp2
          go_ret
          exact ⟨ret_bs (by first | rfl | (simp [*]; done)), by have h5 := HV4.out.below; first | exact below_drewN h5 _ | exact below_drewN (below_drewN h5 _) _⟩
  · have f1 : decide (BD ≤ 4096) = true := decide_eq_true e1
    have f3 : ¬ 100 < BD := by omega
    have f4 : min BD 100 = BD := by omega
    as_aux_lemma =>
      have hM := HM.out.symm
      go_upto_region 12 with (first
        | (go_at_call 35; (with_reducible refine (CD.out _ (dkI HV3.out.i1)).mono ?_); rintro e w4 ⟨A4, n4, cap4, rfl, h1, h2, hb⟩; obtain rfl : n3 = n4 := HN3.out.symm.trans (strI h1).len; have HV4 := Lib.hid (HV3.out.push (stRowT 3 encK A4 n3 cap4 LL) hb h1 h2); clear h1 h2 hb)
        | (go_at_call 34; (with_reducible refine (CC.out _ (stI HV2.out.i1)).mono ?_); rintro e w3 ⟨A3, n3, cap3, rfl, h1, h2, hb⟩; have HN3 := Lib.hid (strI h1).len; have HV3 := Lib.hid (HV2.out.push (stRowT 3 encK A3 n3 cap3 LL) hb h1 h2); clear h1 h2 hb; clear x0 x1 x2 x3 x4 x5 x6 x7 x8; obtain ⟨x0, x1, x2, x3, x4, x5, x6, x7, x8⟩ := box9 HV3.out.i3))
      have hn9 : n3 ≤ 5000 := by have := HLL.out; rw [HN3.out] at this; omega
      clear x0 x1 x2 x3 x4 x5 x6 x7 x8
      go_wp2
      go_loopw [11] (fun iv wr => ∃ k d : Nat, k ≤ n3 ∧ iv = .int .i64 k ∧ wr = w4.drewN d) (fun iv _ => n3 - (intOf iv).toNat)
      case atStart => exact ⟨0, 0, Nat.zero_le _, rfl, rfl⟩
      case round =>
        obtain ⟨k, d, hk, rfl, rfl⟩ := hrel
        by_cases hlt : k < n3
        · have lt0 : (0 : Int) ≤ (k : Int) := by omega
          have lt1 : (k : Int) < (n3 : Int) := by omega
          obtain ⟨y, hy⟩ : ∃ y, LL[k]? = some y := ⟨_, List.getElem?_eq_getElem (by rw [HN3.out]; exact hlt)⟩
          obtain ⟨ad, g1, q1, rfl, had, hy1⟩ := (strI HV4.out.i1).at hy (v0 := .int .i64 0) rfl
          obtain ⟨bd, g2, q2, rfl, hbd, hy2⟩ := (strI HV4.out.i0).at hy (v0 := .int .i64 0) rfl
          have u0 := hy1 0 _ rfl
          have u1 := hy1 1 _ rfl
          have u2 := hy1 2 _ rfl
          have v0 := hy2 0 _ rfl
          have v1 := hy2 1 _ rfl
          have v2 := hy2 2 _ rfl
          rw [Nat.add_zero] at u0 v0
          clear hy hy1 hy2
          go_wp2
          go_quiet (fail)
          go_wp2
          go_roundw
          case rel => exact ⟨k + 1, _, by omega, by go_num, rfl⟩
          case measure => simp [intOf]; omega
        · obtain rfl : k = n3 := by omega
          have lt1 : ¬ (k : Int) < (k : Int) := by omega
          go_wp2
          go_ret
          exact ⟨ret_bs (by first | rfl | (simp [*]; done)), by have h5 := HV4.out.below; first | exact below_drewN h5 _ | exact below_drewN (below_drewN h5 _) _⟩
  · have hb3 : Bd = 100 ∨ 100 < Bd := by omega
    have HE1 := Lib.hid e1
    clear e1 e2
    rcases hb3 with rfl | hb4
    · as_aux_lemma =>
        have hM := HM.out.symm
        go_upto_region 12 with (first
          | (go_at_call 35; (with_reducible refine (CD.out _ (dkI HV3.out.i1)).mono ?_); rintro e w4 ⟨A4, n4, cap4, rfl, h1, h2, hb⟩; obtain rfl : n3 = n4 := HN3.out.symm.trans (strI h1).len; have HV4 := Lib.hid (HV3.out.push (stRowT 3 encK A4 n3 cap4 LL) hb h1 h2); clear h1 h2 hb)
          | (go_at_call 34; (with_reducible refine (CC.out _ (stI HV2.out.i1)).mono ?_); rintro e w3 ⟨A3, n3, cap3, rfl, h1, h2, hb⟩; have HN3 := Lib.hid (strI h1).len; have HV3 := Lib.hid (HV2.out.push (stRowT 3 encK A3 n3 cap3 LL) hb h1 h2); clear h1 h2 hb; clear x0 x1 x2 x3 x4 x5 x6 x7 x8; obtain ⟨x0, x1, x2, x3, x4, x5, x6, x7, x8⟩ := box9 HV3.out.i3))
        have hn9 : n3 ≤ 5000 := by have := HLL.out; rw [HN3.out] at this; omega
        clear x0 x1 x2 x3 x4 x5 x6 x7 x8
        go_wp2
        go_loopw [11] (fun iv wr => ∃ k d : Nat, k ≤ n3 ∧ iv = .int .i64 k ∧ wr = w4.drewN d) (fun iv _ => n3 - (intOf iv).toNat)
        case atStart => exact ⟨0, 0, Nat.zero_le _, rfl, rfl⟩
        case round =>
          obtain ⟨k, d, hk, rfl, rfl⟩ := hrel
          by_cases hlt : k < n3
          · have lt0 : (0 : Int) ≤ (k : Int) := by omega
            have lt1 : (k : Int) < (n3 : Int) := by omega
            obtain ⟨y, hy⟩ : ∃ y, LL[k]? = some y := ⟨_, List.getElem?_eq_getElem (by rw [HN3.out]; exact hlt)⟩
            obtain ⟨ad, g1, q1, rfl, had, hy1⟩ := (strI HV4.out.i1).at hy (v0 := .int .i64 0) rfl
            obtain ⟨bd, g2, q2, rfl, hbd, hy2⟩ := (strI HV4.out.i0).at hy (v0 := .int .i64 0) rfl
            have u0 := hy1 0 _ rfl
            have u1 := hy1 1 _ rfl
            have u2 := hy1 2 _ rfl
            have v0 := hy2 0 _ rfl
            have v1 := hy2 1 _ rfl
            have v2 := hy2 2 _ rfl
            rw [Nat.add_zero] at u0 v0
            clear hy hy1 hy2
            go_wp2
            go_quiet (fail)
            go_wp2
            go_roundw
            case rel => exact ⟨k + 1, _, by omega, by go_num, rfl⟩
            case measure => simp [intOf]; omega
          · obtain rfl : k = n3 := by omega
            have lt1 : ¬ (k : Int) < (k : Int) := by omega
            go_wp2
            go_ret
            exact ⟨ret_bs (by first | rfl | (simp [*]; done)), by have h5 := HV4.out.below; first | exact below_drewN h5 _ | exact below_drewN (below_drewN h5 _) _⟩
    · have HB4 := Lib.hid hb4
      clear hb4
      as_aux_lemma =>
        go_upto_region 6 with fail
        have f1 : decide (Bd ≤ 4096) = true := decide_eq_true HE1.out
        have f2 : Bd ≤ 4096 := HE1.out
        go_upto_region 7 with fail
        have f3 : ¬ Bd < 100 := by have := HB4.out; omega
        have f5 : ¬ Bd ≤ 100 := by have := HB4.out; omega
        have f6 : decide (Bd < 100) = false := decide_eq_false f3
        have f7 : (100 : Int) < Bd := HB4.out
        have f4 : min Bd 100 = 100 := by omega
        have hM := HM.out.symm
        go_upto_region 12 with (first
          | (go_at_call 35; (with_reducible refine (CD.out _ (dkI HV3.out.i1)).mono ?_); rintro e w4 ⟨A4, n4, cap4, rfl, h1, h2, hb⟩; obtain rfl : n3 = n4 := HN3.out.symm.trans (strI h1).len; have HV4 := Lib.hid (HV3.out.push (stRowT 3 encK A4 n3 cap4 LL) hb h1 h2); clear h1 h2 hb)
          | (go_at_call 34; (with_reducible refine (CC.out _ (stI HV2.out.i1)).mono ?_); rintro e w3 ⟨A3, n3, cap3, rfl, h1, h2, hb⟩; have HN3 := Lib.hid (strI h1).len; have HV3 := Lib.hid (HV2.out.push (stRowT 3 encK A3 n3 cap3 LL) hb h1 h2); clear h1 h2 hb; clear x0 x1 x2 x3 x4 x5 x6 x7 x8; obtain ⟨x0, x1, x2, x3, x4, x5, x6, x7, x8⟩ := box9 HV3.out.i3))
        have hn9 : n3 ≤ 5000 := by have := HLL.out; rw [HN3.out] at this; omega
        clear x0 x1 x2 x3 x4 x5 x6 x7 x8
        go_wp2
        go_loopw [11] (fun iv wr => ∃ k d : Nat, k ≤ n3 ∧ iv = .int .i64 k ∧ wr = w4.drewN d) (fun iv _ => n3 - (intOf iv).toNat)
        case atStart => exact ⟨0, 0, Nat.zero_le _, rfl, rfl⟩
        case round =>
          obtain ⟨k, d, hk, rfl, rfl⟩ := hrel
          by_cases hlt : k < n3
          · have lt0 : (0 : Int) ≤ (k : Int) := by omega
            have lt1 : (k : Int) < (n3 : Int) := by omega
            obtain ⟨y, hy⟩ : ∃ y, LL[k]? = some y := ⟨_, List.getElem?_eq_getElem (by rw [HN3.out]; exact hlt)⟩
            obtain ⟨ad, g1, q1, rfl, had, hy1⟩ := (strI HV4.out.i1).at hy (v0 := .int .i64 0) rfl
            obtain ⟨bd, g2, q2, rfl, hbd, hy2⟩ := (strI HV4.out.i0).at hy (v0 := .int .i64 0) rfl
            have u0 := hy1 0 _ rfl
            have u1 := hy1 1 _ rfl
            have u2 := hy1 2 _ rfl
            have v0 := hy2 0 _ rfl
            have v1 := hy2 1 _ rfl
            have v2 := hy2 2 _ rfl
            rw [Nat.add_zero] at u0 v0
            clear hy hy1 hy2
            go_wp2
            go_quiet (fail)
            go_wp2
            go_roundw
            case rel => exact ⟨k + 1, _, by omega, by go_num, rfl⟩
            case measure => simp [intOf]; omega
          · obtain rfl : k = n3 := by omega
            have lt1 : ¬ (k : Int) < (k : Int) := by omega
            go_wp2
            go_ret
            exact ⟨ret_bs (by first | rfl | (simp [*]; done)), by have h5 := HV4.out.below; first | exact below_drewN h5 _ | exact below_drewN (below_drewN h5 _) _⟩
namespace summaryTop
open Go.ChangeShapes Go.WideShapes Go.ChangeAt Go.Joins
set_option maxRecDepth 100000 in
theorem lifted (os : Os) (started : os.Started) (H : Type) (enc : TypeId × Value → H) :
    ReturnsInHanded {} Tryz.checked os 7 .any (Rows.summaryTopSpec.pre6 enc Tryz.prog Tryz.f7 Rows.summaryTopRow.domain false) (Rows.summaryTopSpec.post enc Tryz.prog Tryz.f7 false true false false) := by
  refine Lw.lifted (C := Tryz.checked) (B := 4) (by kernel_rfl) os started (by kernel_rfl) Tryz.func7
    (ChangeSpec.witness6 (enc := enc) (C := Tryz.checked) false ⟨#[], #[.agg #[.int .i64 0, .int .i64 0, .int .i64 0, .int .i64 0, .int .u64 0, .slice none 0 0, .int .i64 0, .int .i64 0, .int .i64 0]], []⟩ 8 (by kernel_rfl) (by kernel_rfl) (by kernel_rfl) (by kernel_rfl)) rfl Tryz.underlying4 (by kernel_rfl) (by kernel_rfl) (by kernel_rfl) ?_ ?_
  · intro ds h
    rw [Tryz.params7] at h
    match ds, h with
    | [_], _ => rfl
  · intro W base args ds p hval hA
    rw [Tryz.params7] at hA hval
    obtain ⟨v0, vs0, d0, ds0, p0, q0, hargs, rfl, rfl, h0, r0⟩ := trodAll_cons hA
    obtain ⟨rfl, rfl, rfl⟩ := trodAll_nil r0
    obtain rfl : args = #[v0] := by cases args; simp_all
    obtain ⟨x0, A0, n0, k0, qs0, N0, B0, L0, rfl, hx0, hq0, bN0, bB0, bL0⟩ := open_askX (hval 0 78 v0 rfl rfl) h0
    exact top_law x0 A0 n0 k0 qs0 N0 B0 L0 W hx0 hq0 bN0 bB0 bL0
theorem over : Rows.summaryTopRow.holds Tryz.pinned (OpenSpec.ofChange Rows.summaryTopSpec) :=
  OpenClaim.holds_of_wide 7 Tryz.f7 rfl rfl rfl rfl rfl rfl rfl ⟨rfl, rfl, rfl, rfl, rfl⟩ rfl rfl rfl rfl rfl (by kernel_rfl) Tryz.func7 (by kernel_rfl)
    (of_decide_eq_true (by kernel_rfl)) (by unfold Func.isWrapper; first | (rw [if_pos (by decide +kernel)]; kernel_rfl) | (rw [if_neg (by decide +kernel)]; exact ⟨rfl, rfl⟩))
    (fun os started H enc _ => lifted os started H enc)
theorem proved : Rows.SummaryTopSaid :=
  over
#print axioms proved
end summaryTop
end Go.Proofs.YtkflggojiiebeaaGreat.Smr
