/- The statement HeavyLoaded of layer 18 holds. Printed by wip/gen/hvy12.py. -/
import Derived.Test.YtkflggojiiebeaaGreatQaa
import Derived.Test.YtkflggojiiebeaaGreatQab
import Derived.Test.YtkflggojiiebeaaGreatQac
import Derived.Test.YtkflggojiiebeaaGreatQad
import Derived.Test.YtkflggojiiebeaaGreatQae
import Derived.Test.YtkflggojiiebeaaGreatQaf
import Derived.Test.YtkflggojiiebeaaGreatQag
import Derived.Test.YtkflggojiiebeaaGreatQah
import Derived.Test.YtkflggojiiebeaaGreatQba
import Derived.Test.YtkflggojiiebeaaGreatQca
import Derived.Test.YtkflggojiiebeaaGreatQcb
import Derived.Test.YtkflggojiiebeaaGreatQcc
import Derived.Test.YtkflggojiiebeaaGreatQda
import Derived.Test.YtkflggojiiebeaaGreatQfa
import Derived.Test.YtkflggojiiebeaaGreatQga
import Derived.Test.YtkflggojiiebeaaGreatQha
import Derived.Test.YtkflggojiiebeaaGreatQka
import Derived.Test.YtkflggojiiebeaaGreatQla
import Derived.Test.YtkflggojiiebeaaGreatQma
import Derived.Test.YtkflggojiiebeaaGreatQna
import Derived.Test.YtkflggojiiebeaaGreatQqa
import Derived.Test.YtkflggojiiebeaaGreatQqb
import Derived.Test.YtkflggojiiebeaaGreatQqc
import Derived.Test.YtkflggojiiebeaaGreatQqd
import Derived.Test.YtkflggojiiebeaaGreatQra
import Derived.Test.YtkflggojiiebeaaGreatQsa
import Derived.Test.YtkflggojiiebeaaGreatQta
import Derived.Test.YtkflggojiiebeaaGreatQwa
import Derived.Test.YtkflggojiiebeaaGreatRows
import Derived.WalkKit
import Derived.ProofKit
import Derived.OpenShut
import Derived.DataShut
import Derived.Lib.SmallJoins
import Derived.Handy
import Derived.WalkSmall
import Derived.Deep.Draws
import Derived.WalkSpells
import Derived.Laws.AppendOwnNone
import Derived.Deep.AppendLies
import Derived.Lib.Hide
import Derived.Deep.MidRow
import Derived.Laws.BitsAllLaws
import Derived.WalkMore
import Derived.Deep.LoopGhost
import Derived.Deep.RegionHeld3
import Derived.Deep.QuietTactic
import Derived.BigQuiet
import Derived.Laws.Cover3
import Derived.Shelf.Spec.BitsCarry
import Derived.Deep.RegionWith
import Derived.Laws.OwnMore
import Derived.Deep.DeepCutAuto
import Derived.Laws.EntriesVeiled
import Derived.Deep.CutRange
import Derived.Defers
import Derived.RangeFuncNested
import Derived.RangeFuncBound
import Derived.RangeFuncCalls
import Derived.RangeFuncLeaves
import Derived.Deep.WholeRow
import Derived.Maps.AppendAt
import Derived.Shelf.SlSortCmp.QuietGrown
import Derived.Shelf.Abstract
import Derived.Shelf.RegionOpen
import Derived.OwnWalkIn
import Derived.TacticsInMore
import Derived.LoopNIn
import Derived.LoopIn
import Derived.RangeFuncBox
import Derived.Maps.OwnSet
import Derived.Maps.Own
import Derived.DeepKeys4
import Derived.Lib.AppendZerosOnto
import Derived.Lib.SliceRun
import Derived.Deep.OwnRows
namespace Go.Proofs.YtkflggojiiebeaaGreat.Con
end Go.Proofs.YtkflggojiiebeaaGreat.Con
namespace Go.Proofs.YtkflggojiiebeaaGreat.Exa
end Go.Proofs.YtkflggojiiebeaaGreat.Exa
namespace Go.Proofs.YtkflggojiiebeaaGreat.Fld
end Go.Proofs.YtkflggojiiebeaaGreat.Fld
namespace Go.Proofs.YtkflggojiiebeaaGreat.Grd
end Go.Proofs.YtkflggojiiebeaaGreat.Grd
namespace Go.Proofs.YtkflggojiiebeaaGreat.Hsh
end Go.Proofs.YtkflggojiiebeaaGreat.Hsh
namespace Go.Proofs.YtkflggojiiebeaaGreat.Hvy
end Go.Proofs.YtkflggojiiebeaaGreat.Hvy
namespace Go.Proofs.YtkflggojiiebeaaGreat.Inn
end Go.Proofs.YtkflggojiiebeaaGreat.Inn
namespace Go.Proofs.YtkflggojiiebeaaGreat.Lev
end Go.Proofs.YtkflggojiiebeaaGreat.Lev
namespace Go.Proofs.YtkflggojiiebeaaGreat.Lin
end Go.Proofs.YtkflggojiiebeaaGreat.Lin
namespace Go.Proofs.YtkflggojiiebeaaGreat.Lw
end Go.Proofs.YtkflggojiiebeaaGreat.Lw
namespace Go.Proofs.YtkflggojiiebeaaGreat.Ord
end Go.Proofs.YtkflggojiiebeaaGreat.Ord
namespace Go.Proofs.YtkflggojiiebeaaGreat.Pcs
end Go.Proofs.YtkflggojiiebeaaGreat.Pcs
namespace Go.Proofs.YtkflggojiiebeaaGreat.Qnt
end Go.Proofs.YtkflggojiiebeaaGreat.Qnt
namespace Go.Proofs.YtkflggojiiebeaaGreat.Sed
end Go.Proofs.YtkflggojiiebeaaGreat.Sed
namespace Go.Proofs.YtkflggojiiebeaaGreat.Shp
end Go.Proofs.YtkflggojiiebeaaGreat.Shp
namespace Go.Proofs.YtkflggojiiebeaaGreat.Sk
end Go.Proofs.YtkflggojiiebeaaGreat.Sk
namespace Go.Proofs.YtkflggojiiebeaaGreat.Smr
end Go.Proofs.YtkflggojiiebeaaGreat.Smr
namespace Go.Proofs.YtkflggojiiebeaaGreat.Spn
end Go.Proofs.YtkflggojiiebeaaGreat.Spn
namespace Go.Proofs.YtkflggojiiebeaaGreat.Stk
end Go.Proofs.YtkflggojiiebeaaGreat.Stk
namespace Go.Proofs.YtkflggojiiebeaaGreat.Wid
end Go.Proofs.YtkflggojiiebeaaGreat.Wid
namespace Go.Proofs.YtkflggojiiebeaaGreat.Hvy
open Go Go.RowKit Lw Grd Lin Con Shp Sk Exa Lev Stk Pcs Spn Qnt Go.Shelf
set_option linter.unusedVariables false
set_option linter.unusedSimpArgs false
set_option linter.unusedSimpArgs false
theorem ld_nums (at0 k : Nat) (h1 : at0 ≤ 100000) (h2 : k ≤ 100000) : wrap64 ((at0 : Int) + (k : Int) + 1) = (at0 : Int) + ((k + 1 : Nat) : Int) ∧ ¬ (at0 : Int) + (k : Int) < 0 ∧ 0 ≤ (at0 : Int) + (k : Int) ∧ ((at0 : Int) + (k : Int)).toNat = at0 + k := by
  refine ⟨?_, by omega, by omega, by omega⟩
  rw [IntWalk.wrap64_in _ ⟨by omega, by omega⟩]
  omega
set_option maxRecDepth 100000 in
set_option maxHeartbeats 40000000 in
theorem loaded_law (x : Cfg) (A : Option Addr) (n0 k0 : Nat) (zs : List Int) (a : Int) (w : World) (hx : x.Ok) (hA : A = none → n0 = 0 ∧ k0 = 0) (hnc : n0 ≤ k0) (hcm : k0 ≤ maxLen) (hrd : Rd .i64 w A zs) (hlz : zs.length = n0) (hz : In64 zs) (ka : -9223372036854775808 ≤ a) (kb9 : a ≤ 9223372036854775807) :
    Calls Tryz.prog 4 #[.agg #[.int .i64 x.bt, .int .i64 x.rw, .int .i64 x.wd, .int .i64 x.md, .int .u64 x.sd], .slice A n0 k0, .int .i64 a] w fun e w' => e = .returned (.bool true) ∧ Below w.heap.size w w' := by
  obtain ⟨c, hC⟩ : ∃ c, anyC x 3 9 = c := ⟨_, rfl⟩
  have hr := any_right x 3 9 (by omega) (by omega) (by omega) (by omega)
  have hco := any_ok x hx 3 9 (by omega) (by omega) (by omega) (by omega)
  have CA := Lib.hid (fun w => rany_at x 3 9 c w hx (by omega) (by omega) (by omega) (by omega) hC)
  rw [hC] at hr hco
  have CNW := Lib.hid (fun w => cs_new c w hco hr)
  have CND := Lib.hid (fun w => dk_new c w hco hr)
  have HR := Lib.hid hr
  have hbt := hr.1
  have hbt2 := hr.2.1
  obtain ⟨BB, hBB⟩ : ∃ B : Nat, (B : Int) = c.bt := ⟨c.bt.toNat, by omega⟩
  have HBB := Lib.hid hBB
  have hb59 : BB ≤ 59 := by omega
  have HRD := Lib.hid hrd
  have HLZ := Lib.hid hlz
  have HZ := Lib.hid hz
  have HNC := Lib.hid hnc
  have HCM := Lib.hid hcm
  have HAN := Lib.hid hA
  unfold maxLen at hcm
  have HN64 : Hid ((n0 : Int) ≤ 9223372036854775807) := Lib.hid (by omega)
  have HBX : Hid (Have w (w.alloc (.cells #[.int .i64 x.bt, .int .i64 x.rw, .int .i64 x.wd, .int .i64 x.md, .int .u64 x.sd] 24)) [boxT w.heap.size 24 #[.int .i64 x.bt, .int .i64 x.rw, .int .i64 x.wd, .int .i64 x.md, .int .u64 x.sd]]) := Lib.hid (box_new w _ _)
  have HKA := Lib.hid (And.intro ka kb9)
  clear hr hco hx hC hbt hbt2 hBB hrd hlz hz hnc hcm hA ka kb9
  go_enter Tryz.func4, Tryz.ntmps4
  go_wp2_with (first
    | (go_at_call 14; (with_reducible refine (CND.out _).mono ?_); rintro e w5 ⟨r, R0, rfl, hsk, hfr, hb⟩; have HV5 := Lib.hid (HV4.out.push (dkT r R0 c (stsOf c [])) hb hsk hfr); clear hsk hfr hb y0 y1 y2 y3 y4; obtain ⟨y0, y1, y2, y3, y4⟩ := box5 HV5.out.i2)
    | (go_at_call 13; (with_reducible refine (CNW.out _).mono ?_); rintro e w4 ⟨p, F0, rfl, hsk, hfr, hb⟩; have HV4 := Lib.hid (HV3.out.push (stT p F0 c (stsOf c [])) hb hsk hfr); clear hsk hfr hb; obtain ⟨y0, y1, y2, y3, y4⟩ := box5 HV4.out.i1)
    | (go_at_call 12; (with_reducible refine (CA.out _).mono ?_); rintro e w2 ⟨rfl, hb⟩; have HV2 := Lib.hid (HV1.out.up hb); clear x0 x1 x2 x3 x4; have HV3 := Lib.hid (HV2.out.push (boxT w2.heap.size 24 #[.int .i64 c.bt, .int .i64 c.rw, .int .i64 c.wd, .int .i64 c.md, .int .u64 c.sd]) (Lw.below_alloc (Below.refl _ _) _) (heap_alloc_new w2 _) (fun k hk => Nat.le_of_eq hk.symm)); clear hb; obtain ⟨y0, y1, y2, y3, y4⟩ := box5 HV3.out.i0)
    | (go_at_call 11; (with_reducible refine (shown_any _).mono ?_); rintro e w1 ⟨rfl, hb⟩; have HV1 := Lib.hid (HBX.out.up hb); clear hb; obtain ⟨x0, x1, x2, x3, x4⟩ := box5 HV1.out.i0))
  obtain ⟨gc, hgc⟩ : ∃ g1, w2.heap.size = g1 := ⟨_, rfl⟩
  rw [hgc] at HV5 ⊢
  obtain ⟨b0, rfl⟩ := dk_ptr (dkI HV5.out.i0)
  have HVS : Hid (Have w w5 [stT p F0 c (stsOf c []), dkT ⟨b0, 0, none⟩ R0 c (stsOf c []), boxT gc 24 #[.int .i64 c.bt, .int .i64 c.rw, .int .i64 c.wd, .int .i64 c.md, .int .u64 c.sd], boxT w.heap.size 24 #[.int .i64 x.bt, .int .i64 x.rw, .int .i64 x.wd, .int .i64 x.md, .int .u64 x.sd]]) := Lib.hid (Have.perm (List.Perm.swap _ _ _) HV5.out)
  clear hgc y0 y1 y2 y3 y4 HV1 HV2 HV3 HV4 HV5
  go_loopw [12, 13] (fun av lv wr => ∃ (m0 at0 : Nat) (LVI : Int) (F R : Nat → Prop) (sts : List LS), m0 ≤ BB + 1 ∧ at0 ≤ m0 * 1152 ∧ av = .int .i64 (at0 : Int) ∧ lv = .int .i64 LVI ∧ LVI = (BB : Int) - (m0 : Int) ∧ Have w wr [stT p F c sts, dkT ⟨b0, 0, none⟩ R c sts, boxT gc 24 #[.int .i64 c.bt, .int .i64 c.rw, .int .i64 c.wd, .int .i64 c.md, .int .u64 c.sd], boxT w.heap.size 24 #[.int .i64 x.bt, .int .i64 x.rw, .int .i64 x.wd, .int .i64 x.md, .int .u64 x.sd]]) (fun _ lv _ => (intOf lv + 1).toNat)
  case atStart => exact ⟨0, 0, c.bt, F0, R0, _, Nat.zero_le _, Nat.zero_le _, rfl, rfl, by have := HBB.out; omega, HVS.out⟩
  case round =>
    obtain ⟨m0, at0, LVI, F, R, sts, hn1, hat, rfl, rfl, hlv, hv⟩ := hrel
    have HVr := Lib.hid hv
    clear hv
    have hbx := box_cell (i := 0) (v := .int .i64 c.bt) HVr.out.i2 rfl
    have hrt := (stI HVr.out.i0).right
    have HAT := Lib.hid hat
    by_cases hlt0 : m0 ≤ BB
    · obtain ⟨n, hnn⟩ : ∃ n : Nat, n + m0 = BB := ⟨BB - m0, by omega⟩
      obtain rfl : LVI = (n : Int) := by omega
      have hlt : n ≤ BB := by omega
      have hle : (n : Int) ≤ c.bt := by have := HBB.out; omega
      have hge : (0 : Int) ≤ (n : Int) := by omega
      obtain ⟨LN, hLN⟩ : ∃ l : Int, (n : Int) - 1 = l := ⟨_, rfl⟩
      have HLN : Hid (LN = (BB : Int) - ((m0 + 1 : Nat) : Int)) := Lib.hid (by omega)
      have hlw : wrap64 LN = LN := IntWalk.wrap64_in _ ⟨by omega, by omega⟩
      have hn59 : n ≤ 59 := by omega
      have HM0 := Lib.hid hlt0
      clear hlv hnn hlt0
      obtain ⟨st, hst⟩ : ∃ st, sts[n]? = some st := ⟨_, List.getElem?_eq_getElem (by have := hrt.2.2; omega)⟩
      obtain ⟨v9, Q9, hE9⟩ := st_lvl (stI HVr.out.i0) hst
      have HIN := Lib.hid (elv_in hE9)
      have hlen9 := ls_len (stI HVr.out.i0) hst
      obtain ⟨N1, hN1⟩ : ∃ N1, st.fl.length = N1 := ⟨_, rfl⟩
      rw [hN1] at hlen9
      have HN1 := Lib.hid hN1
      have HST := Lib.hid hst
      have HNB := Lib.hid hlt
      obtain ⟨g0, N0, cap0, p0, Q0, e5, hnN, e6, hEL, hQ0, -⟩ := dk_lvl (dkI HVr.out.i1) hst
      have hnN2 : (n : Int) < (N0 : Int) := by omega
      have HEL := Lib.hid hEL
      clear hrt hE9 hN1 hst hEL hQ0 hat
      go_upto_region 12 with (go_at_call 23; (with_reducible refine (dvm_cells p0 Q0 c (n : Int) st _ HEL.out).mono ?_); rintro e w1 ⟨gm, nm, capm, rfl, hm, hlm, hcm1, hcm2, hgm, hb⟩; rw [HN1.out] at hlm; subst hlm; have HV1 := Lib.hid (HVr.out.push (midT gm st.fl) hb hm (fun k hk => by rw [show k = gm from hk]; exact hgm)); have HGM := Lib.hid hgm; clear hm hb)
      clear e5 e6 hnN hnN2 hbx hle hlt hgm
      obtain ⟨wo, rfl⟩ : ∃ wo, wo = wr := ⟨_, rfl⟩
      go_wp2
      go_loopw [12, 15] (fun av iv wi => ∃ (k : Nat) (zc : List Int), k ≤ N1 ∧ iv = .int .i64 (k : Int) ∧ av = .int .i64 ((at0 : Int) + (k : Int)) ∧ zc.length = N1 ∧ In64 zc ∧ Have w wi [midT gm zc, stT p F c sts, dkT ⟨b0, 0, none⟩ R c sts, boxT gc 24 #[.int .i64 c.bt, .int .i64 c.rw, .int .i64 c.wd, .int .i64 c.md, .int .u64 c.sd], boxT w.heap.size 24 #[.int .i64 x.bt, .int .i64 x.rw, .int .i64 x.wd, .int .i64 x.md, .int .u64 x.sd]]) (fun _ iv _ => N1 - (intOf iv).toNat)
      case atStart => exact ⟨0, st.fl, Nat.zero_le _, rfl, by simp, HN1.out, HIN.out, HV1.out⟩
      case round =>
        obtain ⟨k, zc, hk, rfl, rfl, hzl, hzi, hv⟩ := hrel
        have HVi := Lib.hid hv
        have HZL := Lib.hid hzl
        have HZI := Lib.hid hzi
        clear hv hzl hzi
        by_cases hlt2 : k < N1
        · obtain ⟨u1, u2, u3, u4⟩ := ld_nums at0 k (by have := HAT.out; omega) (by omega)
          have U1 := Lib.hid u1
          by_cases hin : at0 + k < n0 ∧ at0 + k < 40
          · obtain ⟨i1, i2⟩ := hin
            have j1 : (at0 : Int) + (k : Int) < (n0 : Int) := by omega
            have j2 : (at0 : Int) + (k : Int) < 40 := by omega
            obtain ⟨z, hz1⟩ : ∃ z, zs[at0 + k]? = some z := ⟨_, List.getElem?_eq_getElem (by rw [HLZ.out]; exact i1)⟩
            have hzb := HZ.out z (List.mem_of_getElem? hz1)
            obtain ⟨ad, rfl, hcz⟩ := HRD.out _ _ hz1
            have d1 := cell_up hcz HVi.out.below
            obtain ⟨vj, hvj⟩ : ∃ vj, zc[k]? = some vj := ⟨_, List.getElem?_eq_getElem (by rw [HZL.out]; exact hlt2)⟩
            have xm := (midI HVi.out.i0).cell hvj
            rw [Nat.zero_add] at xm
            have zm := (midI HVi.out.i0).frozen k
            clear hz1 hcz hvj i1 i2
            go_wp2
            go_roundw
            case rel => exact ⟨k + 1, zc.set k z, by omega, by go_num, (by first | (refine congrArg (Value.int .i64) ?_; omega) | (rw [← U1.out])), by rw [List.length_set]; exact HZL.out, in64_set HZI.out k hzb.1 hzb.2, HVi.out.turn_0 (midT gm (zc.set k z)) (by have h9 := (midI HVi.out.i0).set k z; rw [Nat.zero_add] at h9; exact h9) (Kept.set (F := (midT gm zc).F) (Kept.refl _ _) (.inl rfl) k _) (fun k hk => .inl hk)⟩
            case measure => simp [intOf]; omega
          · have hcs : ¬ (at0 : Int) + (k : Int) < (n0 : Int) ∨ ((at0 : Int) + (k : Int) < (n0 : Int) ∧ ¬ (at0 : Int) + (k : Int) < 40) := by omega
            clear hin
            rcases hcs with j1 | ⟨j1, j2⟩
            all_goals go_wp2
            all_goals go_roundw
            all_goals first
              | exact ⟨k + 1, zc, by omega, by go_num, (by first | (refine congrArg (Value.int .i64) ?_; omega) | (rw [← U1.out])), HZL.out, HZI.out, HVi.out⟩
              | (simp [intOf]; omega)
        · obtain rfl : k = N1 := by omega
          clear hlt2 hk
          obtain ⟨g2, N2, cap2, p2, Q2, e5, hnN, e6, hEL, hQ2, hput⟩ := dk_lvl (dkI HVi.out.i2) HST.out
          have hnN2 : (n : Int) < (N2 : Int) := by omega
          have HPUT := Lib.hid hput
          have CLD := Lib.hid (dv_load p2 Q2 c (n : Int) st ⟨gm, 0, none⟩ k capm zc wr hEL (midI HVi.out.i0).rd HZL.out HZI.out HN1.out.symm (fun h => HVi.out.apart (u := dkT ⟨b0, 0, none⟩ R c sts) (by simp) gm rfl (hQ2 gm h)))
          clear hEL hQ2 hput
          go_upto_region 19 with (go_at_call 24; (with_reducible refine (CLD.out).mono ?_); rintro e w3 ⟨rfl, Q3, st3, h1, h2, -, h4, h5⟩; obtain ⟨R3, f1, f2, f3⟩ := HPUT.out w3 Q3 st3 h1 h4 h5; have HV3 := Lib.hid (HVi.out.turn_2 (dkT ⟨b0, 0, none⟩ R3 c (sts.set n st3)) f1 f2 f3); have HF3 := Lib.hid h2; clear h1 h2 h4 h5 f1 f2 f3)
          have CLS := Lib.hid (cs_load p F c sts n st ⟨gm, 0, none⟩ k capm zc w3 (stI HV3.out.i1) HST.out (midI HV3.out.i0).rd HZL.out HZI.out HN1.out.symm (fun h => HV3.out.apart (u := stT p F c sts) (by simp) gm rfl h))
          clear e5 e6 hnN hnN2
          go_wp2_with (go_at_call 25; (with_reducible refine (CLS.out).mono ?_); rintro e w4 ⟨rfl, F4, st4, h1, h2, h3, h4⟩; have HV4 := Lib.hid (HV3.out.turn_1 (stT p F4 c (sts.set n st4)) h1 h3 h4); have HF4 := Lib.hid h2; clear h1 h2 h3 h4)
          have hsn : n < sts.length := (List.getElem?_eq_some_iff.1 HST.out).1
          obtain ⟨-, -, -, p5, Q5, -, -, -, hD5, -, -⟩ := dk_lvl (dkI HV4.out.i2) (n := n) (st := st3) (by rw [List.getElem?_set_self hsn])
          obtain ⟨v6, Q6, hE6⟩ := st_lvl (stI HV4.out.i1) (n := n) (st := st4) (by rw [List.getElem?_set_self hsn])
          have hss : st3 = st4 := ls_eq hD5 hE6 (HF3.out.trans HF4.out.symm)
          subst hss
          have HVE : Hid (Have w w4 [stT p F4 c (sts.set n st3), dkT ⟨b0, 0, none⟩ R3 c (sts.set n st3), boxT gc 24 #[.int .i64 c.bt, .int .i64 c.rw, .int .i64 c.wd, .int .i64 c.md, .int .u64 c.sd], boxT w.heap.size 24 #[.int .i64 x.bt, .int .i64 x.rw, .int .i64 x.wd, .int .i64 x.md, .int .u64 x.sd]]) := Lib.hid HV4.out.drop_0
          clear hD5 hE6 hsn
          go_roundw
          case rel => exact ⟨m0 + 1, at0 + k, LN, F4, R3, sts.set n st3, by have := HM0.out; omega, by have := HAT.out; omega, (by first | rfl | (refine congrArg (Value.int .i64) ?_; omega)), rfl, HLN.out, HVE.out⟩
          case measure => simp [intOf]; omega
    · obtain rfl : LVI = -1 := by omega
      clear hlt0 hat hn1 hlv hrt hbx
      obtain ⟨ka, kb9⟩ := HKA.out
      have HIN9 : Hid (∀ n i : Int, -9223372036854775808 ≤ spV c sts n i ∧ spV c sts n i ≤ 9223372036854775807) := Lib.hid (fun n i => sp_in16 (stI HVr.out.i0) n i)
      have CH := Lib.hid (fun w hs => hv_heavy p F c sts a 15 w hs ka kb9 (by omega) (by omega))
      have CI := Lib.hid (fun w hs => hv_hier p F c sts a 15 w hs ka kb9 (by omega) (by omega))
      have DH := Lib.hid (fun w hs => rheavy_any ⟨b0, 0, none⟩ R c sts a 15 w hs HIN9.out ka kb9 (by omega) (by omega))
      have DI := Lib.hid (fun w hs => rhier_any ⟨b0, 0, none⟩ R c sts a 15 w hs HIN9.out ka kb9 (by omega) (by omega))
      obtain ⟨E, hE⟩ : ∃ v, hvC c (fun L i => spV c sts (L : Int) i) a 15 = v := ⟨_, rfl⟩
      obtain ⟨E2, hE2⟩ : ∃ v, hrC c (fun L i => spV c sts (L : Int) i) a 15 = v := ⟨_, rfl⟩
      obtain ⟨L1, hL1⟩ : ∃ v, hvL c (fun L i => spV c sts (L : Int) i) a 15 = v := ⟨_, rfl⟩
      obtain ⟨L2, hL2⟩ : ∃ v, hrL c (fun L i => spV c sts (L : Int) i) a 15 = v := ⟨_, rfl⟩
      rw [hE, hL1] at CH DH
      rw [hE2, hL2] at CI DI
      clear hE hE2 hL1 hL2 ka kb9
      go_wp2_with (first
        | (go_at_call 22; (with_reducible refine (rests_any A3 A4 n3 cap3 cap4 L2 _ (strI HVe.out.i1) (strI HVe.out.i0)).mono ?_); rintro e wf ⟨rfl, hb⟩; have HVf := Lib.hid (HVe.out.up hb); clear hb)
        | (go_at_call 21; (with_reducible refine (same_any A1 A2 n1 cap1 cap2 L1 _ (strI HVd.out.i3) (strI HVd.out.i2)).mono ?_); rintro e we ⟨rfl, hb⟩; have HVe := Lib.hid (HVd.out.up hb); clear hb)
        | (go_at_call 20; (with_reducible refine (DI.out _ (dkI HVc.out.i4)).mono ?_); rintro e wd ⟨A4, n4, cap4, rfl, h1, h2, hb⟩; obtain rfl : n3 = n4 := HN3.out.symm.trans (strI h1).len; have HVd := Lib.hid (HVc.out.push (stRowT 4 encR A4 n3 cap4 L2) hb h1 h2); clear h1 h2 hb)
        | (go_at_call 19; (with_reducible refine (CI.out _ (stI HVb.out.i2)).mono ?_); rintro e wc ⟨A3, n3, cap3, rfl, h1, h2, hb⟩; have HN3 := Lib.hid (strI h1).len; have HVc := Lib.hid (HVb.out.push (stRowT 4 encR A3 n3 cap3 L2) hb h1 h2); clear h1 h2 hb)
        | (go_at_call 18; (with_reducible refine (DH.out _ (dkI HVa.out.i2)).mono ?_); rintro e wb ⟨A2, n2, cap2, rfl, h1, h2, hb⟩; obtain rfl : n1 = n2 := HN1.out.symm.trans (strI h1).len; have HVb := Lib.hid (HVa.out.push (stRowT 3 encF A2 n1 cap2 L1) hb h1 h2); clear h1 h2 hb)
        | (go_at_call 17; (with_reducible refine (CH.out _ (stI (HVr.out.up (by repeat' (first | (with_reducible first | exact Below.refl _ _ | assumption | refine below_over ?_ _ _ | refine Lw.below_alloc ?_ _ | refine Below.drew ?_ | refine below_drewN ?_ _ | refine Below.setCell ?_ ?_ _) | go_size))).i0)).mono ?_); rintro e wa ⟨A1, n1, cap1, rfl, h1, h2, hb⟩; have HN1 := Lib.hid (strI h1).len; have HVa := Lib.hid ((HVr.out.up (by repeat' (first | (with_reducible first | exact Below.refl _ _ | assumption | refine below_over ?_ _ _ | refine Lw.below_alloc ?_ _ | refine Below.drew ?_ | refine below_drewN ?_ _ | refine Below.setCell ?_ ?_ _) | go_size))).push (stRowT 3 encF A1 n1 cap1 L1) hb h1 h2); clear h1 h2 hb))
      go_ret
      exact ⟨ret_bs (by first | rfl | (simp [*]; done)), HVf.out.below⟩
namespace heavyLoaded
open Go.ChangeShapes Go.WideShapes Go.ChangeAt Go.Joins
set_option maxRecDepth 100000 in
theorem lifted (os : Os) (started : os.Started) (H : Type) (enc : TypeId × Value → H) :
    ReturnsInHanded {} Tryz.checked os 4 .any (Rows.heavyLoadedSpec.pre6 enc Tryz.prog Tryz.f4 Rows.heavyLoadedRow.domain false) (Rows.heavyLoadedSpec.post enc Tryz.prog Tryz.f4 false true false false) := by
  refine Lw.lifted (C := Tryz.checked) (B := 4) (by kernel_rfl) os started (by kernel_rfl) Tryz.func4
    (ChangeSpec.witness6 (enc := enc) (C := Tryz.checked) false ⟨#[], #[.agg #[.int .i64 0, .int .i64 0, .int .i64 0, .int .i64 0, .int .u64 0], .slice none 0 0, .int .i64 0], []⟩ 8 (by kernel_rfl) (by kernel_rfl) (by kernel_rfl) (by kernel_rfl)) rfl Tryz.underlying4 (by kernel_rfl) (by kernel_rfl) (by kernel_rfl) ?_ ?_
  · intro ds h
    rw [Tryz.params4] at h
    match ds, h with
    | [_, _, _], _ => rfl
  · intro W base args ds p hval hA
    rw [Tryz.params4] at hA hval
    obtain ⟨v0, vs0, d0, ds0, p0, q0, hargs, rfl, rfl, h0, r0⟩ := trodAll_cons hA
    obtain ⟨v1, vs1, d1, ds1, p1, q1, rfl, rfl, rfl, h1, r1⟩ := trodAll_cons r0
    obtain ⟨v2, vs2, d2, ds2, p2, q2, rfl, rfl, rfl, h2, r2⟩ := trodAll_cons r1
    obtain ⟨rfl, rfl, rfl⟩ := trodAll_nil r2
    obtain rfl : args = #[v0, v1, v2] := by cases args; simp_all
    obtain ⟨x0_0, x0_1, x0_2, x0_3, x0_4, rfl, z0_0, z0_1, z0_2, z0_3, z0_4⟩ := open_cfg (hval 0 24 v0 rfl rfl) h0
    obtain ⟨A1, n1, c1, zs1, rfl, hA1, hn1, hc1, hr1, hl1, hz1⟩ := open_list_int64 (hval 1 54 v1 rfl rfl) h1
    obtain ⟨a2, rfl, rfl, rfl, w2⟩ := open_int Tryz.underlying2 (hval 2 2 v2 rfl rfl) h2
    have b2 := Lw.wf_i64 w2
    exact loaded_law ⟨x0_0, x0_1, x0_2, x0_3, x0_4⟩ A1 n1 c1 zs1 a2 W ⟨z0_0.1, z0_0.2, z0_1.1, z0_1.2, z0_2.1, z0_2.2, z0_3.1, z0_3.2, z0_4.1, z0_4.2⟩ hA1 hn1 hc1 hr1 hl1 hz1 b2.1 b2.2
theorem over : Rows.heavyLoadedRow.holds Tryz.pinned (OpenSpec.ofChange Rows.heavyLoadedSpec) :=
  OpenClaim.holds_of_wide 4 Tryz.f4 rfl rfl rfl rfl rfl rfl rfl ⟨rfl, rfl, rfl, rfl, rfl⟩ rfl rfl rfl rfl rfl (by kernel_rfl) Tryz.func4 (by kernel_rfl)
    (of_decide_eq_true (by kernel_rfl)) (by unfold Func.isWrapper; first | (rw [if_pos (by decide +kernel)]; kernel_rfl) | (rw [if_neg (by decide +kernel)]; exact ⟨rfl, rfl⟩))
    (fun os started H enc _ => lifted os started H enc)
theorem proved : Rows.HeavyLoadedSaid :=
  over
#print axioms proved
end heavyLoaded
end Go.Proofs.YtkflggojiiebeaaGreat.Hvy
