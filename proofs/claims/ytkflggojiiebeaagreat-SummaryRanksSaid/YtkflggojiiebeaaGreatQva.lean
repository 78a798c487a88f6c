/- Texts that statements lean on, put together: Row, SmrMade. -/
import Derived.Test.YtkflggojiiebeaaGreatQaa
import Derived.Test.YtkflggojiiebeaaGreatQab
import Derived.Test.YtkflggojiiebeaaGreatQac
import Derived.Test.YtkflggojiiebeaaGreatQad
import Derived.Test.YtkflggojiiebeaaGreatQae
import Derived.Test.YtkflggojiiebeaaGreatQaf
import Derived.Test.YtkflggojiiebeaaGreatQag
import Derived.Test.YtkflggojiiebeaaGreatQca
import Derived.Test.YtkflggojiiebeaaGreatQcb
import Derived.Test.YtkflggojiiebeaaGreatQcc
import Derived.Test.YtkflggojiiebeaaGreatQda
import Derived.Test.YtkflggojiiebeaaGreatQea
import Derived.Test.YtkflggojiiebeaaGreatQha
import Derived.Test.YtkflggojiiebeaaGreatQia
import Derived.Test.YtkflggojiiebeaaGreatQib
import Derived.Test.YtkflggojiiebeaaGreatQja
import Derived.Test.YtkflggojiiebeaaGreatQpa
import Derived.Test.YtkflggojiiebeaaGreatRows
import Derived.WalkKit
import Derived.ProofKit
import Derived.OpenShut
import Derived.DataShut
import Derived.Lib.SmallJoins
import Derived.Handy
import Derived.WalkSmall
import Derived.Deep.Draws
import Derived.WalkSpells
import Derived.Laws.AppendOwnNone
import Derived.Deep.AppendLies
import Derived.Lib.Hide
import Derived.Deep.MidRow
import Derived.Laws.BitsAllLaws
import Derived.WalkMore
import Derived.Deep.LoopGhost
import Derived.Deep.RegionHeld3
import Derived.Deep.QuietTactic
import Derived.BigQuiet
import Derived.Laws.Cover3
import Derived.Shelf.Spec.BitsCarry
import Derived.Laws.OwnMore
import Derived.Deep.DeepCutAuto
import Derived.Laws.EntriesVeiled
import Derived.Deep.CutRange
import Derived.RangeFuncNested
import Derived.RangeFuncBound
import Derived.RangeFuncCalls
import Derived.RangeFuncLeaves
import Derived.Maps.AppendAt
import Derived.Shelf.Abstract
import Derived.Shelf.RegionOpen
import Derived.OwnWalkIn
import Derived.TacticsInMore
import Derived.LoopNIn
import Derived.LoopIn
import Derived.RangeFuncBox
namespace Go.Proofs.YtkflggojiiebeaaGreat.Con
end Go.Proofs.YtkflggojiiebeaaGreat.Con
namespace Go.Proofs.YtkflggojiiebeaaGreat.Exa
end Go.Proofs.YtkflggojiiebeaaGreat.Exa
namespace Go.Proofs.YtkflggojiiebeaaGreat.Fld
end Go.Proofs.YtkflggojiiebeaaGreat.Fld
namespace Go.Proofs.YtkflggojiiebeaaGreat.Grd
end Go.Proofs.YtkflggojiiebeaaGreat.Grd
namespace Go.Proofs.YtkflggojiiebeaaGreat.Hsh
end Go.Proofs.YtkflggojiiebeaaGreat.Hsh
namespace Go.Proofs.YtkflggojiiebeaaGreat.Hvy
end Go.Proofs.YtkflggojiiebeaaGreat.Hvy
namespace Go.Proofs.YtkflggojiiebeaaGreat.Inn
end Go.Proofs.YtkflggojiiebeaaGreat.Inn
namespace Go.Proofs.YtkflggojiiebeaaGreat.Lev
end Go.Proofs.YtkflggojiiebeaaGreat.Lev
namespace Go.Proofs.YtkflggojiiebeaaGreat.Lin
end Go.Proofs.YtkflggojiiebeaaGreat.Lin
namespace Go.Proofs.YtkflggojiiebeaaGreat.Lw
end Go.Proofs.YtkflggojiiebeaaGreat.Lw
namespace Go.Proofs.YtkflggojiiebeaaGreat.Ord
end Go.Proofs.YtkflggojiiebeaaGreat.Ord
namespace Go.Proofs.YtkflggojiiebeaaGreat.Pcs
end Go.Proofs.YtkflggojiiebeaaGreat.Pcs
namespace Go.Proofs.YtkflggojiiebeaaGreat.Qnt
end Go.Proofs.YtkflggojiiebeaaGreat.Qnt
namespace Go.Proofs.YtkflggojiiebeaaGreat.Sed
end Go.Proofs.YtkflggojiiebeaaGreat.Sed
namespace Go.Proofs.YtkflggojiiebeaaGreat.Shp
end Go.Proofs.YtkflggojiiebeaaGreat.Shp
namespace Go.Proofs.YtkflggojiiebeaaGreat.Sk
end Go.Proofs.YtkflggojiiebeaaGreat.Sk
namespace Go.Proofs.YtkflggojiiebeaaGreat.Smr
end Go.Proofs.YtkflggojiiebeaaGreat.Smr
namespace Go.Proofs.YtkflggojiiebeaaGreat.Spn
end Go.Proofs.YtkflggojiiebeaaGreat.Spn
namespace Go.Proofs.YtkflggojiiebeaaGreat.Stk
end Go.Proofs.YtkflggojiiebeaaGreat.Stk
namespace Go.Proofs.YtkflggojiiebeaaGreat.Wid
end Go.Proofs.YtkflggojiiebeaaGreat.Wid
namespace Go.Proofs.YtkflggojiiebeaaGreat.Lw
open Go Go.RowKit
set_option linter.unusedVariables false
theorem rd3 {k : IntKind} {w : World} {B : Nat} {a b c : Int} (h0 : w.cell? ⟨B, 0, none⟩ = some (.int k a)) (h1 : w.cell? ⟨B, 1, none⟩ = some (.int k b)) (h2 : w.cell? ⟨B, 2, none⟩ = some (.int k c)) : Rd k w (some ⟨B, 0, none⟩) [a, b, c] := by
  intro j v hj
  match j, hj with
  | 0, hj =>
    simp at hj
    subst hj
    exact ⟨_, rfl, by simpa [Addr.add] using h0⟩
  | 1, hj =>
    simp at hj
    subst hj
    exact ⟨_, rfl, by simpa [Addr.add] using h1⟩
  | 2, hj =>
    simp at hj
    subst hj
    exact ⟨_, rfl, by simpa [Addr.add] using h2⟩
end Go.Proofs.YtkflggojiiebeaaGreat.Lw

namespace Go.Proofs.YtkflggojiiebeaaGreat.Smr
open Go Go.RowKit Lw Grd Lin Con Shp Sk Exa Lev Stk
set_option linter.unusedVariables false
set_option linter.unusedSimpArgs false
set_option maxRecDepth 100000 in
set_option maxHeartbeats 40000000 in
theorem made_6 (x : Cfg) (A : Option Addr) (n0 k0 : Nat) (qs : Ups) (c : Cfg) (w : World) (hx : x.Ok) (hq : UpdV w A n0 k0 qs) (hC : anyC x 6 9 = c) :
    Calls Tryz.prog 27 #[.agg #[.int .i64 x.bt, .int .i64 x.rw, .int .i64 x.wd, .int .i64 x.md, .int .u64 x.sd, .slice A n0 k0], .int .i64 6] w fun e w' => ∃ (p r : Addr) (F G : Nat → Prop) (sts : List LS), e = .returned (.tuple #[.pointer (some p), .pointer (some r)]) ∧ Have w w' [dkT r G c sts, stT p F c sts] := by
  have hr := any_right x 6 9 (by omega) (by omega) (by omega) (by omega)
  have hco := any_ok x hx 6 9 (by omega) (by omega) (by omega) (by omega)
  have CA := Lib.hid (fun w => rany_at x 6 9 c w hx (by omega) (by omega) (by omega) (by omega) hC)
  rw [hC] at hr hco
  have CNW := Lib.hid (fun w => cs_new c w hco hr)
  have CND := Lib.hid (fun w => dk_new c w hco hr)
  have HQ := Lib.hid hq
  have HL := Lib.hid hq.len
  have hnc := hq.nc
  have hcm := hq.cm
  unfold maxLen at hcm
  obtain ⟨Z, hZ⟩ : ∃ Z, stsOf c [] = Z := ⟨_, rfl⟩
  rw [hZ] at CNW CND
  have HBX : Hid (Have w (w.alloc (.cells #[.int .i64 x.bt, .int .i64 x.rw, .int .i64 x.wd, .int .i64 x.md, .int .u64 x.sd, .slice A n0 k0] 63)) [boxT w.heap.size 63 #[.int .i64 x.bt, .int .i64 x.rw, .int .i64 x.wd, .int .i64 x.md, .int .u64 x.sd, .slice A n0 k0]]) := Lib.hid (box_new w _ _)
  obtain ⟨x0, x1, x2, x3, x4, x5⟩ := box6 HBX.out.i0
  clear hr hco hq hx hC hZ
  go_enter Tryz.func27, Tryz.ntmps27
  go_wp2_with (first
    | (go_at_call 14; (with_reducible refine (CND.out _).mono ?_); rintro e w5 ⟨r, G, rfl, hsk, hfr, hb⟩; have HV5 := Lib.hid (HV4.out.push (dkT r G c Z) hb hsk hfr); clear hsk hfr hb)
    | (go_at_call 13; (with_reducible refine (CNW.out _).mono ?_); rintro e w4 ⟨p, F, rfl, hsk, hfr, hb⟩; have HV4 := Lib.hid (HV3.out.push (stT p F c Z) hb hsk hfr); clear hsk hfr hb; obtain ⟨y0, y1, y2, y3, y4⟩ := box5 HV4.out.i1)
    | (go_at_call 12; (with_reducible refine (CA.out _).mono ?_); rintro e w2 ⟨rfl, hb⟩; have HV2 := Lib.hid (HBX.out.up hb); clear x0 x1 x2 x3 x4 x5; have HV3 := Lib.hid (HV2.out.push (boxT w2.heap.size 24 #[.int .i64 c.bt, .int .i64 c.rw, .int .i64 c.wd, .int .i64 c.md, .int .u64 c.sd]) (Lw.below_alloc (Below.refl _ _) _) (heap_alloc_new w2 _) (fun k hk => Nat.le_of_eq hk.symm)); clear hb))
  obtain ⟨gc, hgc⟩ : ∃ g1, w2.heap.size = g1 := ⟨_, rfl⟩
  rw [hgc] at HV5 ⊢
  clear hgc y0 y1 y2 y3 y4 HV2 HV3 HV4
  go_loopw [10] (fun iv wr => ∃ (k : Nat) (F G : Nat → Prop) (sts : List LS), k ≤ 30 ∧ iv = .int .i64 k ∧ Have w wr [dkT r G c sts, stT p F c sts, boxT gc 24 #[.int .i64 c.bt, .int .i64 c.rw, .int .i64 c.wd, .int .i64 c.md, .int .u64 c.sd], boxT w.heap.size 63 #[.int .i64 x.bt, .int .i64 x.rw, .int .i64 x.wd, .int .i64 x.md, .int .u64 x.sd, .slice A n0 k0]]) (fun iv _ => 40 - (intOf iv).toNat)
  case atStart => exact ⟨0, F, G, Z, Nat.zero_le _, rfl, HV5.out⟩
  case round =>
    obtain ⟨k, F, G, sts, hk1, rfl, hv⟩ := hrel
    have HVr := Lib.hid hv
    clear hv
    obtain ⟨_, _, _, _, _, c0⟩ := box6 HVr.out.i3
    by_cases hlt : k < n0 ∧ k < 30
    · obtain ⟨hj1, hj2⟩ := hlt
      obtain ⟨q, hq1⟩ : ∃ q, qs[k]? = some q := ⟨_, List.getElem?_eq_getElem (by rw [HL.out]; omega)⟩
      obtain ⟨aa, g, o, rfl, hadd, d1w, d2w, kb, db⟩ := HQ.out.at hq1
      obtain ⟨qk, qd⟩ := q
      simp only at d1w d2w kb db
      have D1W := Lib.hid d1w
      have D2W := Lib.hid d2w
      have d1 := cell_up d1w HVr.out.below
      have d2 := cell_up d2w HVr.out.below
      clear hq1 d1w d2w
      go_upto_region 9 with fail
      go_region_held3 (fun w' => w'.cell? ⟨w.heap.size, 5, none⟩ = some (.slice (some aa) n0 k0) ∧ w'.cell? ⟨g, o, none⟩ = some (.int .u64 qk) ∧ w'.cell? ⟨g, o + 1, none⟩ = some (.int .i64 qd)) (first | (refine ⟨?_, ?_, ?_⟩ <;> (first | (with_reducible assumption) | (with_reducible refine cell_up c0 ?_) | (with_reducible refine cell_up d1 ?_) | (with_reducible refine cell_up d2 ?_)) <;> (repeat' (first | (with_reducible first | exact Below.refl _ _ | assumption | refine below_over ?_ _ _ | refine Lw.below_alloc ?_ _ | refine Below.drew ?_ | refine below_drewN ?_ _ | refine Below.setCell ?_ ?_ _) | go_size)))) (first | (go_at_call 15; (with_reducible refine (cs_upd p F c sts qk qd _ (stI (HVr.out.up (by repeat' (first | (with_reducible first | exact Below.refl _ _ | assumption | refine below_over ?_ _ _ | refine Lw.below_alloc ?_ _ | refine Below.drew ?_ | refine below_drewN ?_ _ | refine Below.setCell ?_ ?_ _) | go_size))).i1) kb.1 kb.2 db.1 db.2).mono ?_); rintro e w8 ⟨rfl, F8, hnp, hnk, hnf⟩; have HV8 := Lib.hid ((HVr.out.up (by repeat' (first | (with_reducible first | exact Below.refl _ _ | assumption | refine below_over ?_ _ _ | refine Lw.below_alloc ?_ _ | refine Below.drew ?_ | refine below_drewN ?_ _ | refine Below.setCell ?_ ?_ _) | go_size))).turn_1 (stT p F8 c (sures c sts qk qd)) hnp hnk hnf); clear hnp hnk hnf d1 d2 c0; have d1 := cell_up D1W.out HV8.out.below; have d2 := cell_up D2W.out HV8.out.below; obtain ⟨_, _, _, _, _, c0⟩ := box6 HV8.out.i3))
      all_goals go_upto_region 10 with fail
      all_goals go_region_held3 (fun w' => w'.cell? ⟨w.heap.size, 5, none⟩ = some (.slice (some aa) n0 k0) ∧ w'.cell? ⟨g, o, none⟩ = some (.int .u64 qk) ∧ w'.cell? ⟨g, o + 1, none⟩ = some (.int .i64 qd)) (first | (refine ⟨?_, ?_, ?_⟩ <;> (first | (with_reducible assumption) | (with_reducible refine cell_up c0 ?_) | (with_reducible refine cell_up d1 ?_) | (with_reducible refine cell_up d2 ?_)) <;> (repeat' (first | (with_reducible first | exact Below.refl _ _ | assumption | refine below_over ?_ _ _ | refine Lw.below_alloc ?_ _ | refine Below.drew ?_ | refine below_drewN ?_ _ | refine Below.setCell ?_ ?_ _) | go_size)))) (first | (go_at_call 16; (with_reducible refine (dk_upd r G c sts qk qd _ (dkI (HV8.out.up (by repeat' (first | (with_reducible first | exact Below.refl _ _ | assumption | refine below_over ?_ _ _ | refine Lw.below_alloc ?_ _ | refine Below.drew ?_ | refine below_drewN ?_ _ | refine Below.setCell ?_ ?_ _) | go_size))).i0) kb.1 kb.2 db.1 db.2).mono ?_); rintro e w9 ⟨rfl, G9, hnp, hnk, hnf⟩; have HV9 := Lib.hid ((HV8.out.up (by repeat' (first | (with_reducible first | exact Below.refl _ _ | assumption | refine below_over ?_ _ _ | refine Lw.below_alloc ?_ _ | refine Below.drew ?_ | refine below_drewN ?_ _ | refine Below.setCell ?_ ?_ _) | go_size))).turn_0 (dkT r G9 c (sures c sts qk qd)) hnp hnk hnf); clear hnp hnk hnf d1 d2 c0; have d1 := cell_up D1W.out HV9.out.below; have d2 := cell_up D2W.out HV9.out.below; obtain ⟨_, _, _, _, _, c0⟩ := box6 HV9.out.i3))
      all_goals go_wp2
      all_goals go_roundw
      all_goals first
        | exact ⟨k + 1, F8, G9, sures c sts qk qd, by omega, by go_num, HV9.out⟩
        | exact ⟨k + 1, F8, G9, sures c sts qk qd, by omega, by go_num, HV9.out.up (by repeat' (first | (with_reducible first | exact Below.refl _ _ | assumption | refine below_over ?_ _ _ | refine Lw.below_alloc ?_ _ | refine Below.drew ?_ | refine below_drewN ?_ _ | refine Below.setCell ?_ ?_ _) | go_size))⟩
        | (simp [intOf]; omega)
    · have hcases : ((k : Int) < n0 ∧ ¬ (k : Int) < 30) ∨ ¬ (k : Int) < n0 := by omega
      clear hlt
      rcases hcases with ⟨hc1, hc2⟩ | hc1
      all_goals go_wp2
      all_goals refine bodyPost_ret (v := .tuple #[.pointer (some p), .pointer (some r)]) (by simp [results, Tryz.results27, go_sem]) rfl ?_
      all_goals exact ⟨p, r, rfl, F, G, sts, HVr.out.erase2.erase2⟩
end Go.Proofs.YtkflggojiiebeaaGreat.Smr

