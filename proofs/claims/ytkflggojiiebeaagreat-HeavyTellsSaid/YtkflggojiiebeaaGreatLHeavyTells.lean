/- The statement HeavyTells of layer 18 holds. Printed by wip/gen/hvy11.py. -/
import Derived.Test.YtkflggojiiebeaaGreatQib
import Derived.Test.YtkflggojiiebeaaGreatQqb
import Derived.Test.YtkflggojiiebeaaGreatQqd
import Derived.Test.YtkflggojiiebeaaGreatQxa
namespace Go.Proofs.YtkflggojiiebeaaGreat.Hvy
open Go Go.RowKit Lw Grd Lin Con Shp Sk Exa Lev Stk Pcs Spn Qnt
set_option linter.unusedVariables false
set_option linter.unusedSimpArgs false
set_option linter.unusedSimpArgs false
set_option maxRecDepth 100000 in
set_option maxHeartbeats 40000000 in
theorem tells_law (x : Cfg) (A : Option Addr) (n0 k0 : Nat) (qs : Ups) (a b : Int) (w : World) (hx : x.Ok) (hq : UpdV w A n0 k0 qs) (ka : -9223372036854775808 ≤ a) (kb9 : a ≤ 9223372036854775807) (ua : -9223372036854775808 ≤ b) (ub : b ≤ 9223372036854775807) :
    Calls Tryz.prog 3 #[.agg #[.int .i64 x.bt, .int .i64 x.rw, .int .i64 x.wd, .int .i64 x.md, .int .u64 x.sd, .slice A n0 k0], .int .i64 a, .int .i64 b] w fun e w' => e = .returned (.bool true) ∧ Below w.heap.size w w' := by
  obtain ⟨c, hC⟩ : ∃ c, anyC x 5 9 = c := ⟨_, rfl⟩
  have hr := any_right x 5 9 (by omega) (by omega) (by omega) (by omega)
  have hco := any_ok x hx 5 9 (by omega) (by omega) (by omega) (by omega)
  have CA := Lib.hid (fun w => rany_at x 5 9 c w hx (by omega) (by omega) (by omega) (by omega) hC)
  rw [hC] at hr hco
  have CNW := Lib.hid (fun w => cs_new c w hco hr)
  have CND := Lib.hid (fun w => dk_new c w hco hr)
  have HR := Lib.hid hr
  have HQ := Lib.hid hq
  have HL := Lib.hid hq.len
  have HU := Lib.hid (And.intro ua ub)
  have hnc := hq.nc
  have hcm := hq.cm
  unfold maxLen at hcm
  obtain ⟨Z, hZ⟩ : ∃ Z, stsOf c [] = Z := ⟨_, rfl⟩
  rw [hZ] at CNW CND
  have HBX : Hid (Have w (w.alloc (.cells #[.int .i64 x.bt, .int .i64 x.rw, .int .i64 x.wd, .int .i64 x.md, .int .u64 x.sd, .slice A n0 k0] 27)) [boxT w.heap.size 27 #[.int .i64 x.bt, .int .i64 x.rw, .int .i64 x.wd, .int .i64 x.md, .int .u64 x.sd, .slice A n0 k0]]) := Lib.hid (box_new w _ _)
  clear hr hco hq hx hC hZ ua ub
  go_enter Tryz.func3, Tryz.ntmps3
  go_wp2_with (first
    | (go_at_call 14; (with_reducible refine (CND.out _).mono ?_); rintro e w5 ⟨r, G, rfl, hsk, hfr, hb⟩; have HV5 := Lib.hid (HV4.out.push (dkT r G c Z) hb hsk hfr); clear hsk hfr hb)
    | (go_at_call 13; (with_reducible refine (CNW.out _).mono ?_); rintro e w4 ⟨p, F, rfl, hsk, hfr, hb⟩; have HV4 := Lib.hid (HV3.out.push (stT p F c Z) hb hsk hfr); clear hsk hfr hb; obtain ⟨y0, y1, y2, y3, y4⟩ := box5 HV4.out.i1)
    | (go_at_call 12; (with_reducible refine (CA.out _).mono ?_); rintro e w2 ⟨rfl, hb⟩; have HV2 := Lib.hid (HV1.out.up hb); clear x0 x1 x2 x3 x4 x5; have HV3 := Lib.hid (HV2.out.push (boxT w2.heap.size 24 #[.int .i64 c.bt, .int .i64 c.rw, .int .i64 c.wd, .int .i64 c.md, .int .u64 c.sd]) (Lw.below_alloc (Below.refl _ _) _) (heap_alloc_new w2 _) (fun k hk => Nat.le_of_eq hk.symm)); clear hb)
    | (go_at_call 11; (with_reducible refine (shown_any _).mono ?_); rintro e w1 ⟨rfl, hb⟩; have HV1 := Lib.hid (HBX.out.up hb); clear hb; obtain ⟨x0, x1, x2, x3, x4, x5⟩ := box6 HV1.out.i0))
  obtain ⟨gc, hgc⟩ : ∃ g1, w2.heap.size = g1 := ⟨_, rfl⟩
  rw [hgc] at HV5 ⊢
  clear hgc y0 y1 y2 y3 y4 HV1 HV2 HV3 HV4
  go_loopw [12] (fun iv wr => ∃ (k : Nat) (F G : Nat → Prop) (sts : List LS), k ≤ 30 ∧ iv = .int .i64 k ∧ Have w wr [dkT r G c sts, stT p F c sts, boxT gc 24 #[.int .i64 c.bt, .int .i64 c.rw, .int .i64 c.wd, .int .i64 c.md, .int .u64 c.sd], boxT w.heap.size 27 #[.int .i64 x.bt, .int .i64 x.rw, .int .i64 x.wd, .int .i64 x.md, .int .u64 x.sd, .slice A n0 k0]]) (fun iv _ => 40 - (intOf iv).toNat)
  case atStart => exact ⟨0, F, G, Z, Nat.zero_le _, rfl, HV5.out⟩
  case round =>
    obtain ⟨k, F, G, sts, hk1, rfl, hv⟩ := hrel
    have HVr := Lib.hid hv
    clear hv
    obtain ⟨_, _, _, _, _, c0⟩ := box6 HVr.out.i3
    by_cases hlt : k < n0 ∧ k < 30
    · obtain ⟨hj1, hj2⟩ := hlt
      obtain ⟨q, hq1⟩ : ∃ q, qs[k]? = some q := ⟨_, List.getElem?_eq_getElem (by rw [HL.out]; omega)⟩
      obtain ⟨aa, g, o, rfl, hadd, d1w, d2w, kb, db⟩ := HQ.out.at hq1
      obtain ⟨qk, qd⟩ := q
      simp only at d1w d2w kb db
      have D1W := Lib.hid d1w
      have D2W := Lib.hid d2w
      have d1 := cell_up d1w HVr.out.below
      have d2 := cell_up d2w HVr.out.below
      clear hq1 d1w d2w
      go_upto_region 10 with fail
      go_region_held3 (fun w' => w'.cell? ⟨w.heap.size, 5, none⟩ = some (.slice (some aa) n0 k0) ∧ w'.cell? ⟨g, o, none⟩ = some (.int .u64 qk) ∧ w'.cell? ⟨g, o + 1, none⟩ = some (.int .i64 qd)) (first | (refine ⟨?_, ?_, ?_⟩ <;> (first | (with_reducible assumption) | (with_reducible refine cell_up c0 ?_) | (with_reducible refine cell_up d1 ?_) | (with_reducible refine cell_up d2 ?_)) <;> (repeat' (first | (with_reducible first | exact Below.refl _ _ | assumption | refine below_over ?_ _ _ | refine Lw.below_alloc ?_ _ | refine Below.drew ?_ | refine below_drewN ?_ _ | refine Below.setCell ?_ ?_ _) | go_size)))) (first | (go_at_call 15; (with_reducible refine (cs_upd p F c sts qk qd _ (stI (HVr.out.up (by repeat' (first | (with_reducible first | exact Below.refl _ _ | assumption | refine below_over ?_ _ _ | refine Lw.below_alloc ?_ _ | refine Below.drew ?_ | refine below_drewN ?_ _ | refine Below.setCell ?_ ?_ _) | go_size))).i1) kb.1 kb.2 db.1 db.2).mono ?_); rintro e w8 ⟨rfl, F8, hnp, hnk, hnf⟩; have HV8 := Lib.hid ((HVr.out.up (by repeat' (first | (with_reducible first | exact Below.refl _ _ | assumption | refine below_over ?_ _ _ | refine Lw.below_alloc ?_ _ | refine Below.drew ?_ | refine below_drewN ?_ _ | refine Below.setCell ?_ ?_ _) | go_size))).turn_1 (stT p F8 c (sures c sts qk qd)) hnp hnk hnf); clear hnp hnk hnf d1 d2 c0; have d1 := cell_up D1W.out HV8.out.below; have d2 := cell_up D2W.out HV8.out.below; obtain ⟨_, _, _, _, _, c0⟩ := box6 HV8.out.i3))
      all_goals go_upto_region 11 with fail
      all_goals go_region_held3 (fun w' => w'.cell? ⟨w.heap.size, 5, none⟩ = some (.slice (some aa) n0 k0) ∧ w'.cell? ⟨g, o, none⟩ = some (.int .u64 qk) ∧ w'.cell? ⟨g, o + 1, none⟩ = some (.int .i64 qd)) (first | (refine ⟨?_, ?_, ?_⟩ <;> (first | (with_reducible assumption) | (with_reducible refine cell_up c0 ?_) | (with_reducible refine cell_up d1 ?_) | (with_reducible refine cell_up d2 ?_)) <;> (repeat' (first | (with_reducible first | exact Below.refl _ _ | assumption | refine below_over ?_ _ _ | refine Lw.below_alloc ?_ _ | refine Below.drew ?_ | refine below_drewN ?_ _ | refine Below.setCell ?_ ?_ _) | go_size)))) (first | (go_at_call 16; (with_reducible refine (dk_upd r G c sts qk qd _ (dkI (HV8.out.up (by repeat' (first | (with_reducible first | exact Below.refl _ _ | assumption | refine below_over ?_ _ _ | refine Lw.below_alloc ?_ _ | refine Below.drew ?_ | refine below_drewN ?_ _ | refine Below.setCell ?_ ?_ _) | go_size))).i0) kb.1 kb.2 db.1 db.2).mono ?_); rintro e w9 ⟨rfl, G9, hnp, hnk, hnf⟩; have HV9 := Lib.hid ((HV8.out.up (by repeat' (first | (with_reducible first | exact Below.refl _ _ | assumption | refine below_over ?_ _ _ | refine Lw.below_alloc ?_ _ | refine Below.drew ?_ | refine below_drewN ?_ _ | refine Below.setCell ?_ ?_ _) | go_size))).turn_0 (dkT r G9 c (sures c sts qk qd)) hnp hnk hnf); clear hnp hnk hnf d1 d2 c0; have d1 := cell_up D1W.out HV9.out.below; have d2 := cell_up D2W.out HV9.out.below; obtain ⟨_, _, _, _, _, c0⟩ := box6 HV9.out.i3))
      all_goals go_wp2
      all_goals go_roundw
      all_goals first
        | exact ⟨k + 1, F8, G9, sures c sts qk qd, by omega, by go_num, HV9.out⟩
        | exact ⟨k + 1, F8, G9, sures c sts qk qd, by omega, by go_num, HV9.out.up (by repeat' (first | (with_reducible first | exact Below.refl _ _ | assumption | refine below_over ?_ _ _ | refine Lw.below_alloc ?_ _ | refine Below.drew ?_ | refine below_drewN ?_ _ | refine Below.setCell ?_ ?_ _) | go_size))⟩
        | (simp [intOf]; omega)
    · have hcases : ((k : Int) < n0 ∧ ¬ (k : Int) < 30) ∨ ¬ (k : Int) < n0 := by omega
      clear hlt
      have HIN : Hid (∀ n i : Int, -9223372036854775808 ≤ spV c sts n i ∧ spV c sts n i ≤ 9223372036854775807) := Lib.hid (fun n i => sp_in16 (stI HVr.out.i1) n i)
      have HFIN : Hid (∀ (BD : Int), -9223372036854775808 ≤ BD → BD ≤ 9223372036854775807 → ∃ (E E2 : Int) (L1 : List ((Nat × Nat) × Int)) (L2 : List Kp),
          (∀ w, ST w p F c sts → Calls Tryz.prog 17 #[.pointer (some p), .int .i64 a, .int .i64 BD] w fun e w' => ∃ (A : Option Addr) (n cap : Nat), e = .returned (.tuple #[.slice A n cap, .int .i64 E]) ∧ (stRowT 3 encF A n cap L1).I w' ∧ (∀ q, (stRowT 3 encF A n cap L1).F q → w.heap.size ≤ q) ∧ Below w.heap.size w w') ∧
          (∀ w, ST w p F c sts → Calls Tryz.prog 19 #[.pointer (some p), .int .i64 a, .int .i64 BD] w fun e w' => ∃ (A : Option Addr) (n cap : Nat), e = .returned (.tuple #[.slice A n cap, .int .i64 E2]) ∧ (stRowT 4 encR A n cap L2).I w' ∧ (∀ q, (stRowT 4 encR A n cap L2).F q → w.heap.size ≤ q) ∧ Below w.heap.size w w') ∧
          (∀ w, DK w r G c sts → Calls Tryz.prog 18 #[.pointer (some r), .int .i64 a, .int .i64 BD] w fun e w' => ∃ (A : Option Addr) (n cap : Nat), e = .returned (.tuple #[.slice A n cap, .int .i64 E]) ∧ (stRowT 3 encF A n cap L1).I w' ∧ (∀ q, (stRowT 3 encF A n cap L1).F q → w.heap.size ≤ q) ∧ Below w.heap.size w w') ∧
          (∀ w, DK w r G c sts → Calls Tryz.prog 20 #[.pointer (some r), .int .i64 a, .int .i64 BD] w fun e w' => ∃ (A : Option Addr) (n cap : Nat), e = .returned (.tuple #[.slice A n cap, .int .i64 E2]) ∧ (stRowT 4 encR A n cap L2).I w' ∧ (∀ q, (stRowT 4 encR A n cap L2).F q → w.heap.size ≤ q) ∧ Below w.heap.size w w')) := Lib.hid (fun BD h1 h2 => ⟨hvC c (fun L i => spV c sts (L : Int) i) a BD, hrC c (fun L i => spV c sts (L : Int) i) a BD, hvL c (fun L i => spV c sts (L : Int) i) a BD, hrL c (fun L i => spV c sts (L : Int) i) a BD, fun w hs => hv_heavy p F c sts a BD w hs ka kb9 h1 h2, fun w hs => hv_hier p F c sts a BD w hs ka kb9 h1 h2, fun w hs => rheavy_any r G c sts a BD w hs HIN.out ka kb9 h1 h2, fun w hs => rhier_any r G c sts a BD w hs HIN.out ka kb9 h1 h2⟩)
      have hbud : ∃ BD : Int, (-9223372036854775808 ≤ BD ∧ BD ≤ 9223372036854775807) ∧ ((4096 < b ∧ BD = b) ∨ (b ≤ 4096 ∧ b < 100 ∧ BD = b) ∨ (b ≤ 4096 ∧ 100 ≤ b ∧ BD = 100)) := by
        have h5 := HU.out
        by_cases e1 : 4096 < b
        · exact ⟨b, h5, .inl ⟨e1, rfl⟩⟩
        · by_cases e2 : b < 100
          · exact ⟨b, h5, .inr (.inl ⟨by omega, e2, rfl⟩)⟩
          · exact ⟨100, by omega, .inr (.inr ⟨by omega, by omega, rfl⟩)⟩
      obtain ⟨BD, ⟨v0, v1⟩, hbd⟩ := hbud
      obtain ⟨E, E2, L1, L2, q1, q2, q3, q4⟩ := HFIN.out BD v0 v1
      have CH := Lib.hid q1
      have CI := Lib.hid q2
      have DH := Lib.hid q3
      have DI := Lib.hid q4
      clear q1 q2 q3 q4 v0 v1 ka kb9 HFIN
      rcases hbd with ⟨e1, rfl⟩ | ⟨e1, e2, rfl⟩ | ⟨e1, e2, rfl⟩
      · have HE1 := Lib.hid e1
        clear e1
        rcases hcases with ⟨hc1, hc2⟩ | hc1
        all_goals as_aux_lemma =>
          go_upto_region 12 with fail
          have f1 : decide (BD ≤ 4096) = false := decide_eq_false (by have := HE1.out; omega)
          have f2 : ¬ BD ≤ 4096 := by have := HE1.out; omega
          go_wp2_with (first
            | (go_at_call 22; (with_reducible refine (rests_any A3 A4 n3 cap3 cap4 L2 _ (strI HVe.out.i1) (strI HVe.out.i0)).mono ?_); rintro e wf ⟨rfl, hb⟩; have HVf := Lib.hid (HVe.out.up hb); clear hb)
            | (go_at_call 21; (with_reducible refine (same_any A1 A2 n1 cap1 cap2 L1 _ (strI HVd.out.i3) (strI HVd.out.i2)).mono ?_); rintro e we ⟨rfl, hb⟩; have HVe := Lib.hid (HVd.out.up hb); clear hb)
            | (go_at_call 20; (with_reducible refine (DI.out _ (dkI HVc.out.i3)).mono ?_); rintro e wd ⟨A4, n4, cap4, rfl, h1, h2, hb⟩; obtain rfl : n3 = n4 := HN3.out.symm.trans (strI h1).len; have HVd := Lib.hid (HVc.out.push (stRowT 4 encR A4 n3 cap4 L2) hb h1 h2); clear h1 h2 hb)
            | (go_at_call 19; (with_reducible refine (CI.out _ (stI HVb.out.i3)).mono ?_); rintro e wc ⟨A3, n3, cap3, rfl, h1, h2, hb⟩; have HN3 := Lib.hid (strI h1).len; have HVc := Lib.hid (HVb.out.push (stRowT 4 encR A3 n3 cap3 L2) hb h1 h2); clear h1 h2 hb)
            | (go_at_call 18; (with_reducible refine (DH.out _ (dkI HVa.out.i1)).mono ?_); rintro e wb ⟨A2, n2, cap2, rfl, h1, h2, hb⟩; obtain rfl : n1 = n2 := HN1.out.symm.trans (strI h1).len; have HVb := Lib.hid (HVa.out.push (stRowT 3 encF A2 n1 cap2 L1) hb h1 h2); clear h1 h2 hb)
            | (go_at_call 17; (with_reducible refine (CH.out _ (stI HVr.out.i1)).mono ?_); rintro e wa ⟨A1, n1, cap1, rfl, h1, h2, hb⟩; have HN1 := Lib.hid (strI h1).len; have HVa := Lib.hid (HVr.out.push (stRowT 3 encF A1 n1 cap1 L1) hb h1 h2); clear h1 h2 hb))
          all_goals go_ret
          all_goals exact ⟨ret_bs (by first | rfl | (simp [*]; done)), HVf.out.below⟩
      · have f1 : decide (BD ≤ 4096) = true := decide_eq_true e1
        have f3 : ¬ 100 < BD := by omega
        have f4 : min BD 100 = BD := by omega
        rcases hcases with ⟨hc1, hc2⟩ | hc1
        all_goals as_aux_lemma =>
          go_wp2_with (first
            | (go_at_call 22; (with_reducible refine (rests_any A3 A4 n3 cap3 cap4 L2 _ (strI HVe.out.i1) (strI HVe.out.i0)).mono ?_); rintro e wf ⟨rfl, hb⟩; have HVf := Lib.hid (HVe.out.up hb); clear hb)
            | (go_at_call 21; (with_reducible refine (same_any A1 A2 n1 cap1 cap2 L1 _ (strI HVd.out.i3) (strI HVd.out.i2)).mono ?_); rintro e we ⟨rfl, hb⟩; have HVe := Lib.hid (HVd.out.up hb); clear hb)
            | (go_at_call 20; (with_reducible refine (DI.out _ (dkI HVc.out.i3)).mono ?_); rintro e wd ⟨A4, n4, cap4, rfl, h1, h2, hb⟩; obtain rfl : n3 = n4 := HN3.out.symm.trans (strI h1).len; have HVd := Lib.hid (HVc.out.push (stRowT 4 encR A4 n3 cap4 L2) hb h1 h2); clear h1 h2 hb)
            | (go_at_call 19; (with_reducible refine (CI.out _ (stI HVb.out.i3)).mono ?_); rintro e wc ⟨A3, n3, cap3, rfl, h1, h2, hb⟩; have HN3 := Lib.hid (strI h1).len; have HVc := Lib.hid (HVb.out.push (stRowT 4 encR A3 n3 cap3 L2) hb h1 h2); clear h1 h2 hb)
            | (go_at_call 18; (with_reducible refine (DH.out _ (dkI HVa.out.i1)).mono ?_); rintro e wb ⟨A2, n2, cap2, rfl, h1, h2, hb⟩; obtain rfl : n1 = n2 := HN1.out.symm.trans (strI h1).len; have HVb := Lib.hid (HVa.out.push (stRowT 3 encF A2 n1 cap2 L1) hb h1 h2); clear h1 h2 hb)
            | (go_at_call 17; (with_reducible refine (CH.out _ (stI HVr.out.i1)).mono ?_); rintro e wa ⟨A1, n1, cap1, rfl, h1, h2, hb⟩; have HN1 := Lib.hid (strI h1).len; have HVa := Lib.hid (HVr.out.push (stRowT 3 encF A1 n1 cap1 L1) hb h1 h2); clear h1 h2 hb))
          all_goals go_ret
          all_goals exact ⟨ret_bs (by first | rfl | (simp [*]; done)), HVf.out.below⟩
      · have hb3 : b = 100 ∨ 100 < b := by omega
        have HE1 := Lib.hid e1
        clear e1 e2
        rcases hb3 with rfl | hb4
        · rcases hcases with ⟨hc1, hc2⟩ | hc1
          all_goals as_aux_lemma =>
            go_wp2_with (first
              | (go_at_call 22; (with_reducible refine (rests_any A3 A4 n3 cap3 cap4 L2 _ (strI HVe.out.i1) (strI HVe.out.i0)).mono ?_); rintro e wf ⟨rfl, hb⟩; have HVf := Lib.hid (HVe.out.up hb); clear hb)
              | (go_at_call 21; (with_reducible refine (same_any A1 A2 n1 cap1 cap2 L1 _ (strI HVd.out.i3) (strI HVd.out.i2)).mono ?_); rintro e we ⟨rfl, hb⟩; have HVe := Lib.hid (HVd.out.up hb); clear hb)
              | (go_at_call 20; (with_reducible refine (DI.out _ (dkI HVc.out.i3)).mono ?_); rintro e wd ⟨A4, n4, cap4, rfl, h1, h2, hb⟩; obtain rfl : n3 = n4 := HN3.out.symm.trans (strI h1).len; have HVd := Lib.hid (HVc.out.push (stRowT 4 encR A4 n3 cap4 L2) hb h1 h2); clear h1 h2 hb)
              | (go_at_call 19; (with_reducible refine (CI.out _ (stI HVb.out.i3)).mono ?_); rintro e wc ⟨A3, n3, cap3, rfl, h1, h2, hb⟩; have HN3 := Lib.hid (strI h1).len; have HVc := Lib.hid (HVb.out.push (stRowT 4 encR A3 n3 cap3 L2) hb h1 h2); clear h1 h2 hb)
              | (go_at_call 18; (with_reducible refine (DH.out _ (dkI HVa.out.i1)).mono ?_); rintro e wb ⟨A2, n2, cap2, rfl, h1, h2, hb⟩; obtain rfl : n1 = n2 := HN1.out.symm.trans (strI h1).len; have HVb := Lib.hid (HVa.out.push (stRowT 3 encF A2 n1 cap2 L1) hb h1 h2); clear h1 h2 hb)
              | (go_at_call 17; (with_reducible refine (CH.out _ (stI HVr.out.i1)).mono ?_); rintro e wa ⟨A1, n1, cap1, rfl, h1, h2, hb⟩; have HN1 := Lib.hid (strI h1).len; have HVa := Lib.hid (HVr.out.push (stRowT 3 encF A1 n1 cap1 L1) hb h1 h2); clear h1 h2 hb))
            all_goals go_ret
            all_goals exact ⟨ret_bs (by first | rfl | (simp [*]; done)), HVf.out.below⟩
        · have HB4 := Lib.hid hb4
          clear hb4
          rcases hcases with ⟨hc1, hc2⟩ | hc1
          all_goals as_aux_lemma =>
            go_upto_region 12 with fail
            have f1 : decide (b ≤ 4096) = true := decide_eq_true HE1.out
            have f2 : b ≤ 4096 := HE1.out
            go_upto_region 13 with fail
            have f3 : ¬ b < 100 := by have := HB4.out; omega
            have f5 : ¬ b ≤ 100 := by have := HB4.out; omega
            have f6 : decide (b < 100) = false := decide_eq_false f3
            have f7 : (100 : Int) < b := HB4.out
            have f4 : min b 100 = 100 := by omega
            go_wp2_with (first
              | (go_at_call 22; (with_reducible refine (rests_any A3 A4 n3 cap3 cap4 L2 _ (strI HVe.out.i1) (strI HVe.out.i0)).mono ?_); rintro e wf ⟨rfl, hb⟩; have HVf := Lib.hid (HVe.out.up hb); clear hb)
              | (go_at_call 21; (with_reducible refine (same_any A1 A2 n1 cap1 cap2 L1 _ (strI HVd.out.i3) (strI HVd.out.i2)).mono ?_); rintro e we ⟨rfl, hb⟩; have HVe := Lib.hid (HVd.out.up hb); clear hb)
              | (go_at_call 20; (with_reducible refine (DI.out _ (dkI HVc.out.i3)).mono ?_); rintro e wd ⟨A4, n4, cap4, rfl, h1, h2, hb⟩; obtain rfl : n3 = n4 := HN3.out.symm.trans (strI h1).len; have HVd := Lib.hid (HVc.out.push (stRowT 4 encR A4 n3 cap4 L2) hb h1 h2); clear h1 h2 hb)
              | (go_at_call 19; (with_reducible refine (CI.out _ (stI HVb.out.i3)).mono ?_); rintro e wc ⟨A3, n3, cap3, rfl, h1, h2, hb⟩; have HN3 := Lib.hid (strI h1).len; have HVc := Lib.hid (HVb.out.push (stRowT 4 encR A3 n3 cap3 L2) hb h1 h2); clear h1 h2 hb)
              | (go_at_call 18; (with_reducible refine (DH.out _ (dkI HVa.out.i1)).mono ?_); rintro e wb ⟨A2, n2, cap2, rfl, h1, h2, hb⟩; obtain rfl : n1 = n2 := HN1.out.symm.trans (strI h1).len; have HVb := Lib.hid (HVa.out.push (stRowT 3 encF A2 n1 cap2 L1) hb h1 h2); clear h1 h2 hb)
              | (go_at_call 17; (with_reducible refine (CH.out _ (stI HVr.out.i1)).mono ?_); rintro e wa ⟨A1, n1, cap1, rfl, h1, h2, hb⟩; have HN1 := Lib.hid (strI h1).len; have HVa := Lib.hid (HVr.out.push (stRowT 3 encF A1 n1 cap1 L1) hb h1 h2); clear h1 h2 hb))
            all_goals go_ret
            all_goals exact ⟨ret_bs (by first | rfl | (simp [*]; done)), HVf.out.below⟩
namespace heavyTells
open Go.ChangeShapes Go.WideShapes Go.ChangeAt Go.Joins
set_option maxRecDepth 100000 in
theorem lifted (os : Os) (started : os.Started) (H : Type) (enc : TypeId × Value → H) :
    ReturnsInHanded {} Tryz.checked os 3 .any (Rows.heavyTellsSpec.pre6 enc Tryz.prog Tryz.f3 Rows.heavyTellsRow.domain false) (Rows.heavyTellsSpec.post enc Tryz.prog Tryz.f3 false true false false) := by
  refine Lw.lifted (C := Tryz.checked) (B := 4) (by kernel_rfl) os started (by kernel_rfl) Tryz.func3
    (ChangeSpec.witness6 (enc := enc) (C := Tryz.checked) false ⟨#[], #[.agg #[.int .i64 0, .int .i64 0, .int .i64 0, .int .i64 0, .int .u64 0, .slice none 0 0], .int .i64 0, .int .i64 0], []⟩ 8 (by kernel_rfl) (by kernel_rfl) (by kernel_rfl) (by kernel_rfl)) rfl Tryz.underlying4 (by kernel_rfl) (by kernel_rfl) (by kernel_rfl) ?_ ?_
  · intro ds h
    rw [Tryz.params3] at h
    match ds, h with
    | [_, _, _], _ => rfl
  · intro W base args ds p hval hA
    rw [Tryz.params3] at hA hval
    obtain ⟨v0, vs0, d0, ds0, p0, q0, hargs, rfl, rfl, h0, r0⟩ := trodAll_cons hA
    obtain ⟨v1, vs1, d1, ds1, p1, q1, rfl, rfl, rfl, h1, r1⟩ := trodAll_cons r0
    obtain ⟨v2, vs2, d2, ds2, p2, q2, rfl, rfl, rfl, h2, r2⟩ := trodAll_cons r1
    obtain ⟨rfl, rfl, rfl⟩ := trodAll_nil r2
    obtain rfl : args = #[v0, v1, v2] := by cases args; simp_all
    obtain ⟨x0, A0, n0, k0, qs0, rfl, hx0, hq0⟩ := open_playX (hval 0 27 v0 rfl rfl) h0
    obtain ⟨a1, rfl, rfl, rfl, w1⟩ := open_int Tryz.underlying2 (hval 1 2 v1 rfl rfl) h1
    have b1 := Lw.wf_i64 w1
    obtain ⟨a2, rfl, rfl, rfl, w2⟩ := open_int Tryz.underlying3 (hval 2 3 v2 rfl rfl) h2
    have b2 := Lw.wf_i64 w2
    exact tells_law x0 A0 n0 k0 qs0 a1 a2 W hx0 hq0 b1.1 b1.2 b2.1 b2.2
theorem over : Rows.heavyTellsRow.holds Tryz.pinned (OpenSpec.ofChange Rows.heavyTellsSpec) :=
  OpenClaim.holds_of_wide 3 Tryz.f3 rfl rfl rfl rfl rfl rfl rfl ⟨rfl, rfl, rfl, rfl, rfl⟩ rfl rfl rfl rfl rfl (by kernel_rfl) Tryz.func3 (by kernel_rfl)
    (of_decide_eq_true (by kernel_rfl)) (by unfold Func.isWrapper; first | (rw [if_pos (by decide +kernel)]; kernel_rfl) | (rw [if_neg (by decide +kernel)]; exact ⟨rfl, rfl⟩))
    (fun os started H enc _ => lifted os started H enc)
theorem proved : Rows.HeavyTellsSaid :=
  over
#print axioms proved
end heavyTells
end Go.Proofs.YtkflggojiiebeaaGreat.Hvy
