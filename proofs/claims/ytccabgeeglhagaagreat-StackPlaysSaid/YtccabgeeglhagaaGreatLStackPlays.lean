/- The statement StackPlays of layer 15 holds: a stack is changed, and asked, as the document says; any config (cut to six bits and nine columns), and ops (forty), raw: behind each the answers, the total, and all cells. Printed by wip/gen/stk20.py. -/
import Derived.Test.YtccabgeeglhagaaGreatMm
import Derived.Deep.LoopGhost
import Derived.Deep.RegionHeld3
import Derived.Deep.DeepCutAuto
import Derived.Deep.QuietTactic
import Derived.BigQuiet
namespace Go.Proofs.YtccabgeeglhagaaGreat.Stk
open Go Go.RowKit Lw Grd Lin Con Shp Sk Exa Lev Go.Shelf
set_option linter.unusedVariables false
set_option linter.unusedSimpArgs false
set_option maxRecDepth 100000 in
set_option maxHeartbeats 16000000 in
theorem splays_law (x : Cfg) (A : Option Addr) (n0 k0 : Nat) (qs : List Opz) (w : World) (hx0 : x.Ok) (hq : OpzV w A n0 k0 qs) :
    Calls Tryz.prog 3 #[.agg #[.int .i64 x.bt, .int .i64 x.rw, .int .i64 x.wd, .int .i64 x.md, .int .u64 x.sd], .slice A n0 k0] w fun e w' => e = .returned (.bool true) ∧ Below w.heap.size w w' := by
  obtain ⟨c, hC⟩ : ∃ c, anyC x 6 9 = c := ⟨_, rfl⟩
  have hr := any_right x 6 9 (by omega) (by omega) (by omega) (by omega)
  have hco := any_ok x hx0 6 9 (by omega) (by omega) (by omega) (by omega)
  rw [hC] at hr hco
  have CA := Lib.hid (fun w => rany_at x 6 9 c w hx0 (by omega) (by omega) (by omega) (by omega) hC)
  have hbt := hr.1
  have hbt6 := hr.2.1
  have HCO := Lib.hid hco
  have HRI := Lib.hid hr
  have hnc := hq.nc
  have hcm := hq.cm
  unfold maxLen at hcm
  have HQ := Lib.hid hq
  have HLQ := Lib.hid hq.len
  have HBX : Hid (Have w (w.alloc (.cells #[.int .i64 x.bt, .int .i64 x.rw, .int .i64 x.wd, .int .i64 x.md, .int .u64 x.sd] 24)) [boxT w.heap.size 24 #[.int .i64 x.bt, .int .i64 x.rw, .int .i64 x.wd, .int .i64 x.md, .int .u64 x.sd]]) := Lib.hid (box_new w _ _)
  clear hC hq hr hco hx0
  go_enter Tryz.func3, Tryz.ntmps3
  go_upto_region 8 with (first
    | (go_at_call 7; (with_reducible refine (dk_new c _ HCO.out HRI.out).mono ?_); rintro e w4 ⟨r, R0, rfl, h1, h2, hb⟩; have HV4 := Lib.hid (HV3.out.push (dkT r R0 c (stsOf c [])) hb h1 h2); clear h1 h2 hb; clear c0 c1 c2 c3 c4 x0 x1 x2 x3 x4; obtain ⟨c0, c1, c2, c3, c4⟩ := box5 HV4.out.i2; obtain ⟨x0, x1, x2, x3, x4⟩ := box5 HV4.out.i3)
    | (go_at_call 6; (with_reducible refine (cs_new c _ HCO.out HRI.out).mono ?_); rintro e w3 ⟨p, F0, rfl, h1, h2, hb⟩; have HV3 := Lib.hid (HV2.out.push (stT p F0 c (stsOf c [])) hb h1 h2); clear h1 h2 hb; clear c0 c1 c2 c3 c4 x0 x1 x2 x3 x4; obtain ⟨c0, c1, c2, c3, c4⟩ := box5 HV3.out.i1; obtain ⟨x0, x1, x2, x3, x4⟩ := box5 HV3.out.i2)
    | (go_at_call 5; (with_reducible refine (CA.out _).mono ?_); rintro e w2 ⟨rfl, hb⟩; have HV2 := Lib.hid ((HV1.out.up hb).push (boxT w2.heap.size 24 #[.int .i64 c.bt, .int .i64 c.rw, .int .i64 c.wd, .int .i64 c.md, .int .u64 c.sd]) (Lw.below_alloc (Below.refl _ _) _) (heap_alloc_new w2 _) (fun k hk => Nat.le_of_eq hk.symm)); clear hb; clear x0 x1 x2 x3 x4; obtain ⟨c0, c1, c2, c3, c4⟩ := box5 HV2.out.i0; obtain ⟨x0, x1, x2, x3, x4⟩ := box5 HV2.out.i1)
    | (go_at_call 4; (with_reducible refine (shown_any _).mono ?_); rintro e w1 ⟨rfl, hb⟩; have HV1 := Lib.hid (HBX.out.up hb); clear hb; obtain ⟨x0, x1, x2, x3, x4⟩ := box5 HV1.out.i0))
  obtain ⟨gc, hgc⟩ : ∃ gc, w2.heap.size = gc := ⟨_, rfl⟩
  rw [hgc] at HV4 ⊢
  have HVS : Hid (Have w w4 [stT p F0 c (stsOf c []), dkT r R0 c (stsOf c []), boxT gc 24 #[.int .i64 c.bt, .int .i64 c.rw, .int .i64 c.wd, .int .i64 c.md, .int .u64 c.sd], boxT w.heap.size 24 #[.int .i64 x.bt, .int .i64 x.rw, .int .i64 x.wd, .int .i64 x.md, .int .u64 x.sd]]) := Lib.hid (Have.perm (List.Perm.swap _ _ _) HV4.out)
  clear hgc HV4 HV3 HV2 HV1 x0 x1 x2 x3 x4 c0 c1 c2 c3 c4
  go_loopw [7, 9, 10] (fun sv rv iv wr => ∃ (k : Nat) (p : Addr) (F : Nat → Prop) (r : Addr) (R : Nat → Prop) (sts : List LS), k ≤ n0 ∧ k ≤ 40 ∧ sv = .pointer (some p) ∧ rv = .pointer (some r) ∧ iv = .int .i64 k ∧ Have w wr [stT p F c sts, dkT r R c sts, boxT gc 24 #[.int .i64 c.bt, .int .i64 c.rw, .int .i64 c.wd, .int .i64 c.md, .int .u64 c.sd], boxT w.heap.size 24 #[.int .i64 x.bt, .int .i64 x.rw, .int .i64 x.wd, .int .i64 x.md, .int .u64 x.sd]]) (fun _ _ iv _ => n0 - (intOf iv).toNat)
  case atStart => exact ⟨0, p, F0, r, R0, _, Nat.zero_le _, Nat.zero_le _, rfl, rfl, rfl, HVS.out⟩
  case round =>
    clear HVS
    obtain ⟨k, p, F, r, R, sts, hk1, hk2, rfl, rfl, rfl, hv⟩ := hrel
    have HVr := Lib.hid hv
    have hwb := hv.below
    clear hv
    by_cases hlt : k < n0 ∧ k < 40
    · obtain ⟨hj1, hj2⟩ := hlt
      obtain ⟨u, hu1⟩ : ∃ u, qs[k]? = some u := ⟨_, List.getElem?_eq_getElem (by rw [HLQ.out]; omega)⟩
      obtain ⟨a, g, o, rfl, hadd, d1w, d2w, d3w, d4w, lb, kb, db⟩ := HQ.out.at hu1
      obtain ⟨kd, lv, key, d⟩ := u
      simp only at d1w d2w d3w d4w lb kb db
      have d1 := cell_up d1w hwb
      have d2 := cell_up d2w hwb
      have d3 := cell_up d3w hwb
      have d4 := cell_up d4w hwb
      have HD1 := Lib.hid d1w
      have HD2 := Lib.hid d2w
      have HD3 := Lib.hid d3w
      have HD4 := Lib.hid d4w
      have hk1' : k + 1 ≤ n0 := hj1
      have hk2' : k + 1 ≤ 40 := hj2
      have hkn : (k : Int) < n0 := by omega
      have hk40 : (k : Int) < 40 := by omega
      clear hu1 d1w d2w d3w d4w hwb
      by_cases hkd1 : kd = 1
      · have hkd := hkd1
        clear hkd1
        as_aux_lemma =>
          have hq1 : (kd == 1) = true := by simp [hkd]
          have hq2 : (kd == 2) = false := by simp [hkd]
          have hq3 : (kd == 3) = false := by simp [hkd]
          clear hkd
          go_upto_region 16 with fail
          go_region_held3 (fun w' => w'.cell? ⟨g, o, none⟩ = some (.int .i64 kd) ∧ w'.cell? ⟨g, o + 1, none⟩ = some (.int .i64 lv) ∧ w'.cell? ⟨g, o + 2, none⟩ = some (.int .u64 key) ∧ w'.cell? ⟨g, o + 3, none⟩ = some (.int .i64 d)) (first | (refine ⟨?_, ?_, ?_, ?_⟩ <;> (first | (with_reducible assumption) | (with_reducible refine cell_up d1 ?_) | (with_reducible refine cell_up d2 ?_) | (with_reducible refine cell_up d3 ?_) | (with_reducible refine cell_up d4 ?_)) <;> ((repeat' (first | (with_reducible exact Below.refl _ _) | (with_reducible assumption) | (with_reducible refine below_over ?_ _ _) | (with_reducible refine Lw.below_alloc ?_ _) | (with_reducible refine Below.drew ?_) | (with_reducible refine below_drewN ?_ _) | (with_reducible refine Below.setCell ?_ ?_ _) | go_size))))) (first
            | (go_at_call 8; (with_reducible refine (cs_point p F c sts lv key _ (stI (HVr.out.up (by (repeat' (first | (with_reducible exact Below.refl _ _) | (with_reducible assumption) | (with_reducible refine below_over ?_ _ _) | (with_reducible refine Lw.below_alloc ?_ _) | (with_reducible refine Below.drew ?_) | (with_reducible refine below_drewN ?_ _) | (with_reducible refine Below.setCell ?_ ?_ _) | go_size)))).i0) lb.1 lb.2 kb.1 kb.2).mono ?_); rintro e w1 ⟨rfl, hb⟩; have HV1 := Lib.hid ((HVr.out.up (by (repeat' (first | (with_reducible exact Below.refl _ _) | (with_reducible assumption) | (with_reducible refine below_over ?_ _ _) | (with_reducible refine Lw.below_alloc ?_ _) | (with_reducible refine Below.drew ?_) | (with_reducible refine below_drewN ?_ _) | (with_reducible refine Below.setCell ?_ ?_ _) | go_size)))).up hb); clear hb; clear d1 d2 d3 d4; have d1 := cell_up HD1.out HV1.out.below; have d2 := cell_up HD2.out HV1.out.below; have d3 := cell_up HD3.out HV1.out.below; have d4 := cell_up HD4.out HV1.out.below))
          go_upto_region 17 with fail
          go_region_held3 (fun w' => w'.cell? ⟨g, o, none⟩ = some (.int .i64 kd) ∧ w'.cell? ⟨g, o + 1, none⟩ = some (.int .i64 lv) ∧ w'.cell? ⟨g, o + 2, none⟩ = some (.int .u64 key) ∧ w'.cell? ⟨g, o + 3, none⟩ = some (.int .i64 d)) (first | (refine ⟨?_, ?_, ?_, ?_⟩ <;> (first | (with_reducible assumption) | (with_reducible refine cell_up d1 ?_) | (with_reducible refine cell_up d2 ?_) | (with_reducible refine cell_up d3 ?_) | (with_reducible refine cell_up d4 ?_)) <;> ((repeat' (first | (with_reducible exact Below.refl _ _) | (with_reducible assumption) | (with_reducible refine below_over ?_ _ _) | (with_reducible refine Lw.below_alloc ?_ _) | (with_reducible refine Below.drew ?_) | (with_reducible refine below_drewN ?_ _) | (with_reducible refine Below.setCell ?_ ?_ _) | go_size))))) (first
            | (go_at_call 9; (with_reducible refine (dk_point r R c sts lv key _ (dkI (HV1.out.up (by (repeat' (first | (with_reducible exact Below.refl _ _) | (with_reducible assumption) | (with_reducible refine below_over ?_ _ _) | (with_reducible refine Lw.below_alloc ?_ _) | (with_reducible refine Below.drew ?_) | (with_reducible refine below_drewN ?_ _) | (with_reducible refine Below.setCell ?_ ?_ _) | go_size)))).i1) lb.1 lb.2 kb.1 kb.2).mono ?_); rintro e w2 ⟨rfl, hb⟩; have HV2 := Lib.hid ((HV1.out.up (by (repeat' (first | (with_reducible exact Below.refl _ _) | (with_reducible assumption) | (with_reducible refine below_over ?_ _ _) | (with_reducible refine Lw.below_alloc ?_ _) | (with_reducible refine Below.drew ?_) | (with_reducible refine below_drewN ?_ _) | (with_reducible refine Below.setCell ?_ ?_ _) | go_size)))).up hb); clear hb; clear d1 d2 d3 d4; have d1 := cell_up HD1.out HV2.out.below; have d2 := cell_up HD2.out HV2.out.below; have d3 := cell_up HD3.out HV2.out.below; have d4 := cell_up HD4.out HV2.out.below))
          go_upto_region 35 with fail
          clear d1 d2 d3 d4
          have HVE : Hid (Have w _ [stT p F c sts, dkT r R c sts, boxT gc 24 #[.int .i64 c.bt, .int .i64 c.rw, .int .i64 c.wd, .int .i64 c.md, .int .u64 c.sd], boxT w.heap.size 24 #[.int .i64 x.bt, .int .i64 x.rw, .int .i64 x.wd, .int .i64 x.md, .int .u64 x.sd]]) := Lib.hid (HV2.out.up (by (repeat' (first | (with_reducible exact Below.refl _ _) | (with_reducible assumption) | (with_reducible refine below_over ?_ _ _) | (with_reducible refine Lw.below_alloc ?_ _) | (with_reducible refine Below.drew ?_) | (with_reducible refine below_drewN ?_ _) | (with_reducible refine Below.setCell ?_ ?_ _) | go_size))))
          go_wp2_with (first
            | (go_at_call 18; (with_reducible refine (cs_total p F c sts _ (stI HVE.out.i0)).mono ?_); rintro e v1 ⟨rfl, hb⟩; have HW1 := Lib.hid (HVE.out.up hb); clear hb)
            | (go_at_call 19; (with_reducible refine (dk_total r R c sts _ (dkI HW1.out.i1)).mono ?_); rintro e v2 ⟨rfl, hb⟩; have HW2 := Lib.hid (HW1.out.up hb); clear hb)
            | (go_at_call 20; (with_reducible refine (same_any p r F R c sts _ (stI HW2.out.i0) (dkI HW2.out.i1)).mono ?_); rintro e v3 ⟨rfl, hb⟩; have HW3 := Lib.hid (HW2.out.up hb); clear hb))
          all_goals go_roundw
          case rel => exact ⟨k + 1, _, _, _, _, _, hk1', hk2', rfl, rfl, by go_num, HW3.out⟩
          case measure => simp [intOf]; omega
      by_cases hkd2 : kd = 2
      · have hkd := hkd2
        clear hkd2
        as_aux_lemma =>
          have hq1 : (kd == 1) = false := by simp [hkd]
          have hq2 : (kd == 2) = true := by simp [hkd]
          have hq3 : (kd == 3) = false := by simp [hkd]
          clear hkd
          go_upto_region 35 with (first
            | (go_at_call 10; (with_reducible refine (cs_copy p F c sts _ (stI HVr.out.i0)).mono ?_); rintro e w1 ⟨p1, F1, rfl, h1, h2, hb⟩; have HV1 := Lib.hid (HVr.out.push (stT p1 F1 c sts) hb h1 h2); clear h1 h2 hb; clear d1 d2 d3 d4; have d1 := cell_up HD1.out HV1.out.below; have d2 := cell_up HD2.out HV1.out.below; have d3 := cell_up HD3.out HV1.out.below; have d4 := cell_up HD4.out HV1.out.below)
            | (go_at_call 11; (with_reducible refine (dk_copy r R c sts _ (dkI HV1.out.i2)).mono ?_); rintro e w2 ⟨r1, R1, rfl, h1, h2, hb⟩; have HV2 := Lib.hid (HV1.out.push (dkT r1 R1 c sts) hb h1 h2); clear h1 h2 hb; clear d1 d2 d3 d4; have d1 := cell_up HD1.out HV2.out.below; have d2 := cell_up HD2.out HV2.out.below; have d3 := cell_up HD3.out HV2.out.below; have d4 := cell_up HD4.out HV2.out.below))
          clear d1 d2 d3 d4
          have HVE : Hid (Have w _ [stT p1 F1 c sts, dkT r1 R1 c sts, boxT gc 24 #[.int .i64 c.bt, .int .i64 c.rw, .int .i64 c.wd, .int .i64 c.md, .int .u64 c.sd], boxT w.heap.size 24 #[.int .i64 x.bt, .int .i64 x.rw, .int .i64 x.wd, .int .i64 x.md, .int .u64 x.sd]]) := Lib.hid (Have.perm (List.Perm.swap _ _ _) HV2.out.drop_2.drop_2)
          go_wp2_with (first
            | (go_at_call 18; (with_reducible refine (cs_total p1 F1 c sts _ (stI HVE.out.i0)).mono ?_); rintro e v1 ⟨rfl, hb⟩; have HW1 := Lib.hid (HVE.out.up hb); clear hb)
            | (go_at_call 19; (with_reducible refine (dk_total r1 R1 c sts _ (dkI HW1.out.i1)).mono ?_); rintro e v2 ⟨rfl, hb⟩; have HW2 := Lib.hid (HW1.out.up hb); clear hb)
            | (go_at_call 20; (with_reducible refine (same_any p1 r1 F1 R1 c sts _ (stI HW2.out.i0) (dkI HW2.out.i1)).mono ?_); rintro e v3 ⟨rfl, hb⟩; have HW3 := Lib.hid (HW2.out.up hb); clear hb))
          all_goals go_roundw
          case rel => exact ⟨k + 1, _, _, _, _, _, hk1', hk2', rfl, rfl, by go_num, HW3.out⟩
          case measure => simp [intOf]; omega
      by_cases hkd3 : kd = 3
      · have hkd := hkd3
        clear hkd3
        as_aux_lemma =>
          have hq1 : (kd == 1) = false := by simp [hkd]
          have hq2 : (kd == 2) = false := by simp [hkd]
          have hq3 : (kd == 3) = true := by simp [hkd]
          clear hkd
          have hbx := box_cell (i := 0) (v := .int .i64 c.bt) HVr.out.i2 rfl
          have hrt := (stI HVr.out.i0).right
          by_cases hlo : lv < 0
          · have hno : lv < 0 ∨ c.bt < lv := .inl hlo
            have HFL : Hid (lvFl sts lv = []) := Lib.hid (spv_no (c := c) hrt.2.2 hbt (fun h => by omega : ¬ (0 ≤ lv ∧ lv ≤ c.bt)) 0).2.2
            clear hrt
            go_upto_region 27 with fail
            go_wp2_with (first
              | (go_at_call 12; (with_reducible refine (cs_loadno p F c sts lv none 0 0 _ (stI HVr.out.i0) hno lb.1 lb.2).mono ?_); rintro e w1 ⟨rfl, hb⟩; have HV1 := Lib.hid (HVr.out.up hb); clear hb)
              | (go_at_call 13; (with_reducible refine (cs_cells p F c sts lv _ (stI HV1.out.i0) lb.1 lb.2).mono ?_); rintro e w2 ⟨A2, m2, cap2, rfl, -, hl2, -, hb⟩; rw [HFL.out] at hl2; subst hl2; have HV2 := Lib.hid (HV1.out.up hb); clear hb))
            all_goals go_roundw
            case rel => exact ⟨k + 1, _, _, _, _, _, hk1', hk2', rfl, rfl, by go_num, HV2.out⟩
            case measure => simp [intOf]; omega
          by_cases hhi : c.bt < lv
          · have hno : lv < 0 ∨ c.bt < lv := .inr hhi
            have HFL : Hid (lvFl sts lv = []) := Lib.hid (spv_no (c := c) hrt.2.2 hbt (fun h => by omega : ¬ (0 ≤ lv ∧ lv ≤ c.bt)) 0).2.2
            clear hrt
            go_upto_region 27 with fail
            go_wp2_with (first
              | (go_at_call 12; (with_reducible refine (cs_loadno p F c sts lv none 0 0 _ (stI HVr.out.i0) hno lb.1 lb.2).mono ?_); rintro e w1 ⟨rfl, hb⟩; have HV1 := Lib.hid (HVr.out.up hb); clear hb)
              | (go_at_call 13; (with_reducible refine (cs_cells p F c sts lv _ (stI HV1.out.i0) lb.1 lb.2).mono ?_); rintro e w2 ⟨A2, m2, cap2, rfl, -, hl2, -, hb⟩; rw [HFL.out] at hl2; subst hl2; have HV2 := Lib.hid (HV1.out.up hb); clear hb))
            all_goals go_roundw
            case rel => exact ⟨k + 1, _, _, _, _, _, hk1', hk2', rfl, rfl, by go_num, HV2.out⟩
            case measure => simp [intOf]; omega
          obtain ⟨n, hnn⟩ : ∃ n : Nat, lv = n := ⟨lv.toNat, by omega⟩
          subst hnn
          obtain ⟨st, hst⟩ : ∃ st, sts[n]? = some st := ⟨_, List.getElem?_eq_getElem (by have := hrt.2.2; omega)⟩
          obtain ⟨b0, rfl⟩ := dk_ptr (dkI HVr.out.i1)
          obtain ⟨v9, Q9, hE9⟩ := st_lvl (stI HVr.out.i0) hst
          have HIN := Lib.hid (elv_in hE9)
          have hpos := fl_pos hrt.1 hE9
          have hlen9 := ls_len (stI HVr.out.i0) hst
          obtain ⟨N1, hN1⟩ : ∃ N1, st.fl.length = N1 := ⟨_, rfl⟩
          rw [hN1] at hpos hlen9
          have HN1 := Lib.hid hN1
          obtain ⟨j, hj⟩ : ∃ j : Nat, Int.tmod key (N1 : Int) = (j : Int) := ⟨(Int.tmod key (N1 : Int)).toNat, by have := Int.tmod_nonneg (N1 : Int) kb.1; omega⟩
          have hjl : j < N1 := by have := Int.tmod_lt_of_pos key (show (0 : Int) < (N1 : Int) by omega); omega
          have hnz : ¬ (N1 : Int) = 0 := by omega
          have hnz2 : ¬ N1 = 0 := by omega
          have hw1 : IntKind.u64.wrap (N1 : Int) = (N1 : Int) := IntWalk.u64_in _ ⟨by omega, by omega⟩
          have hw2 : IntKind.u64.wrap (j : Int) = (j : Int) := IntWalk.u64_in _ ⟨by omega, by omega⟩
          have hjl2 : (j : Int) < (N1 : Int) := by omega
          have hj0 : (0 : Int) ≤ (j : Int) := by omega
          have hn0 : (0 : Int) ≤ (n : Int) := by omega
          have HST := Lib.hid hst
          have hog := cell_lt HD1.out
          obtain ⟨g0, N0, cap0, p0, Q0, e5, hnN, e6, hEL, hQ0, -⟩ := dk_lvl (dkI HVr.out.i1) hst
          have hnN2 : (n : Int) < (N0 : Int) := by omega
          have HEL := Lib.hid hEL
          clear hrt hE9 hN1 hst hEL hQ0
          go_upto_region 31 with (first
            | (go_at_call 14; (with_reducible refine (dvm_cells p0 Q0 c (n : Int) st _ HEL.out).mono ?_); rintro e w1 ⟨gm, nm, capm, rfl, hm, hlm, hcm1, hcm2, hgm, hb⟩; rw [HN1.out] at hlm; subst hlm; have HV1 := Lib.hid (HVr.out.push (midT gm st.fl) hb hm (fun k hk => by rw [show k = gm from hk]; exact hgm)); have HGM := Lib.hid hgm; clear hm hb; clear d1 d2 d3 d4; have d1 := cell_up HD1.out HV1.out.below; have d2 := cell_up HD2.out HV1.out.below; have d3 := cell_up HD3.out HV1.out.below; have d4 := cell_up HD4.out HV1.out.below))
          have hne : g ≠ gm := by have := HVr.out.below.size; have := HGM.out; show g ≠ gm; have h9 : g < w.heap.size := hog; omega
          obtain ⟨vj, hvj⟩ : ∃ vj, st.fl[j]? = some vj := ⟨_, List.getElem?_eq_getElem (by rw [HN1.out]; exact hjl)⟩
          have xm : w1.cell? ⟨gm, j, none⟩ = some (.int .i64 vj) := by have h9 := (midI HV1.out.i0).cell hvj; rw [Nat.zero_add] at h9; exact h9
          have zm : w1.frozen? ⟨gm, j, none⟩ = false := (midI HV1.out.i0).frozen j
          go_region
          have HV2 : Hid (Have w ((w1.setCell ⟨gm, j, none⟩ (.int .i64 d)).drew) [midT gm (st.fl.set j d), stT p F c sts, dkT ⟨b0, 0, none⟩ R c sts, boxT gc 24 #[.int .i64 c.bt, .int .i64 c.rw, .int .i64 c.wd, .int .i64 c.md, .int .u64 c.sd], boxT w.heap.size 24 #[.int .i64 x.bt, .int .i64 x.rw, .int .i64 x.wd, .int .i64 x.md, .int .u64 x.sd]]) := Lib.hid ((HV1.out.turn_0 (midT gm (st.fl.set j d)) (by have h9 := (midI HV1.out.i0).set j d; rw [Nat.zero_add] at h9; exact h9) (Kept.set (F := (midT gm st.fl).F) (Kept.refl _ _) (.inl rfl) j _) (fun k hk => .inl hk)).up (Below.drew (Below.refl _ _)))
          obtain ⟨W2, hW2⟩ : ∃ W2, (w1.setCell ⟨gm, j, none⟩ (.int .i64 d)).drew = W2 := ⟨_, rfl⟩
          rw [hW2] at HV2 ⊢
          clear hW2 e5 e6 xm zm d1 d2 d3 d4 hne hvj hog hbx hj hw1 hw2 hjl hjl2 hj0 hnz hnz2 hnN hnN2
          have HZI := Lib.hid (in64_set HIN.out j db.1 db.2)
          have HZL : Hid ((st.fl.set j d).length = N1) := Lib.hid (by rw [List.length_set]; exact HN1.out)
          obtain ⟨g2, N2, cap2, p2, Q2, e5, hnN, e6, hEL, hQ2, hput⟩ := dk_lvl (dkI HV2.out.i2) HST.out
          have hnN2 : (n : Int) < (N2 : Int) := by omega
          have HPUT := Lib.hid hput
          have CLD := Lib.hid (dv_load p2 Q2 c (n : Int) st ⟨gm, 0, none⟩ N1 capm (st.fl.set j d) W2 hEL (midI HV2.out.i0).rd HZL.out HZI.out HN1.out.symm (fun h => HV2.out.apart (u := dkT ⟨b0, 0, none⟩ R c sts) (by simp) gm rfl (hQ2 gm h)))
          clear hEL hQ2 hput
          go_upto_region 33 with (first
            | (go_at_call 15; (with_reducible refine CLD.out.mono ?_); rintro e w3 ⟨rfl, Q3, st3, h1, h2, -, h4, h5⟩; obtain ⟨R3, f1, f2, f3⟩ := HPUT.out w3 Q3 st3 h1 h4 h5; have HV3 := Lib.hid (HV2.out.turn_2 (dkT ⟨b0, 0, none⟩ R3 c (sts.set n st3)) f1 f2 f3); have HF3 := Lib.hid h2; clear h1 h2 h4 h5 f1 f2 f3))
          have CLS := Lib.hid (cs_load p F c sts n st ⟨gm, 0, none⟩ N1 capm (st.fl.set j d) w3 (stI HV3.out.i1) HST.out (midI HV3.out.i0).rd HZL.out HZI.out HN1.out.symm (fun h => HV3.out.apart (u := stT p F c sts) (by simp) gm rfl h))
          clear e5 e6 hnN hnN2
          go_upto_region 35 with (first
            | (go_at_call 12; (with_reducible refine CLS.out.mono ?_); rintro e w4 ⟨rfl, F4, st4, h1, h2, h3, h4⟩; have HV4 := Lib.hid (HV3.out.turn_1 (stT p F4 c (sts.set n st4)) h1 h3 h4); have HF4 := Lib.hid h2; clear h1 h2 h3 h4))
          have hsn : n < sts.length := (List.getElem?_eq_some_iff.1 HST.out).1
          obtain ⟨-, -, -, p5, Q5, -, -, -, hD5, -, -⟩ := dk_lvl (dkI HV4.out.i2) (n := n) (st := st3) (by rw [List.getElem?_set_self hsn])
          obtain ⟨v6, Q6, hE6⟩ := st_lvl (stI HV4.out.i1) (n := n) (st := st4) (by rw [List.getElem?_set_self hsn])
          have hss : st3 = st4 := ls_eq hD5 hE6 (HF3.out.trans HF4.out.symm)
          subst hss
          have HVE : Hid (Have w w4 [stT p F4 c (sts.set n st3), dkT ⟨b0, 0, none⟩ R3 c (sts.set n st3), boxT gc 24 #[.int .i64 c.bt, .int .i64 c.rw, .int .i64 c.wd, .int .i64 c.md, .int .u64 c.sd], boxT w.heap.size 24 #[.int .i64 x.bt, .int .i64 x.rw, .int .i64 x.wd, .int .i64 x.md, .int .u64 x.sd]]) := Lib.hid HV4.out.drop_0
          clear hD5 hE6 hsn
          go_wp2_with (first
            | (go_at_call 18; (with_reducible refine (cs_total p F4 c (sts.set n st3) _ (stI HVE.out.i0)).mono ?_); rintro e v1 ⟨rfl, hb⟩; have HW1 := Lib.hid (HVE.out.up hb); clear hb)
            | (go_at_call 19; (with_reducible refine (dk_total ⟨b0, 0, none⟩ R3 c (sts.set n st3) _ (dkI HW1.out.i1)).mono ?_); rintro e v2 ⟨rfl, hb⟩; have HW2 := Lib.hid (HW1.out.up hb); clear hb)
            | (go_at_call 20; (with_reducible refine (same_any p ⟨b0, 0, none⟩ F4 R3 c (sts.set n st3) _ (stI HW2.out.i0) (dkI HW2.out.i1)).mono ?_); rintro e v3 ⟨rfl, hb⟩; have HW3 := Lib.hid (HW2.out.up hb); clear hb))
          all_goals go_roundw
          case rel => exact ⟨k + 1, _, _, _, _, _, hk1', hk2', rfl, rfl, by go_num, HW3.out⟩
          case measure => simp [intOf]; omega
      · as_aux_lemma =>
          have hq1 : (kd == 1) = false := by simp [hkd1]
          have hq2 : (kd == 2) = false := by simp [hkd2]
          have hq3 : (kd == 3) = false := by simp [hkd3]
          clear hkd1 hkd2 hkd3
          go_upto_region 11 with fail
          go_region_held3 (fun w' => w'.cell? ⟨g, o, none⟩ = some (.int .i64 kd) ∧ w'.cell? ⟨g, o + 1, none⟩ = some (.int .i64 lv) ∧ w'.cell? ⟨g, o + 2, none⟩ = some (.int .u64 key) ∧ w'.cell? ⟨g, o + 3, none⟩ = some (.int .i64 d)) (first | (refine ⟨?_, ?_, ?_, ?_⟩ <;> (first | (with_reducible assumption) | (with_reducible refine cell_up d1 ?_) | (with_reducible refine cell_up d2 ?_) | (with_reducible refine cell_up d3 ?_) | (with_reducible refine cell_up d4 ?_)) <;> ((repeat' (first | (with_reducible exact Below.refl _ _) | (with_reducible assumption) | (with_reducible refine below_over ?_ _ _) | (with_reducible refine Lw.below_alloc ?_ _) | (with_reducible refine Below.drew ?_) | (with_reducible refine below_drewN ?_ _) | (with_reducible refine Below.setCell ?_ ?_ _) | go_size))))) (first
            | (go_at_call 16; (with_reducible refine (cs_upd p F c sts key d _ (stI (HVr.out.up (by (repeat' (first | (with_reducible exact Below.refl _ _) | (with_reducible assumption) | (with_reducible refine below_over ?_ _ _) | (with_reducible refine Lw.below_alloc ?_ _) | (with_reducible refine Below.drew ?_) | (with_reducible refine below_drewN ?_ _) | (with_reducible refine Below.setCell ?_ ?_ _) | go_size)))).i0) kb.1 kb.2 db.1 db.2).mono ?_); rintro e w1 ⟨rfl, F1, h1, h2, h3⟩; have HV1 := Lib.hid ((HVr.out.up (by (repeat' (first | (with_reducible exact Below.refl _ _) | (with_reducible assumption) | (with_reducible refine below_over ?_ _ _) | (with_reducible refine Lw.below_alloc ?_ _) | (with_reducible refine Below.drew ?_) | (with_reducible refine below_drewN ?_ _) | (with_reducible refine Below.setCell ?_ ?_ _) | go_size)))).turn_0 (stT p F1 c (sures c sts key d)) h1 h2 h3); clear h1 h2 h3; clear d1 d2 d3 d4; have d1 := cell_up HD1.out HV1.out.below; have d2 := cell_up HD2.out HV1.out.below; have d3 := cell_up HD3.out HV1.out.below; have d4 := cell_up HD4.out HV1.out.below))
          go_upto_region 12 with fail
          go_region_held3 (fun w' => w'.cell? ⟨g, o, none⟩ = some (.int .i64 kd) ∧ w'.cell? ⟨g, o + 1, none⟩ = some (.int .i64 lv) ∧ w'.cell? ⟨g, o + 2, none⟩ = some (.int .u64 key) ∧ w'.cell? ⟨g, o + 3, none⟩ = some (.int .i64 d)) (first | (refine ⟨?_, ?_, ?_, ?_⟩ <;> (first | (with_reducible assumption) | (with_reducible refine cell_up d1 ?_) | (with_reducible refine cell_up d2 ?_) | (with_reducible refine cell_up d3 ?_) | (with_reducible refine cell_up d4 ?_)) <;> ((repeat' (first | (with_reducible exact Below.refl _ _) | (with_reducible assumption) | (with_reducible refine below_over ?_ _ _) | (with_reducible refine Lw.below_alloc ?_ _) | (with_reducible refine Below.drew ?_) | (with_reducible refine below_drewN ?_ _) | (with_reducible refine Below.setCell ?_ ?_ _) | go_size))))) (first
            | (go_at_call 17; (with_reducible refine (dk_upd r R c sts key d _ (dkI (HV1.out.up (by (repeat' (first | (with_reducible exact Below.refl _ _) | (with_reducible assumption) | (with_reducible refine below_over ?_ _ _) | (with_reducible refine Lw.below_alloc ?_ _) | (with_reducible refine Below.drew ?_) | (with_reducible refine below_drewN ?_ _) | (with_reducible refine Below.setCell ?_ ?_ _) | go_size)))).i1) kb.1 kb.2 db.1 db.2).mono ?_); rintro e w2 ⟨rfl, R1, h1, h2, h3⟩; have HV2 := Lib.hid ((HV1.out.up (by (repeat' (first | (with_reducible exact Below.refl _ _) | (with_reducible assumption) | (with_reducible refine below_over ?_ _ _) | (with_reducible refine Lw.below_alloc ?_ _) | (with_reducible refine Below.drew ?_) | (with_reducible refine below_drewN ?_ _) | (with_reducible refine Below.setCell ?_ ?_ _) | go_size)))).turn_1 (dkT r R1 c (sures c sts key d)) h1 h2 h3); clear h1 h2 h3; clear d1 d2 d3 d4; have d1 := cell_up HD1.out HV2.out.below; have d2 := cell_up HD2.out HV2.out.below; have d3 := cell_up HD3.out HV2.out.below; have d4 := cell_up HD4.out HV2.out.below))
          go_upto_region 35 with fail
          clear d1 d2 d3 d4
          have HVE : Hid (Have w _ [stT p F1 c (sures c sts key d), dkT r R1 c (sures c sts key d), boxT gc 24 #[.int .i64 c.bt, .int .i64 c.rw, .int .i64 c.wd, .int .i64 c.md, .int .u64 c.sd], boxT w.heap.size 24 #[.int .i64 x.bt, .int .i64 x.rw, .int .i64 x.wd, .int .i64 x.md, .int .u64 x.sd]]) := Lib.hid (HV2.out.up (by (repeat' (first | (with_reducible exact Below.refl _ _) | (with_reducible assumption) | (with_reducible refine below_over ?_ _ _) | (with_reducible refine Lw.below_alloc ?_ _) | (with_reducible refine Below.drew ?_) | (with_reducible refine below_drewN ?_ _) | (with_reducible refine Below.setCell ?_ ?_ _) | go_size))))
          go_wp2_with (first
            | (go_at_call 18; (with_reducible refine (cs_total p F1 c (sures c sts key d) _ (stI HVE.out.i0)).mono ?_); rintro e v1 ⟨rfl, hb⟩; have HW1 := Lib.hid (HVE.out.up hb); clear hb)
            | (go_at_call 19; (with_reducible refine (dk_total r R1 c (sures c sts key d) _ (dkI HW1.out.i1)).mono ?_); rintro e v2 ⟨rfl, hb⟩; have HW2 := Lib.hid (HW1.out.up hb); clear hb)
            | (go_at_call 20; (with_reducible refine (same_any p r F1 R1 c (sures c sts key d) _ (stI HW2.out.i0) (dkI HW2.out.i1)).mono ?_); rintro e v3 ⟨rfl, hb⟩; have HW3 := Lib.hid (HW2.out.up hb); clear hb))
          all_goals go_roundw
          case rel => exact ⟨k + 1, _, _, _, _, _, hk1', hk2', rfl, rfl, by go_num, HW3.out⟩
          case measure => simp [intOf]; omega
    · have e0 : ¬ (k : Int) < n0 ∨ ((k : Int) < n0 ∧ ¬ (k : Int) < 40) := by omega
      obtain ⟨c0, c1, c2, c3, c4⟩ := box5 HVr.out.i2
      clear hwb
      rcases e0 with e1 | ⟨e1, e2⟩
      all_goals
        go_upto_region 37 with fail
        go_region_held3 (fun w' => w'.cell? ⟨gc, 0, none⟩ = some (.int .i64 c.bt) ∧ w'.cell? ⟨gc, 1, none⟩ = some (.int .i64 c.rw) ∧ w'.cell? ⟨gc, 2, none⟩ = some (.int .i64 c.wd) ∧ w'.cell? ⟨gc, 3, none⟩ = some (.int .i64 c.md) ∧ w'.cell? ⟨gc, 4, none⟩ = some (.int .u64 c.sd)) (first | (refine ⟨?_, ?_, ?_, ?_, ?_⟩ <;> (first | (with_reducible assumption) | (with_reducible refine cell_up c0 ?_) | (with_reducible refine cell_up c1 ?_) | (with_reducible refine cell_up c2 ?_) | (with_reducible refine cell_up c3 ?_) | (with_reducible refine cell_up c4 ?_)) <;> ((repeat' (first | (with_reducible exact Below.refl _ _) | (with_reducible assumption) | (with_reducible refine below_over ?_ _ _) | (with_reducible refine Lw.below_alloc ?_ _) | (with_reducible refine Below.drew ?_) | (with_reducible refine below_drewN ?_ _) | (with_reducible refine Below.setCell ?_ ?_ _) | go_size))))) (first
          | (go_at_call 21; (with_reducible refine (cs_config p F c sts _ (stI (HVr.out.up (by (repeat' (first | (with_reducible exact Below.refl _ _) | (with_reducible assumption) | (with_reducible refine below_over ?_ _ _) | (with_reducible refine Lw.below_alloc ?_ _) | (with_reducible refine Below.drew ?_) | (with_reducible refine below_drewN ?_ _) | (with_reducible refine Below.setCell ?_ ?_ _) | go_size)))).i0)).mono ?_); rintro e w1 ⟨rfl, hb⟩; have HV1 := Lib.hid ((HVr.out.up (by (repeat' (first | (with_reducible exact Below.refl _ _) | (with_reducible assumption) | (with_reducible refine below_over ?_ _ _) | (with_reducible refine Lw.below_alloc ?_ _) | (with_reducible refine Below.drew ?_) | (with_reducible refine below_drewN ?_ _) | (with_reducible refine Below.setCell ?_ ?_ _) | go_size)))).up hb); clear hb; clear c0 c1 c2 c3 c4; obtain ⟨c0, c1, c2, c3, c4⟩ := box5 HV1.out.i2))
        all_goals go_wp2
        all_goals go_ret
        all_goals exact ⟨Grd.ret_b (by first | rfl | (simp; done)), HV1.out.below.trans ((show Below w1.heap.size w1 _ from (by (repeat' (first | (with_reducible exact Below.refl _ _) | (with_reducible assumption) | (with_reducible refine below_over ?_ _ _) | (with_reducible refine Lw.below_alloc ?_ _) | (with_reducible refine Below.drew ?_) | (with_reducible refine below_drewN ?_ _) | (with_reducible refine Below.setCell ?_ ?_ _) | go_size)))).mono HV1.out.below.size)⟩
namespace stackPlays
open Go.ChangeShapes Go.WideShapes Go.ChangeAt Go.Joins
set_option maxRecDepth 100000 in
theorem lifted (os : Os) (started : os.Started) (H : Type) (enc : TypeId × Value → H) :
    ReturnsInHanded {} Tryz.checked os 3 .any (Rows.stackPlaysSpec.pre6 enc Tryz.prog Tryz.f3 Rows.stackPlaysRow.domain false) (Rows.stackPlaysSpec.post enc Tryz.prog Tryz.f3 false true false false) := by
  refine Lw.lifted (C := Tryz.checked) (B := 4) (by kernel_rfl) os started (by kernel_rfl) Tryz.func3
    (ChangeSpec.witness6 (enc := enc) (C := Tryz.checked) false ⟨#[], #[.agg #[.int .i64 0, .int .i64 0, .int .i64 0, .int .i64 0, .int .u64 0], .slice none 0 0], []⟩ 8 (by kernel_rfl) (by kernel_rfl) (by kernel_rfl) (by kernel_rfl)) rfl Tryz.underlying4 (by kernel_rfl) (by kernel_rfl) (by kernel_rfl) ?_ ?_
  · intro ds h
    rw [Tryz.params3] at h
    match ds, h with
    | [_, _], _ => rfl
  · intro W base args ds p hval hA
    rw [Tryz.params3] at hA hval
    obtain ⟨v0, vs0, d0, ds0, p0, q0, hargs, rfl, rfl, h0, r0⟩ := trodAll_cons hA
    obtain ⟨v1, vs1, d1, ds1, p1, q1, rfl, rfl, rfl, h1, r1⟩ := trodAll_cons r0
    obtain ⟨rfl, rfl, rfl⟩ := trodAll_nil r1
    obtain rfl : args = #[v0, v1] := by cases args; simp_all
    obtain ⟨x0_0, x0_1, x0_2, x0_3, x0_4, rfl, z0_0, z0_1, z0_2, z0_3, z0_4⟩ := open_cfg (hval 0 24 v0 rfl rfl) h0
    obtain ⟨fu1, hf1⟩ := h1
    obtain ⟨A1, n1, c1, qs1, e1, hA1, hn1, hc1, hl1, he1⟩ := open_opz hf1
    have ev1 : v1 = .slice A1 n1 c1 := by have h := hval 1 25 v1 rfl rfl; obtain ⟨a0, le, ca, rfl⟩ := Go.WideShapes.okWide_slice Tryz.underlying25 h; simpa [Value.cells] using e1
    subst ev1
    exact splays_law ⟨x0_0, x0_1, x0_2, x0_3, x0_4⟩ A1 n1 c1 qs1 W ⟨z0_0.1, z0_0.2, z0_1.1, z0_1.2, z0_2.1, z0_2.2, z0_3.1, z0_3.2, z0_4.1, z0_4.2⟩ ⟨hA1, hn1, hc1, hl1, he1⟩
theorem over : Rows.stackPlaysRow.holds Tryz.pinned (OpenSpec.ofChange Rows.stackPlaysSpec) :=
  OpenClaim.holds_of_wide 3 Tryz.f3 rfl rfl rfl rfl rfl rfl rfl ⟨rfl, rfl, rfl, rfl, rfl⟩ rfl rfl rfl rfl rfl (by kernel_rfl) Tryz.func3 (by kernel_rfl)
    (of_decide_eq_true (by kernel_rfl)) (by unfold Func.isWrapper; first | (rw [if_pos (by decide +kernel)]; kernel_rfl) | (rw [if_neg (by decide +kernel)]; exact ⟨rfl, rfl⟩))
    (fun os started H enc _ => lifted os started H enc)
theorem proved : Rows.StackPlaysSaid :=
  over
#print axioms proved
end stackPlays
end Go.Proofs.YtccabgeeglhagaaGreat.Stk
