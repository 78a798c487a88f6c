/- The statement SketchJoins of layer 10 holds. Printed by wip/gen/skjoin.py. -/
import Derived.Test.YtahgkiceifblmaaMg
import Derived.Deep.LoopGhost
import Derived.Deep.RegionHeld3
import Derived.Deep.DeepCutAuto
import Derived.Deep.QuietTactic
import Derived.BigQuiet
namespace Go.Proofs.Ytahgkiceifblmaa.Sk
open Go Go.RowKit Lw Grd Lin Con Shp
set_option linter.unusedVariables false
set_option linter.unusedSimpArgs false
theorem ups_cut (c : Cfg) (l : Int) (qs : Ups) {a : Nat} (ha : a ≤ 60) : upsR c l qs 0 a ++ upsR c l qs a 60 = upsR c l qs 0 60 := by
  unfold upsR
  rw [List.drop_zero, List.drop_zero, ← List.map_append]
  congr 1
  have h : (qs.take 60).take a = qs.take a := by rw [List.take_take, Nat.min_eq_left ha]
  rw [← h, List.take_append_drop]
theorem cells_dims {c : Cfg} {l : Int} (hr : IsRight c) {us : Ups} (h : UpsIn c l us) (hl : us.length ≤ 60) (hm : c.md ≠ 2) : Dims (rws c) (wds c) (cells c l us) := by
  have hs := cells_sz h
  have hw := within_mono (chAll_within (c := 1099511627776) (by omega) (b := 0) (Int.le_refl _) (within_zeros (rws c) (wds c)) (opsU_ok h.1)) (c := 65970697666560) (by rw [opsU_len]; omega)
  rw [← cells_lin hm] at hw
  exact dims_of hs hw (by omega) (rws_bd hr).2.1 (wds_bd hr).2.1
theorem sub_back {c : Cfg} {l : Int} {L M J : List (List Int)} (hm : c.md ≠ 2) (hL : Dims (rws c) (wds c) L) (hM : Dims (rws c) (wds c) M) (hJ : gridS 1 L M = J) :
    mgCode (-1) c c l l J M = 0 ∧ mgRes (-1) c c l l J M = L := by
  have hb : gridS (-1) J M = L := by rw [← hJ]; exact back_dims hL hM
  have hf : fitsAll (gridS (-1) J M) = true := by rw [hb]; exact fits_dims hL
  have hj := jcode_yes (s := -1) (m := rws c) (n := wds c) hf
  have hce : cfgE c c = true := decide_eq_true ⟨rfl, rfl, rfl, rfl, rfl⟩
  unfold mgCode mgRes
  have hx : ¬ ((-1 : Int) = -1 ∧ c.md = 2) := fun h => hm h.2
  rw [if_pos (show cfgE c c = true ∧ l = l from ⟨hce, rfl⟩), if_pos (show cfgE c c = true ∧ l = l from ⟨hce, rfl⟩), if_neg hx, if_neg hx, hb.symm] at *
  rw [hb] at hj ⊢
  exact hj
theorem sub_self {c : Cfg} {l : Int} {L : List (List Int)} (hm : c.md ≠ 2) (hr : IsRight c) (hL : Dims (rws c) (wds c) L) :
    mgCode (-1) c c l l L L = 0 ∧ mgRes (-1) c c l l L L = zerosL (rws c) (wds c) := by
  have hb := self_dims hL
  have hf : fitsAll (gridS (-1) L L) = true := by rw [hb]; exact fits_dims (dims_zeros (rws_bd hr).2.1 (wds_bd hr).2.1)
  have hj := jcode_yes (s := -1) (m := rws c) (n := wds c) hf
  have hce : cfgE c c = true := decide_eq_true ⟨rfl, rfl, rfl, rfl, rfl⟩
  have hx : ¬ ((-1 : Int) = -1 ∧ c.md = 2) := fun h => hm h.2
  unfold mgCode mgRes
  rw [if_pos (show cfgE c c = true ∧ l = l from ⟨hce, rfl⟩), if_pos (show cfgE c c = true ∧ l = l from ⟨hce, rfl⟩), if_neg hx, if_neg hx]
  rw [hb] at hj
  exact hj
theorem merge_sum {c : Cfg} {l : Int} {us vs : Ups} (hr : IsRight c) (hm : c.md ≠ 2) (hu : UpsIn c l us) (hv : UpsIn c l vs) (hlu : us.length ≤ 60) (hlv : vs.length ≤ 60) : gridS 1 (cells c l us) (cells c l vs) = cells c l (us ++ vs) := by
  have h := merge_lin hr hm hu.1 hv.1 hlu hlv
  have hw : ∀ {us : Ups}, UpsIn c l us → us.length ≤ 60 → Within 65970697666560 (cells c l us) := fun {us} hu hl => by
    rw [cells_lin hm]
    exact within_mono (chAll_within (c := 1099511627776) (by omega) (b := 0) (Int.le_refl _) (within_zeros (rws c) (wds c)) (opsU_ok hu.1)) (c := 65970697666560) (by rw [opsU_len]; omega)
  have hj := jcode_yes (s := 1) (m := rws c) (n := wds c) (join_fits (m := rws c) (n := wds c) (hw hu hlu) (hw hv hlv))
  have hce : cfgE c c = true := decide_eq_true ⟨rfl, rfl, rfl, rfl, rfl⟩
  have hx : ¬ ((1 : Int) = -1 ∧ c.md = 2) := by omega
  have e : mgRes 1 c c l l (cells c l us) (cells c l vs) = gridS 1 (cells c l us) (cells c l vs) := by
    unfold mgRes
    rw [if_pos (show cfgE c c = true ∧ l = l from ⟨hce, rfl⟩), if_neg hx]
    exact hj.2
  rw [← e]
  exact h.2
set_option maxRecDepth 100000 in
set_option maxHeartbeats 8000000 in
theorem joins_false (x : Cfg) (lv : Int) (A : Option Addr) (n0 k0 : Nat) (qs : Ups) (at' : Int) (w : World) (hx : x.Ok) (hlv : -9223372036854775808 ≤ lv ∧ lv ≤ 9223372036854775807) (hq : UpdV w A n0 k0 qs) :
    Calls Try.prog 7 #[.agg #[.int .i64 x.bt, .int .i64 x.rw, .int .i64 x.wd, .int .i64 x.md, .int .u64 x.sd, .int .i64 lv, .slice A n0 k0], .int .i64 at', .bool false] w fun e w' => e = .returned (.bool true) ∧ Below w.heap.size w w' := by
  obtain ⟨c, hC⟩ : ∃ c, cfgP x 1 = c := ⟨_, rfl⟩
  obtain ⟨l, hl⟩ : ∃ l, lv % 65536 % (c.bt + 1) = l := ⟨_, rfl⟩
  have hr := cfgP_right x 1 (by omega) (by omega)
  have hmd : c.md = 1 := by rw [← hC]; rfl
  rw [hC] at hr
  have hlb : 0 ≤ l ∧ l ≤ c.bt := by
    have h1 := hr.1.1
    have h2 := Int.emod_nonneg (lv % 65536) (show c.bt + 1 ≠ 0 by omega)
    have h3 := Int.emod_lt_of_pos (lv % 65536) (show 0 < c.bt + 1 by omega)
    omega
  have hkeys : 1 ≤ keys c l := keys_pos.2 ⟨hr.1, hlb.1, hlb.2⟩
  have hne2 : c.md ≠ 2 := by omega
  obtain ⟨X, Y, a1, b1, c1, dd1, ee1, ff1⟩ := level_of at' 61 (by omega) (by omega)
  obtain ⟨a, ha⟩ : ∃ a : Nat, Y = a := ⟨Y.toNat, by omega⟩
  have hY : (a : Int) = Y := ha.symm
  have D1 := Lib.hid (fun w hq => fed_any x lv A n0 k0 qs 1 0 Y 0 a c l w hx hlv hq (by omega) (by omega) rfl ha (by omega) (by omega) hC hl)
  have D2 := Lib.hid (fun w hq => fed_any x lv A n0 k0 qs 1 Y 60 a 60 c l w hx hlv hq (by omega) (by omega) ha rfl (by omega) (by omega) hC hl)
  have D3 := Lib.hid (fun w hq => fed_any x lv A n0 k0 qs 1 0 60 0 60 c l w hx hlv hq (by omega) (by omega) rfl rfl (by omega) (by omega) hC hl)
  have i1 := upsR_in hkeys qs 0 a
  have i2 := upsR_in hkeys qs a 60
  have i3 := upsR_in hkeys qs 0 60
  have n1 : (upsR c l qs 0 a).length ≤ 60 := Nat.le_trans (upsR_len c l qs 0 a) (by omega)
  have n2 := upsR_len c l qs a 60
  have n3 := upsR_len c l qs 0 60
  have hcut := ups_cut c l qs (a := a) (by omega)
  have hmg := merge_lin (l := l) hr.1 hne2 i1.1 i2.1 n1 n2
  have hsum := merge_sum hr.1 hne2 i1 i2 n1 n2
  rw [hcut] at hmg hsum
  have d1 := cells_dims hr.1 i1 n1 hne2
  have d2 := cells_dims hr.1 i2 n2 hne2
  have d3 := cells_dims hr.1 i3 n3 hne2
  have hsb := sub_back (l := l) hne2 d1 d2 hsum
  have hss := sub_self (l := l) hne2 hr.1 d1
  obtain ⟨L, hL⟩ : ∃ L, cells c l (upsR c l qs 0 a) = L := ⟨_, rfl⟩
  obtain ⟨M, hM⟩ : ∃ M, cells c l (upsR c l qs a 60) = M := ⟨_, rfl⟩
  obtain ⟨J, hJ⟩ : ∃ J, cells c l (upsR c l qs 0 60) = J := ⟨_, rfl⟩
  obtain ⟨Z, hZ⟩ : ∃ Z, zerosL (rws c) (wds c) = Z := ⟨_, rfl⟩
  rw [hL] at D1 hmg hsb hss d1
  rw [hM] at D2 hmg hsb d2
  rw [hJ] at D3 hmg hsb d3
  rw [hZ] at hss
  have CL := Lib.hid (fun p F w h => scells_mid p F c l L w h)
  have CJ := Lib.hid (fun p F w h => scells_mid p F c l J w h)
  have CZ := Lib.hid (fun p F w h => scells_mid p F c l Z w h)
  have CM := Lib.hid (fun p F q G w h g => smerge_any p F c l L q G c l M w h g)
  have CS := Lib.hid (fun p F q G w h g => ssub_any p F c l J q G c l M w h g)
  have CT := Lib.hid (fun p F q G w h g => ssub_any p F c l L q G c l L w h g)
  rw [hmg.1, hmg.2] at CM
  rw [hsb.1, hsb.2] at CS
  rw [hss.1, hss.2] at CT
  have dz := dims_zeros (rws_bd hr.1).2.1 (wds_bd hr.1).2.1
  rw [hZ] at dz
  have FL := Lib.hid (flat_dims d1)
  have FJ := Lib.hid (flat_dims d3)
  have FZ := Lib.hid (flat_dims dz)
  have hzf : Z.flatten = List.replicate (rws c * wds c) 0 := by rw [← hZ]; exact zeros_flat2 _ _
  have hq9 : rws c * wds c ≤ 1024 := Nat.mul_le_mul (rws_bd hr.1).2.1 (wds_bd hr.1).2.1
  obtain ⟨Q, hQ⟩ : ∃ Q, rws c * wds c = Q := ⟨_, rfl⟩
  rw [hQ] at CL CJ CZ FL FJ FZ hq9 hzf
  have HZF := Lib.hid hzf
  have eqJ : decide (J.flatten = J.flatten) = true := decide_eq_true rfl
  have eqL : decide (L.flatten = L.flatten) = true := decide_eq_true rfl
  have HQ := Lib.hid hq
  have HBX : Hid (Have w (w.alloc (.cells #[.int .i64 x.bt, .int .i64 x.rw, .int .i64 x.wd, .int .i64 x.md, .int .u64 x.sd, .int .i64 lv, .slice A n0 k0] 27)) [boxT w.heap.size 27 #[.int .i64 x.bt, .int .i64 x.rw, .int .i64 x.wd, .int .i64 x.md, .int .u64 x.sd, .int .i64 lv, .slice A n0 k0]]) := Lib.hid (box_new w _ _)
  clear hC hl hr hmd hlb hkeys hne2 i1 i2 i3 n1 n2 n3 hcut hmg hsum d1 d2 d3 hsb hss hL hM hJ hZ dz hQ hq hx ha hzf
  go_enter Try.func7, Try.ntmps7
  go_wp2_with (first
    | (go_at_call 15; (with_reducible refine (CZ.out _ _ _ (skI HVd.out.i6)).mono ?_); rintro e we ⟨g5, cap5, rfl, h1, h2, h9, h8, hb⟩; have HVe := Lib.hid (HVd.out.push (midT g5 Z.flatten) hb h1 (fun k hk => by subst hk; exact h2)); clear h1 h2 hb)
    | (go_at_call 21; (with_reducible refine (CT.out _ _ _ _ _ (skI HVc.out.i6) (skI HVc.out.i6)).mono ?_); rintro e wd ⟨rfl, F3, h1, h2, h3⟩; have HVd := Lib.hid (HVc.out.turn_6 (skT p F3 c l Z) h1 h2 h3); clear h1 h2 h3)
    | (go_at_call 14; (with_reducible refine (rsame_any _ _ _ _ _ _ _ _ _ (midI HVb.out.i0).rd (midI HVb.out.i3).rd FL.out FL.out (by omega) (by omega)).mono ?_); rintro e wc ⟨rfl, hb⟩; have HVc := Lib.hid (HVb.out.up hb); clear hb)
    | (go_at_call 15; (with_reducible refine (CL.out _ _ _ (skI HVa.out.i5)).mono ?_); rintro e wb ⟨g4, cap4, rfl, h1, h2, -, -, hb⟩; have HVb := Lib.hid (HVa.out.push (midT g4 L.flatten) hb h1 (fun k hk => by subst hk; exact h2)); clear h1 h2 hb)
    | (go_at_call 21; (with_reducible refine (CS.out _ _ _ _ _ (skI HV9.out.i5) (skI HV9.out.i4)).mono ?_); rintro e wa ⟨rfl, F2, h1, h2, h3⟩; have HVa := Lib.hid (HV9.out.turn_5 (skT p F2 c l L) h1 h2 h3); clear h1 h2 h3)
    | (go_at_call 14; (with_reducible refine (rsame_any _ _ _ _ _ _ _ _ _ (midI HV8.out.i1).rd (midI HV8.out.i0).rd FJ.out FJ.out (by omega) (by omega)).mono ?_); rintro e w9 ⟨rfl, hb⟩; have HV9 := Lib.hid (HV8.out.up hb); clear hb)
    | (go_at_call 15; (with_reducible refine (CJ.out _ _ _ (skI HV7.out.i2)).mono ?_); rintro e w8 ⟨g3, cap3, rfl, h1, h2, -, -, hb⟩; have HV8 := Lib.hid (HV7.out.push (midT g3 J.flatten) hb h1 (fun k hk => by subst hk; exact h2)); clear h1 h2 hb)
    | (go_at_call 15; (with_reducible refine (CJ.out _ _ _ (skI HV6.out.i3)).mono ?_); rintro e w7 ⟨g2, cap2, rfl, h1, h2, -, -, hb⟩; have HV7 := Lib.hid (HV6.out.push (midT g2 J.flatten) hb h1 (fun k hk => by subst hk; exact h2)); clear h1 h2 hb)
    | (go_at_call 20; (with_reducible refine (CM.out _ _ _ _ _ (skI HV5.out.i3) (skI HV5.out.i2)).mono ?_); rintro e w6 ⟨rfl, F1, h1, h2, h3⟩; have HV6 := Lib.hid (HV5.out.turn_3 (skT p F1 c l J) h1 h2 h3); clear h1 h2 h3)
    | (go_at_call 15; (with_reducible refine (CL.out _ _ _ (skI HV4.out.i2)).mono ?_); rintro e w5 ⟨g1, cap1, rfl, h1, h2, -, -, hb⟩; have HV5 := Lib.hid (HV4.out.push (midT g1 L.flatten) hb h1 (fun k hk => by subst hk; exact h2)); clear h1 h2 hb)
    | (go_at_call 11; (with_reducible refine (D3.out _ (HQ.out.up HV3.out.below)).mono ?_); rintro e w4 ⟨r, R, rfl, hv⟩; have HV4 := Lib.hid ((HV3.out.join hv).up (Lw.below_alloc (Below.refl _ _) (.cells #[.int .i64 c.bt, .int .i64 c.rw, .int .i64 c.wd, .int .i64 c.md, .int .u64 c.sd] 24))); simp only [List.cons_append, List.nil_append] at HV4; clear hv; clear x0 x1 x2 x3 x4 x5 x6; obtain ⟨x0, x1, x2, x3, x4, x5, x6⟩ := box7 HV4.out.i3)
    | (go_at_call 11; (with_reducible refine (D2.out _ (HQ.out.up HV2.out.below)).mono ?_); rintro e w3 ⟨q, G, rfl, hv⟩; have HV3 := Lib.hid ((HV2.out.join hv).up (Lw.below_alloc (Below.refl _ _) (.cells #[.int .i64 c.bt, .int .i64 c.rw, .int .i64 c.wd, .int .i64 c.md, .int .u64 c.sd] 24))); simp only [List.cons_append, List.nil_append] at HV3; clear hv; clear x0 x1 x2 x3 x4 x5 x6; obtain ⟨x0, x1, x2, x3, x4, x5, x6⟩ := box7 HV3.out.i2)
    | (go_at_call 11; (with_reducible refine (D1.out _ (HQ.out.up HV1.out.below)).mono ?_); rintro e w2 ⟨p, F, rfl, hv⟩; have HV2 := Lib.hid ((HV1.out.join hv).up (Lw.below_alloc (Below.refl _ _) (.cells #[.int .i64 c.bt, .int .i64 c.rw, .int .i64 c.wd, .int .i64 c.md, .int .u64 c.sd] 24))); simp only [List.cons_append, List.nil_append] at HV2; clear hv; clear x0 x1 x2 x3 x4 x5 x6; obtain ⟨x0, x1, x2, x3, x4, x5, x6⟩ := box7 HV2.out.i1)
    | (go_at_call 10; (with_reducible refine (shown_any _).mono ?_); rintro e w1 ⟨rfl, hb⟩; have HV1 := Lib.hid (HBX.out.up hb); clear hb; obtain ⟨x0, x1, x2, x3, x4, x5, x6⟩ := box7 HV1.out.i0))
  unfold maxLen at h8
  clear x0 x1 x2 x3 x4 x5 x6
  go_loopw [23] (fun iv wr => ∃ (j : Nat), j ≤ Q ∧ iv = .int .i64 j ∧ Below we.heap.size we wr) (fun iv _ => Q - (intOf iv).toNat)
  case atStart => exact ⟨0, Nat.zero_le _, rfl, Below.refl _ _⟩
  case round =>
    obtain ⟨j, hj, rfl, hb⟩ := hrel
    have HB := Lib.hid hb
    have HMz := Lib.hid ((midI HVe.out.i0).up hb)
    by_cases hlt : j < Q
    · have hz : Z.flatten[j]? = some 0 := by rw [HZF.out, List.getElem?_replicate, if_pos hlt]
      have c9 := HMz.out.cell hz
      have c8 := c9
      rw [Nat.zero_add] at c8
      have hjc : (j : Int) < cap5 := by omega
      clear hz hb
      go_wp2
      go_roundw
      case rel => exact ⟨j + 1, by omega, by go_num, HB.out⟩
      case measure => simp [intOf]; omega
    · have e : j = Q := by omega
      subst e
      go_wp2
      go_ret
      exact ⟨ret_bs (by first | rfl | (simp [*]; done)), (HVe.out.up HB.out).below⟩
set_option maxRecDepth 100000 in
set_option maxHeartbeats 8000000 in
theorem joins_true (x : Cfg) (lv : Int) (A : Option Addr) (n0 k0 : Nat) (qs : Ups) (at' : Int) (w : World) (hx : x.Ok) (hlv : -9223372036854775808 ≤ lv ∧ lv ≤ 9223372036854775807) (hq : UpdV w A n0 k0 qs) :
    Calls Try.prog 7 #[.agg #[.int .i64 x.bt, .int .i64 x.rw, .int .i64 x.wd, .int .i64 x.md, .int .u64 x.sd, .int .i64 lv, .slice A n0 k0], .int .i64 at', .bool true] w fun e w' => e = .returned (.bool true) ∧ Below w.heap.size w w' := by
  obtain ⟨c, hC⟩ : ∃ c, cfgP x 3 = c := ⟨_, rfl⟩
  obtain ⟨l, hl⟩ : ∃ l, lv % 65536 % (c.bt + 1) = l := ⟨_, rfl⟩
  have hr := cfgP_right x 3 (by omega) (by omega)
  have hmd : c.md = 3 := by rw [← hC]; rfl
  rw [hC] at hr
  have hlb : 0 ≤ l ∧ l ≤ c.bt := by
    have h1 := hr.1.1
    have h2 := Int.emod_nonneg (lv % 65536) (show c.bt + 1 ≠ 0 by omega)
    have h3 := Int.emod_lt_of_pos (lv % 65536) (show 0 < c.bt + 1 by omega)
    omega
  have hkeys : 1 ≤ keys c l := keys_pos.2 ⟨hr.1, hlb.1, hlb.2⟩
  have hne2 : c.md ≠ 2 := by omega
  obtain ⟨X, Y, a1, b1, c1, dd1, ee1, ff1⟩ := level_of at' 61 (by omega) (by omega)
  obtain ⟨a, ha⟩ : ∃ a : Nat, Y = a := ⟨Y.toNat, by omega⟩
  have hY : (a : Int) = Y := ha.symm
  have D1 := Lib.hid (fun w hq => fed_any x lv A n0 k0 qs 3 0 Y 0 a c l w hx hlv hq (by omega) (by omega) rfl ha (by omega) (by omega) hC hl)
  have D2 := Lib.hid (fun w hq => fed_any x lv A n0 k0 qs 3 Y 60 a 60 c l w hx hlv hq (by omega) (by omega) ha rfl (by omega) (by omega) hC hl)
  have D3 := Lib.hid (fun w hq => fed_any x lv A n0 k0 qs 3 0 60 0 60 c l w hx hlv hq (by omega) (by omega) rfl rfl (by omega) (by omega) hC hl)
  have i1 := upsR_in hkeys qs 0 a
  have i2 := upsR_in hkeys qs a 60
  have i3 := upsR_in hkeys qs 0 60
  have n1 : (upsR c l qs 0 a).length ≤ 60 := Nat.le_trans (upsR_len c l qs 0 a) (by omega)
  have n2 := upsR_len c l qs a 60
  have n3 := upsR_len c l qs 0 60
  have hcut := ups_cut c l qs (a := a) (by omega)
  have hmg := merge_lin (l := l) hr.1 hne2 i1.1 i2.1 n1 n2
  have hsum := merge_sum hr.1 hne2 i1 i2 n1 n2
  rw [hcut] at hmg hsum
  have d1 := cells_dims hr.1 i1 n1 hne2
  have d2 := cells_dims hr.1 i2 n2 hne2
  have d3 := cells_dims hr.1 i3 n3 hne2
  have hsb := sub_back (l := l) hne2 d1 d2 hsum
  have hss := sub_self (l := l) hne2 hr.1 d1
  obtain ⟨L, hL⟩ : ∃ L, cells c l (upsR c l qs 0 a) = L := ⟨_, rfl⟩
  obtain ⟨M, hM⟩ : ∃ M, cells c l (upsR c l qs a 60) = M := ⟨_, rfl⟩
  obtain ⟨J, hJ⟩ : ∃ J, cells c l (upsR c l qs 0 60) = J := ⟨_, rfl⟩
  obtain ⟨Z, hZ⟩ : ∃ Z, zerosL (rws c) (wds c) = Z := ⟨_, rfl⟩
  rw [hL] at D1 hmg hsb hss d1
  rw [hM] at D2 hmg hsb d2
  rw [hJ] at D3 hmg hsb d3
  rw [hZ] at hss
  have CL := Lib.hid (fun p F w h => scells_mid p F c l L w h)
  have CJ := Lib.hid (fun p F w h => scells_mid p F c l J w h)
  have CZ := Lib.hid (fun p F w h => scells_mid p F c l Z w h)
  have CM := Lib.hid (fun p F q G w h g => smerge_any p F c l L q G c l M w h g)
  have CS := Lib.hid (fun p F q G w h g => ssub_any p F c l J q G c l M w h g)
  have CT := Lib.hid (fun p F q G w h g => ssub_any p F c l L q G c l L w h g)
  rw [hmg.1, hmg.2] at CM
  rw [hsb.1, hsb.2] at CS
  rw [hss.1, hss.2] at CT
  have dz := dims_zeros (rws_bd hr.1).2.1 (wds_bd hr.1).2.1
  rw [hZ] at dz
  have FL := Lib.hid (flat_dims d1)
  have FJ := Lib.hid (flat_dims d3)
  have FZ := Lib.hid (flat_dims dz)
  have hzf : Z.flatten = List.replicate (rws c * wds c) 0 := by rw [← hZ]; exact zeros_flat2 _ _
  have hq9 : rws c * wds c ≤ 1024 := Nat.mul_le_mul (rws_bd hr.1).2.1 (wds_bd hr.1).2.1
  obtain ⟨Q, hQ⟩ : ∃ Q, rws c * wds c = Q := ⟨_, rfl⟩
  rw [hQ] at CL CJ CZ FL FJ FZ hq9 hzf
  have HZF := Lib.hid hzf
  have eqJ : decide (J.flatten = J.flatten) = true := decide_eq_true rfl
  have eqL : decide (L.flatten = L.flatten) = true := decide_eq_true rfl
  have HQ := Lib.hid hq
  have HBX : Hid (Have w (w.alloc (.cells #[.int .i64 x.bt, .int .i64 x.rw, .int .i64 x.wd, .int .i64 x.md, .int .u64 x.sd, .int .i64 lv, .slice A n0 k0] 27)) [boxT w.heap.size 27 #[.int .i64 x.bt, .int .i64 x.rw, .int .i64 x.wd, .int .i64 x.md, .int .u64 x.sd, .int .i64 lv, .slice A n0 k0]]) := Lib.hid (box_new w _ _)
  clear hC hl hr hmd hlb hkeys hne2 i1 i2 i3 n1 n2 n3 hcut hmg hsum d1 d2 d3 hsb hss hL hM hJ hZ dz hQ hq hx ha hzf
  go_enter Try.func7, Try.ntmps7
  go_wp2_with (first
    | (go_at_call 15; (with_reducible refine (CZ.out _ _ _ (skI HVd.out.i6)).mono ?_); rintro e we ⟨g5, cap5, rfl, h1, h2, h9, h8, hb⟩; have HVe := Lib.hid (HVd.out.push (midT g5 Z.flatten) hb h1 (fun k hk => by subst hk; exact h2)); clear h1 h2 hb)
    | (go_at_call 21; (with_reducible refine (CT.out _ _ _ _ _ (skI HVc.out.i6) (skI HVc.out.i6)).mono ?_); rintro e wd ⟨rfl, F3, h1, h2, h3⟩; have HVd := Lib.hid (HVc.out.turn_6 (skT p F3 c l Z) h1 h2 h3); clear h1 h2 h3)
    | (go_at_call 14; (with_reducible refine (rsame_any _ _ _ _ _ _ _ _ _ (midI HVb.out.i0).rd (midI HVb.out.i3).rd FL.out FL.out (by omega) (by omega)).mono ?_); rintro e wc ⟨rfl, hb⟩; have HVc := Lib.hid (HVb.out.up hb); clear hb)
    | (go_at_call 15; (with_reducible refine (CL.out _ _ _ (skI HVa.out.i5)).mono ?_); rintro e wb ⟨g4, cap4, rfl, h1, h2, -, -, hb⟩; have HVb := Lib.hid (HVa.out.push (midT g4 L.flatten) hb h1 (fun k hk => by subst hk; exact h2)); clear h1 h2 hb)
    | (go_at_call 21; (with_reducible refine (CS.out _ _ _ _ _ (skI HV9.out.i5) (skI HV9.out.i4)).mono ?_); rintro e wa ⟨rfl, F2, h1, h2, h3⟩; have HVa := Lib.hid (HV9.out.turn_5 (skT p F2 c l L) h1 h2 h3); clear h1 h2 h3)
    | (go_at_call 14; (with_reducible refine (rsame_any _ _ _ _ _ _ _ _ _ (midI HV8.out.i1).rd (midI HV8.out.i0).rd FJ.out FJ.out (by omega) (by omega)).mono ?_); rintro e w9 ⟨rfl, hb⟩; have HV9 := Lib.hid (HV8.out.up hb); clear hb)
    | (go_at_call 15; (with_reducible refine (CJ.out _ _ _ (skI HV7.out.i2)).mono ?_); rintro e w8 ⟨g3, cap3, rfl, h1, h2, -, -, hb⟩; have HV8 := Lib.hid (HV7.out.push (midT g3 J.flatten) hb h1 (fun k hk => by subst hk; exact h2)); clear h1 h2 hb)
    | (go_at_call 15; (with_reducible refine (CJ.out _ _ _ (skI HV6.out.i3)).mono ?_); rintro e w7 ⟨g2, cap2, rfl, h1, h2, -, -, hb⟩; have HV7 := Lib.hid (HV6.out.push (midT g2 J.flatten) hb h1 (fun k hk => by subst hk; exact h2)); clear h1 h2 hb)
    | (go_at_call 20; (with_reducible refine (CM.out _ _ _ _ _ (skI HV5.out.i3) (skI HV5.out.i2)).mono ?_); rintro e w6 ⟨rfl, F1, h1, h2, h3⟩; have HV6 := Lib.hid (HV5.out.turn_3 (skT p F1 c l J) h1 h2 h3); clear h1 h2 h3)
    | (go_at_call 15; (with_reducible refine (CL.out _ _ _ (skI HV4.out.i2)).mono ?_); rintro e w5 ⟨g1, cap1, rfl, h1, h2, -, -, hb⟩; have HV5 := Lib.hid (HV4.out.push (midT g1 L.flatten) hb h1 (fun k hk => by subst hk; exact h2)); clear h1 h2 hb)
    | (go_at_call 11; (with_reducible refine (D3.out _ (HQ.out.up HV3.out.below)).mono ?_); rintro e w4 ⟨r, R, rfl, hv⟩; have HV4 := Lib.hid ((HV3.out.join hv).up (Lw.below_alloc (Below.refl _ _) (.cells #[.int .i64 c.bt, .int .i64 c.rw, .int .i64 c.wd, .int .i64 c.md, .int .u64 c.sd] 24))); simp only [List.cons_append, List.nil_append] at HV4; clear hv; clear x0 x1 x2 x3 x4 x5 x6; obtain ⟨x0, x1, x2, x3, x4, x5, x6⟩ := box7 HV4.out.i3)
    | (go_at_call 11; (with_reducible refine (D2.out _ (HQ.out.up HV2.out.below)).mono ?_); rintro e w3 ⟨q, G, rfl, hv⟩; have HV3 := Lib.hid ((HV2.out.join hv).up (Lw.below_alloc (Below.refl _ _) (.cells #[.int .i64 c.bt, .int .i64 c.rw, .int .i64 c.wd, .int .i64 c.md, .int .u64 c.sd] 24))); simp only [List.cons_append, List.nil_append] at HV3; clear hv; clear x0 x1 x2 x3 x4 x5 x6; obtain ⟨x0, x1, x2, x3, x4, x5, x6⟩ := box7 HV3.out.i2)
    | (go_at_call 11; (with_reducible refine (D1.out _ (HQ.out.up HV1.out.below)).mono ?_); rintro e w2 ⟨p, F, rfl, hv⟩; have HV2 := Lib.hid ((HV1.out.join hv).up (Lw.below_alloc (Below.refl _ _) (.cells #[.int .i64 c.bt, .int .i64 c.rw, .int .i64 c.wd, .int .i64 c.md, .int .u64 c.sd] 24))); simp only [List.cons_append, List.nil_append] at HV2; clear hv; clear x0 x1 x2 x3 x4 x5 x6; obtain ⟨x0, x1, x2, x3, x4, x5, x6⟩ := box7 HV2.out.i1)
    | (go_at_call 10; (with_reducible refine (shown_any _).mono ?_); rintro e w1 ⟨rfl, hb⟩; have HV1 := Lib.hid (HBX.out.up hb); clear hb; obtain ⟨x0, x1, x2, x3, x4, x5, x6⟩ := box7 HV1.out.i0))
  unfold maxLen at h8
  clear x0 x1 x2 x3 x4 x5 x6
  go_loopw [23] (fun iv wr => ∃ (j : Nat), j ≤ Q ∧ iv = .int .i64 j ∧ Below we.heap.size we wr) (fun iv _ => Q - (intOf iv).toNat)
  case atStart => exact ⟨0, Nat.zero_le _, rfl, Below.refl _ _⟩
  case round =>
    obtain ⟨j, hj, rfl, hb⟩ := hrel
    have HB := Lib.hid hb
    have HMz := Lib.hid ((midI HVe.out.i0).up hb)
    by_cases hlt : j < Q
    · have hz : Z.flatten[j]? = some 0 := by rw [HZF.out, List.getElem?_replicate, if_pos hlt]
      have c9 := HMz.out.cell hz
      have c8 := c9
      rw [Nat.zero_add] at c8
      have hjc : (j : Int) < cap5 := by omega
      clear hz hb
      go_wp2
      go_roundw
      case rel => exact ⟨j + 1, by omega, by go_num, HB.out⟩
      case measure => simp [intOf]; omega
    · have e : j = Q := by omega
      subst e
      go_wp2
      go_ret
      exact ⟨ret_bs (by first | rfl | (simp [*]; done)), (HVe.out.up HB.out).below⟩
theorem joins_law (x : Cfg) (lv : Int) (A : Option Addr) (n0 k0 : Nat) (qs : Ups) (at' : Int) (b : Bool) (w : World) (hx : x.Ok) (hlv : -9223372036854775808 ≤ lv ∧ lv ≤ 9223372036854775807) (hq : UpdV w A n0 k0 qs) :
    Calls Try.prog 7 #[.agg #[.int .i64 x.bt, .int .i64 x.rw, .int .i64 x.wd, .int .i64 x.md, .int .u64 x.sd, .int .i64 lv, .slice A n0 k0], .int .i64 at', .bool b] w fun e w' => e = .returned (.bool true) ∧ Below w.heap.size w w' := by
  cases b with
  | false => exact joins_false x lv A n0 k0 qs at' w hx hlv hq
  | true => exact joins_true x lv A n0 k0 qs at' w hx hlv hq
namespace sketchJoins
open Go.ChangeShapes Go.WideShapes Go.ChangeAt Go.Joins
set_option maxRecDepth 100000 in
theorem lifted (os : Os) (started : os.Started) (H : Type) (enc : TypeId × Value → H) :
    ReturnsInHanded {} Try.checked os 7 .any (Rows.sketchJoinsSpec.pre6 enc Try.prog Try.f7 Rows.sketchJoinsRow.domain false) (Rows.sketchJoinsSpec.post enc Try.prog Try.f7 false true false false) := by
  refine Lw.lifted (C := Try.checked) (B := 4) (by kernel_rfl) os started (by kernel_rfl) Try.func7
    (ChangeSpec.witness6 (enc := enc) (C := Try.checked) false ⟨#[], #[.agg #[.int .i64 0, .int .i64 0, .int .i64 0, .int .i64 0, .int .u64 0, .int .i64 0, .slice none 0 0], .int .i64 0, .bool false], []⟩ 8 (by kernel_rfl) (by kernel_rfl) (by kernel_rfl) (by kernel_rfl)) rfl Try.underlying4 (by kernel_rfl) (by kernel_rfl) (by kernel_rfl) ?_ ?_
  · intro ds h
    rw [Try.params7] at h
    match ds, h with
    | [_, _, _], _ => rfl
  · intro W base args ds p hval hA
    rw [Try.params7] at hA hval
    obtain ⟨v0, vs0, d0, ds0, p0, q0, hargs, rfl, rfl, h0, r0⟩ := trodAll_cons hA
    obtain ⟨v1, vs1, d1, ds1, p1, q1, rfl, rfl, rfl, h1, r1⟩ := trodAll_cons r0
    obtain ⟨v2, vs2, d2, ds2, p2, q2, rfl, rfl, rfl, h2, r2⟩ := trodAll_cons r1
    obtain ⟨rfl, rfl, rfl⟩ := trodAll_nil r2
    obtain rfl : args = #[v0, v1, v2] := by cases args; simp_all
    obtain ⟨x0, lv0, A0, n0, k0, qs0, rfl, hx0, hlv0, hq0⟩ := open_playS (hval 0 27 v0 rfl rfl) h0
    obtain ⟨a1, rfl, rfl, rfl, w1⟩ := open_int Try.underlying3 (hval 1 3 v1 rfl rfl) h1
    have b1 := Lw.wf_i64 w1
    obtain ⟨a2, rfl, rfl, rfl⟩ := open_bool Try.underlying4 (hval 2 4 v2 rfl rfl) h2
    exact joins_law x0 lv0 A0 n0 k0 qs0 a1 a2 W hx0 hlv0 hq0
theorem over : Rows.sketchJoinsRow.holds Try.pinned (OpenSpec.ofChange Rows.sketchJoinsSpec) :=
  OpenClaim.holds_of_wide 7 Try.f7 rfl rfl rfl rfl rfl rfl rfl ⟨rfl, rfl, rfl, rfl, rfl⟩ rfl rfl rfl rfl rfl (by kernel_rfl) Try.func7 (by kernel_rfl)
    (of_decide_eq_true (by kernel_rfl)) (by unfold Func.isWrapper; first | (rw [if_pos (by decide +kernel)]; kernel_rfl) | (rw [if_neg (by decide +kernel)]; exact ⟨rfl, rfl⟩))
    (fun os started H enc _ => lifted os started H enc)
theorem proved : Rows.SketchJoinsSaid :=
  over
#print axioms proved
end sketchJoins
end Go.Proofs.Ytahgkiceifblmaa.Sk
