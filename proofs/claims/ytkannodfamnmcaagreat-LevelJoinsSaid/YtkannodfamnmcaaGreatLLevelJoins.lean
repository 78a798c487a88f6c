/- The statement LevelJoins of layer 13 holds: merged, two levels are one that was fed all. Printed by wip/gen/levjoin.py. -/
import Derived.Test.YtkannodfamnmcaaGreatMm
import Derived.Deep.LoopGhost
import Derived.Deep.RegionHeld3
import Derived.Deep.DeepCutAuto
import Derived.Deep.QuietTactic
import Derived.BigQuiet
namespace Go.Proofs.YtkannodfamnmcaaGreat.Lev
open Go Go.RowKit Lw Grd Lin Con Shp Sk Exa Inn
set_option linter.unusedVariables false
set_option linter.unusedSimpArgs false
theorem mgj_refl (c : Cfg) (l : Int) : cfgE c c = true ∧ l = l := ⟨decide_eq_true ⟨rfl, rfl, rfl, rfl, rfl⟩, rfl⟩
theorem mgA_p {c : Cfg} {l : Int} {L M : List Int} : mgC 1 c c l l L M = exJ 1 L M ∧ mgR 1 c c l l L M = exM 1 L M := by
  have hs : ¬ ((1 : Int) = -1 ∧ c.md = 2) := by omega
  unfold mgC mgR
  rw [if_pos (mgj_refl c l), if_pos (mgj_refl c l), if_neg hs, if_neg hs]
  exact ⟨rfl, rfl⟩
theorem mgA_m {c : Cfg} {l : Int} {L M : List Int} (hm : ¬ c.md = 2) : mgC (-1) c c l l L M = exJ (-1) L M ∧ mgR (-1) c c l l L M = exM (-1) L M := by
  have hs : ¬ ((-1 : Int) = -1 ∧ c.md = 2) := fun h => hm h.2
  unfold mgC mgR
  rw [if_pos (mgj_refl c l), if_pos (mgj_refl c l), if_neg hs, if_neg hs]
  exact ⟨rfl, rfl⟩
theorem mgA_c {c : Cfg} {l : Int} {L M : List Int} (hm : c.md = 2) : mgC (-1) c c l l L M = 3 ∧ mgR (-1) c c l l L M = L := by
  have hs : (-1 : Int) = -1 ∧ c.md = 2 := ⟨rfl, hm⟩
  unfold mgC mgR
  rw [if_pos (mgj_refl c l), if_pos (mgj_refl c l), if_pos hs, if_pos hs]
  exact ⟨rfl, rfl⟩
theorem mgS_p {c : Cfg} {l : Int} {L M : List (List Int)} : mgCode 1 c c l l L M = jcode 1 (rws c) (wds c) (rws c) (wds c) L M ∧ mgRes 1 c c l l L M = jres 1 (rws c) (wds c) (rws c) (wds c) L M := by
  have hs : ¬ ((1 : Int) = -1 ∧ c.md = 2) := by omega
  unfold mgCode mgRes
  rw [if_pos (mgj_refl c l), if_pos (mgj_refl c l), if_neg hs, if_neg hs]
  exact ⟨rfl, rfl⟩
theorem mgS_m {c : Cfg} {l : Int} {L M : List (List Int)} (hm : ¬ c.md = 2) : mgCode (-1) c c l l L M = jcode (-1) (rws c) (wds c) (rws c) (wds c) L M ∧ mgRes (-1) c c l l L M = jres (-1) (rws c) (wds c) (rws c) (wds c) L M := by
  have hs : ¬ ((-1 : Int) = -1 ∧ c.md = 2) := fun h => hm h.2
  unfold mgCode mgRes
  rw [if_pos (mgj_refl c l), if_pos (mgj_refl c l), if_neg hs, if_neg hs]
  exact ⟨rfl, rfl⟩
theorem mgS_c {c : Cfg} {l : Int} {L M : List (List Int)} (hm : c.md = 2) : mgCode (-1) c c l l L M = 3 ∧ mgRes (-1) c c l l L M = L := by
  have hs : (-1 : Int) = -1 ∧ c.md = 2 := ⟨rfl, hm⟩
  unfold mgCode mgRes
  rw [if_pos (mgj_refl c l), if_pos (mgj_refl c l), if_pos hs, if_pos hs]
  exact ⟨rfl, rfl⟩
theorem ups_cut (c : Cfg) (l : Int) (qs : Ups) {a : Nat} (ha : a ≤ 60) : upsR c l qs 0 a ++ upsR c l qs a 60 = upsR c l qs 0 60 := by
  unfold upsR
  rw [List.drop_zero, List.drop_zero, ← List.map_append]
  congr 1
  have h : (qs.take 60).take a = qs.take a := by rw [List.take_take, Nat.min_eq_left ha]
  rw [← h, List.take_append_drop]
theorem cells_dims {c : Cfg} {l : Int} (hr : IsRight c) {us : Ups} (h : UpsIn c l us) (hl : us.length ≤ 60) (hm : c.md ≠ 2) : Dims (rws c) (wds c) (cells c l us) := by
  have hs := cells_sz h
  have hw := within_mono (chAll_within (c := 1099511627776) (by omega) (b := 0) (Int.le_refl _) (within_zeros (rws c) (wds c)) (opsU_ok h.1)) (c := 65970697666560) (by rw [opsU_len]; omega)
  rw [← cells_lin hm] at hw
  exact dims_of hs hw (by omega) (rws_bd hr).2.1 (wds_bd hr).2.1
theorem sub_back {c : Cfg} {l : Int} {L M J : List (List Int)} (hm : c.md ≠ 2) (hL : Dims (rws c) (wds c) L) (hM : Dims (rws c) (wds c) M) (hJ : gridS 1 L M = J) :
    mgCode (-1) c c l l J M = 0 ∧ mgRes (-1) c c l l J M = L := by
  have hb : gridS (-1) J M = L := by rw [← hJ]; exact back_dims hL hM
  have hf : fitsAll (gridS (-1) J M) = true := by rw [hb]; exact fits_dims hL
  have hj := jcode_yes (s := -1) (m := rws c) (n := wds c) hf
  have hce : cfgE c c = true := decide_eq_true ⟨rfl, rfl, rfl, rfl, rfl⟩
  unfold mgCode mgRes
  have hx : ¬ ((-1 : Int) = -1 ∧ c.md = 2) := fun h => hm h.2
  rw [if_pos (show cfgE c c = true ∧ l = l from ⟨hce, rfl⟩), if_pos (show cfgE c c = true ∧ l = l from ⟨hce, rfl⟩), if_neg hx, if_neg hx, hb.symm] at *
  rw [hb] at hj ⊢
  exact hj
theorem sub_self_ {c : Cfg} {l : Int} {L : List (List Int)} (hm : c.md ≠ 2) (hr : IsRight c) (hL : Dims (rws c) (wds c) L) :
    mgCode (-1) c c l l L L = 0 ∧ mgRes (-1) c c l l L L = zerosL (rws c) (wds c) := by
  have hb := self_dims hL
  have hf : fitsAll (gridS (-1) L L) = true := by rw [hb]; exact fits_dims (dims_zeros (rws_bd hr).2.1 (wds_bd hr).2.1)
  have hj := jcode_yes (s := -1) (m := rws c) (n := wds c) hf
  have hce : cfgE c c = true := decide_eq_true ⟨rfl, rfl, rfl, rfl, rfl⟩
  have hx : ¬ ((-1 : Int) = -1 ∧ c.md = 2) := fun h => hm h.2
  unfold mgCode mgRes
  rw [if_pos (show cfgE c c = true ∧ l = l from ⟨hce, rfl⟩), if_pos (show cfgE c c = true ∧ l = l from ⟨hce, rfl⟩), if_neg hx, if_neg hx]
  rw [hb] at hj
  exact hj
theorem merge_sum {c : Cfg} {l : Int} {us vs : Ups} (hr : IsRight c) (hm : c.md ≠ 2) (hu : UpsIn c l us) (hv : UpsIn c l vs) (hlu : us.length ≤ 60) (hlv : vs.length ≤ 60) : gridS 1 (cells c l us) (cells c l vs) = cells c l (us ++ vs) := by
  have h := merge_lin hr hm hu.1 hv.1 hlu hlv
  have hw : ∀ {us : Ups}, UpsIn c l us → us.length ≤ 60 → Within 65970697666560 (cells c l us) := fun {us} hu hl => by
    rw [cells_lin hm]
    exact within_mono (chAll_within (c := 1099511627776) (by omega) (b := 0) (Int.le_refl _) (within_zeros (rws c) (wds c)) (opsU_ok hu.1)) (c := 65970697666560) (by rw [opsU_len]; omega)
  have hj := jcode_yes (s := 1) (m := rws c) (n := wds c) (join_fits (m := rws c) (n := wds c) (hw hu hlu) (hw hv hlv))
  have hce : cfgE c c = true := decide_eq_true ⟨rfl, rfl, rfl, rfl, rfl⟩
  have hx : ¬ ((1 : Int) = -1 ∧ c.md = 2) := by omega
  have e : mgRes 1 c c l l (cells c l us) (cells c l vs) = gridS 1 (cells c l us) (cells c l vs) := by
    unfold mgRes
    rw [if_pos (show cfgE c c = true ∧ l = l from ⟨hce, rfl⟩), if_neg hx]
    exact hj.2
  rw [← e]
  exact h.2
theorem sums_app (K : Nat) (us vs : Ups) : rowS 1 (sums K us) (sums K vs) = sums K (us ++ vs) := by
  apply List.ext_getElem?
  intro j
  by_cases h : j < K
  · rw [row_get 1 (sums_get h) (sums_get h), sums_get h, hasK_app, Int.one_mul]
  · rw [List.getElem?_eq_none (by unfold rowS; rw [List.length_zipWith, sums_len, sums_len]; omega), List.getElem?_eq_none (by rw [sums_len]; omega)]
theorem sums_bd {c : Cfg} {l : Int} {K : Nat} {us : Ups} (h : UpsIn c l us) (hl : us.length ≤ 60) {j : Nat} {x : Int} (hx : (sums K us)[j]? = some x) : -65970697666560 ≤ x ∧ x ≤ 65970697666560 := by
  have hj : j < K := by
    have h1 := (List.getElem?_eq_some_iff.1 hx).1
    rwa [sums_len] at h1
  rw [sums_get hj] at hx
  injection hx with hx
  have h2 := hasK_bd (k := (j : Int)) (b := 1099511627776) (by omega) (us := us) (fun v hv => ⟨(h.1 v hv).2.2.1, (h.1 v hv).2.2.2⟩)
  omega
theorem mergeA_sum {c : Cfg} {l : Int} {K : Nat} {us vs : Ups} (hu : UpsIn c l us) (hv : UpsIn c l vs) (hlu : us.length ≤ 60) (hlv : vs.length ≤ 60) : mgC 1 c c l l (sums K us) (sums K vs) = 0 ∧ mgR 1 c c l l (sums K us) (sums K vs) = sums K (us ++ vs) := by
  have hj := exJ_yes (s := 1) (L := sums K us) (M := sums K vs) (fun k x y hx hy => by
    have h1 := sums_bd hu hlu hx
    have h2 := sums_bd hv hlv hy
    exact (Wid.fit64_yes (by omega) (by omega)).1)
  rw [sums_app] at hj
  rw [mgA_p.1, mgA_p.2]
  exact hj
theorem subA_back {c : Cfg} {l : Int} {K : Nat} {us vs : Ups} (hm : ¬ c.md = 2) (hu : UpsIn c l us) (hlu : us.length ≤ 60) : mgC (-1) c c l l (sums K (us ++ vs)) (sums K vs) = 0 ∧ mgR (-1) c c l l (sums K (us ++ vs)) (sums K vs) = sums K us := by
  have hb := row_back (xs := sums K us) (ys := sums K vs) (by rw [sums_len, sums_len])
  rw [sums_app] at hb
  have hj := exJ_yes (s := -1) (L := sums K (us ++ vs)) (M := sums K vs) (fun k x y hx hy => by
    have h1 := row_get (-1) hx hy
    rw [hb] at h1
    have h2 := sums_bd hu hlu h1
    exact (Wid.fit64_yes (by omega) (by omega)).1)
  rw [hb] at hj
  rw [(mgA_m hm).1, (mgA_m hm).2]
  exact hj
theorem mergeS_con {c : Cfg} {l : Int} {us vs : Ups} (hm : c.md = 2) (hu : UpsIn c l us) (hv : UpsIn c l vs) (hlu : us.length ≤ 60) (hlv : vs.length ≤ 60) : mgCode 1 c c l l (cells c l us) (cells c l vs) = 0 := by
  have d1 := rose_dims (opsU_ok hu.1) (plus_of hu hm) (by rw [opsU_len]; exact hlu)
  have d2 := rose_dims (opsU_ok hv.1) (plus_of hv hm) (by rw [opsU_len]; exact hlv)
  have hj := jcode_yes (s := 1) (m := rws c) (n := wds c) (join_fits (m := rws c) (n := wds c) d1.2 d2.2)
  rw [mgS_p.1, cells_con hm, cells_con hm]
  exact hj.1
set_option maxRecDepth 100000 in
set_option maxHeartbeats 16000000 in
theorem joins_A_lin (x : Cfg) (lv : Int) (A : Option Addr) (n0 k0 : Nat) (qs : Ups) (at' : Int) (w : World) (hx : x.Ok) (hlv : -9223372036854775808 ≤ lv ∧ lv ≤ 9223372036854775807) (hq : UpdV w A n0 k0 qs) (c : Cfg) (hC : anyC x 8 9 = c) (X1 l : Int) (a1 : bits .and .i64 lv 65535 = X1) (b1 : 0 ≤ X1) (c1 : X1 ≤ 65535) (dd1 : Int.tmod X1 (c.bt + 1) = l) (ee1 : 0 ≤ l) (ff1 : l < c.bt + 1) (n : Nat) (hn : keys c l = (n : Int)) (hxa : exactB c l = true) (hmd : ¬ c.md = 2) :
    Calls Tryz.prog 6 #[.agg #[.int .i64 x.bt, .int .i64 x.rw, .int .i64 x.wd, .int .i64 x.md, .int .u64 x.sd, .int .i64 lv, .slice A n0 k0], .int .i64 at'] w fun e w' => e = .returned (.bool true) ∧ Below w.heap.size w w' := by
  have hr := any_right x 8 9 (by omega) (by omega) (by omega) (by omega)
  have hb8 : (anyC x 8 9).bt ≤ 8 := by
    show 1 + x.bt % 65536 % 8 ≤ 8
    omega
  rw [hC] at hr hb8
  have hbt := hr.1
  have hkeys : 1 ≤ keys c l := keys_pos.2 ⟨hr, by omega, by omega⟩
  obtain ⟨XP, Y, pa1, pb1, pc1, pd1, pe1, pf1⟩ := level_of at' 61 (by omega) (by omega)
  obtain ⟨a, ha⟩ : ∃ a : Nat, Y = a := ⟨Y.toNat, by omega⟩
  have hY : (a : Int) = Y := ha.symm
  have ha60 : a ≤ 60 := by omega
  have D1 := Lib.hid (fun w hq => fed_A x lv A n0 k0 qs 0 Y 0 a c l w hx hlv hq rfl ha (by omega) (by omega) hC X1 a1 b1 c1 dd1 ee1 ff1 n hn hxa)
  have D2 := Lib.hid (fun w hq => fed_A x lv A n0 k0 qs Y 60 a 60 c l w hx hlv hq ha rfl (by omega) (by omega) hC X1 a1 b1 c1 dd1 ee1 ff1 n hn hxa)
  have D3 := Lib.hid (fun w hq => fed_A x lv A n0 k0 qs 0 60 0 60 c l w hx hlv hq rfl rfl (by omega) (by omega) hC X1 a1 b1 c1 dd1 ee1 ff1 n hn hxa)
  have i1 := upsR_in hkeys qs 0 a
  have i2 := upsR_in hkeys qs a 60
  have i3 := upsR_in hkeys qs 0 60
  have n1 : (upsR c l qs 0 a).length ≤ 60 := Nat.le_trans (upsR_len c l qs 0 a) (by omega)
  have n2 := upsR_len c l qs a 60
  have n3 := upsR_len c l qs 0 60
  have hcut := ups_cut c l qs (a := a) ha60
  have hmg := mergeA_sum (c := c) (l := l) (K := n) i1 i2 n1 n2
  rw [hcut] at hmg
  have l1 := sums_len n (upsR c l qs 0 a)
  have l3 := sums_len n (upsR c l qs 0 60)
  have hn8 : n ≤ 128 := by have := exact_len hxa; omega
  have hsb := subA_back (c := c) (l := l) (K := n) (us := upsR c l qs 0 a) (vs := upsR c l qs a 60) hmd i1 n1
  rw [hcut] at hsb
  obtain ⟨L, hL⟩ : ∃ L, sums n (upsR c l qs 0 a) = L := ⟨_, rfl⟩
  obtain ⟨M, hM⟩ : ∃ M, sums n (upsR c l qs a 60) = M := ⟨_, rfl⟩
  obtain ⟨J, hJ⟩ : ∃ J, sums n (upsR c l qs 0 60) = J := ⟨_, rfl⟩
  rw [hL] at D1 hmg l1 hsb
  rw [hM] at D2 hmg hsb
  rw [hJ] at D3 l3 hmg hsb
  have CL := Lib.hid (fun p F w h => ecells_mid p F c l L w h)
  have CJ := Lib.hid (fun p F w h => ecells_mid p F c l J w h)
  have CM := Lib.hid (fun p F q G w h g => vmerge_A p F c l L q G c l M w h g)
  rw [hmg.1, hmg.2] at CM
  have CS := Lib.hid (fun p F q G w h g => vsub_A p F c l J q G c l M w h g)
  rw [hsb.1, hsb.2] at CS
  rw [l1] at CL
  rw [l3] at CJ
  have FL := Lib.hid l1
  have FJ := Lib.hid l3
  have eqJ : decide (J = J) = true := decide_eq_true rfl
  have eqL : decide (L = L) = true := decide_eq_true rfl
  have hmb : (c.md == 2) = false := by simpa using hmd
  have HQ := Lib.hid hq
  have HBX : Hid (Have w (w.alloc (.cells #[.int .i64 x.bt, .int .i64 x.rw, .int .i64 x.wd, .int .i64 x.md, .int .u64 x.sd, .int .i64 lv, .slice A n0 k0] 61)) [boxT w.heap.size 61 #[.int .i64 x.bt, .int .i64 x.rw, .int .i64 x.wd, .int .i64 x.md, .int .u64 x.sd, .int .i64 lv, .slice A n0 k0]]) := Lib.hid (box_new w _ _)
  clear hr hb8 hbt hkeys i1 i2 i3 n1 n2 n3 hcut hmg l1 l3 hL hM hJ hq hx hC hxa hlv hmd ha a1 b1 c1 dd1 hn hsb
  go_enter Tryz.func6, Tryz.ntmps6
  go_wp2_with (first
    | (go_at_call 22; (with_reducible refine (rsame_any _ _ _ _ _ _ L L _ (midI HVe.out.i0).rd (midI HVe.out.i3).rd FL.out FL.out (by omega) (by omega)).mono ?_); rintro e we ⟨rfl, hb⟩; have HVf := Lib.hid (HVe.out.up hb); clear hb)
    | (go_at_call_of 87 (Value.pointer (some p)); (with_reducible refine (CL.out p F2 _ (exI HVd.out.i6)).mono ?_); rintro e wd ⟨g4, cap4, rfl, h1, h2, -, -, hb⟩; have HVe := Lib.hid (HVd.out.push (midT g4 L) hb h1 (fun k hk => by subst hk; exact h2)); clear h1 h2 hb)
    | (go_at_call 16; (with_reducible refine (CS.out p F1 q G _ (exI HVc.out.i6) (exI HVc.out.i4)).mono ?_); rintro e wc ⟨rfl, F2, h1, h2, h3⟩; have HVd := Lib.hid (HVc.out.turn_6 (exT p F2 c l L) h1 h2 h3); clear h1 h2 h3)
    | (go_at_call 22; (with_reducible refine (rsame_any _ _ _ _ _ _ J J _ (midI HVb.out.i1).rd (midI HVb.out.i0).rd FJ.out FJ.out (by omega) (by omega)).mono ?_); rintro e wb ⟨rfl, hb⟩; have HVc := Lib.hid (HVb.out.up hb); clear hb)
    | (go_at_call_of 87 (Value.pointer (some r)); (with_reducible refine (CJ.out r RR _ (exI HVa.out.i2)).mono ?_); rintro e wa ⟨g3, cap3, rfl, h1, h2, -, -, hb⟩; have HVb := Lib.hid (HVa.out.push (midT g3 J) hb h1 (fun k hk => by subst hk; exact h2)); clear h1 h2 hb)
    | (go_at_call_of 87 (Value.pointer (some p)); (with_reducible refine (CJ.out p F1 _ (exI HV7.out.i4)).mono ?_); rintro e w9 ⟨g2, cap2, rfl, h1, h2, -, -, hb⟩; have HVa := Lib.hid (HV7.out.push (midT g2 J) hb h1 (fun k hk => by subst hk; exact h2)); clear h1 h2 hb)
    | (go_at_call 14; (with_reducible refine (CM.out p F q G _ (exI HV6.out.i4) (exI HV6.out.i2)).mono ?_); rintro e w6 ⟨rfl, F1, h1, h2, h3⟩; have HV7 := Lib.hid (HV6.out.turn_4 (exT p F1 c l J) h1 h2 h3); clear h1 h2 h3; clear e0 e1 e2 e3 e4; obtain ⟨e0, e1, e2, e3, e4⟩ := box5 HV7.out.i3)
    | (go_at_call_of 87 (Value.pointer (some p)); (with_reducible refine (CL.out p F _ (exI HV5.out.i3)).mono ?_); rintro e w5 ⟨g1, cap1, rfl, h1, h2, -, -, hb⟩; have HV6 := Lib.hid (HV5.out.push (midT g1 L) hb h1 (fun k hk => by subst hk; exact h2)); clear h1 h2 hb; clear e0 e1 e2 e3 e4; obtain ⟨e0, e1, e2, e3, e4⟩ := box5 HV6.out.i3)
    | (go_at_call 23; (with_reducible refine (D3.out _ (HQ.out.up HV4.out.below)).mono ?_); rintro e w4 ⟨r, RR, rfl, hv⟩; have HV5 := Lib.hid ((HV4.out.join hv).up (Lw.below_alloc (Below.refl _ _) (.cells #[.int .i64 c.bt, .int .i64 c.rw, .int .i64 c.wd, .int .i64 c.md, .int .u64 c.sd] 24))); simp only [List.cons_append, List.nil_append] at HV5; clear hv; clear x0 x1 x2 x3 x4 x5 x6; clear e0 e1 e2 e3 e4; obtain ⟨e0, e1, e2, e3, e4⟩ := box5 HV5.out.i2)
    | (go_at_call 23; (with_reducible refine (D2.out _ (HQ.out.up HV3.out.below)).mono ?_); rintro e w3 ⟨q, G, rfl, hv⟩; have HV4 := Lib.hid ((HV3.out.join hv).up (Lw.below_alloc (Below.refl _ _) (.cells #[.int .i64 c.bt, .int .i64 c.rw, .int .i64 c.wd, .int .i64 c.md, .int .u64 c.sd] 24))); simp only [List.cons_append, List.nil_append] at HV4; clear hv; clear x0 x1 x2 x3 x4 x5 x6; obtain ⟨x0, x1, x2, x3, x4, x5, x6⟩ := box7 HV4.out.i3; clear e0 e1 e2 e3 e4; obtain ⟨e0, e1, e2, e3, e4⟩ := box5 HV4.out.i1)
    | (go_at_call 23; (with_reducible refine (D1.out _ (HQ.out.up HV1.out.below)).mono ?_); rintro e w2 ⟨p, F, rfl, hv⟩; have HV2 := Lib.hid (HV1.out.join hv); simp only [List.cons_append, List.nil_append] at HV2; clear hv; have HV3 := Lib.hid (HV2.out.push (boxT w2.heap.size 24 #[.int .i64 c.bt, .int .i64 c.rw, .int .i64 c.wd, .int .i64 c.md, .int .u64 c.sd]) (Lw.below_alloc (Below.refl _ _) _) (heap_alloc_new w2 _) (fun k hk => Nat.le_of_eq hk.symm)); clear x0 x1 x2 x3 x4 x5 x6; obtain ⟨x0, x1, x2, x3, x4, x5, x6⟩ := box7 HV3.out.i2; obtain ⟨e0, e1, e2, e3, e4⟩ := box5 HV3.out.i0)
    | (go_at_call 7; (with_reducible refine (shown_any _).mono ?_); rintro e w1 ⟨rfl, hb⟩; have HV1 := Lib.hid (HBX.out.up hb); clear hb; obtain ⟨x0, x1, x2, x3, x4, x5, x6⟩ := box7 HV1.out.i0))
  go_ret
  exact ⟨ret_bs (by first | rfl | (simp [*]; done)), HVf.out.below⟩
set_option maxRecDepth 100000 in
set_option maxHeartbeats 16000000 in
theorem joins_A_con (x : Cfg) (lv : Int) (A : Option Addr) (n0 k0 : Nat) (qs : Ups) (at' : Int) (w : World) (hx : x.Ok) (hlv : -9223372036854775808 ≤ lv ∧ lv ≤ 9223372036854775807) (hq : UpdV w A n0 k0 qs) (c : Cfg) (hC : anyC x 8 9 = c) (X1 l : Int) (a1 : bits .and .i64 lv 65535 = X1) (b1 : 0 ≤ X1) (c1 : X1 ≤ 65535) (dd1 : Int.tmod X1 (c.bt + 1) = l) (ee1 : 0 ≤ l) (ff1 : l < c.bt + 1) (n : Nat) (hn : keys c l = (n : Int)) (hxa : exactB c l = true) (hmd : c.md = 2) :
    Calls Tryz.prog 6 #[.agg #[.int .i64 x.bt, .int .i64 x.rw, .int .i64 x.wd, .int .i64 x.md, .int .u64 x.sd, .int .i64 lv, .slice A n0 k0], .int .i64 at'] w fun e w' => e = .returned (.bool true) ∧ Below w.heap.size w w' := by
  have hr := any_right x 8 9 (by omega) (by omega) (by omega) (by omega)
  have hb8 : (anyC x 8 9).bt ≤ 8 := by
    show 1 + x.bt % 65536 % 8 ≤ 8
    omega
  rw [hC] at hr hb8
  have hbt := hr.1
  have hkeys : 1 ≤ keys c l := keys_pos.2 ⟨hr, by omega, by omega⟩
  obtain ⟨XP, Y, pa1, pb1, pc1, pd1, pe1, pf1⟩ := level_of at' 61 (by omega) (by omega)
  obtain ⟨a, ha⟩ : ∃ a : Nat, Y = a := ⟨Y.toNat, by omega⟩
  have hY : (a : Int) = Y := ha.symm
  have ha60 : a ≤ 60 := by omega
  have D1 := Lib.hid (fun w hq => fed_A x lv A n0 k0 qs 0 Y 0 a c l w hx hlv hq rfl ha (by omega) (by omega) hC X1 a1 b1 c1 dd1 ee1 ff1 n hn hxa)
  have D2 := Lib.hid (fun w hq => fed_A x lv A n0 k0 qs Y 60 a 60 c l w hx hlv hq ha rfl (by omega) (by omega) hC X1 a1 b1 c1 dd1 ee1 ff1 n hn hxa)
  have D3 := Lib.hid (fun w hq => fed_A x lv A n0 k0 qs 0 60 0 60 c l w hx hlv hq rfl rfl (by omega) (by omega) hC X1 a1 b1 c1 dd1 ee1 ff1 n hn hxa)
  have i1 := upsR_in hkeys qs 0 a
  have i2 := upsR_in hkeys qs a 60
  have i3 := upsR_in hkeys qs 0 60
  have n1 : (upsR c l qs 0 a).length ≤ 60 := Nat.le_trans (upsR_len c l qs 0 a) (by omega)
  have n2 := upsR_len c l qs a 60
  have n3 := upsR_len c l qs 0 60
  have hcut := ups_cut c l qs (a := a) ha60
  have hmg := mergeA_sum (c := c) (l := l) (K := n) i1 i2 n1 n2
  rw [hcut] at hmg
  have l1 := sums_len n (upsR c l qs 0 a)
  have l3 := sums_len n (upsR c l qs 0 60)
  have hn8 : n ≤ 128 := by have := exact_len hxa; omega
  obtain ⟨L, hL⟩ : ∃ L, sums n (upsR c l qs 0 a) = L := ⟨_, rfl⟩
  obtain ⟨M, hM⟩ : ∃ M, sums n (upsR c l qs a 60) = M := ⟨_, rfl⟩
  obtain ⟨J, hJ⟩ : ∃ J, sums n (upsR c l qs 0 60) = J := ⟨_, rfl⟩
  rw [hL] at D1 hmg l1
  rw [hM] at D2 hmg
  rw [hJ] at D3 l3 hmg
  have CL := Lib.hid (fun p F w h => ecells_mid p F c l L w h)
  have CJ := Lib.hid (fun p F w h => ecells_mid p F c l J w h)
  have CM := Lib.hid (fun p F q G w h g => vmerge_A p F c l L q G c l M w h g)
  rw [hmg.1, hmg.2] at CM
  have CS := Lib.hid (fun p F q G w h g => vsub_A p F c l J q G c l M w h g)
  rw [(mgA_c hmd).1, (mgA_c hmd).2] at CS
  rw [l1] at CL
  rw [l3] at CJ
  have FL := Lib.hid l1
  have FJ := Lib.hid l3
  have eqJ : decide (J = J) = true := decide_eq_true rfl
  have eqL : decide (L = L) = true := decide_eq_true rfl
  have hmb : (c.md == 2) = true := by simp [hmd]
  have HQ := Lib.hid hq
  have HBX : Hid (Have w (w.alloc (.cells #[.int .i64 x.bt, .int .i64 x.rw, .int .i64 x.wd, .int .i64 x.md, .int .u64 x.sd, .int .i64 lv, .slice A n0 k0] 61)) [boxT w.heap.size 61 #[.int .i64 x.bt, .int .i64 x.rw, .int .i64 x.wd, .int .i64 x.md, .int .u64 x.sd, .int .i64 lv, .slice A n0 k0]]) := Lib.hid (box_new w _ _)
  clear hr hb8 hbt hkeys i1 i2 i3 n1 n2 n3 hcut hmg l1 l3 hL hM hJ hq hx hC hxa hlv hmd ha a1 b1 c1 dd1 hn
  go_enter Tryz.func6, Tryz.ntmps6
  go_wp2_with (first
    | (go_at_call 22; (with_reducible refine (rsame_any _ _ _ _ _ _ J J _ (midI HVb.out.i1).rd (midI HVb.out.i0).rd FJ.out FJ.out (by omega) (by omega)).mono ?_); rintro e wb ⟨rfl, hb⟩; have HVc := Lib.hid (HVb.out.up hb); clear hb)
    | (go_at_call_of 87 (Value.pointer (some r)); (with_reducible refine (CJ.out r RR _ (exI HVa.out.i2)).mono ?_); rintro e wa ⟨g3, cap3, rfl, h1, h2, -, -, hb⟩; have HVb := Lib.hid (HVa.out.push (midT g3 J) hb h1 (fun k hk => by subst hk; exact h2)); clear h1 h2 hb)
    | (go_at_call_of 87 (Value.pointer (some p)); (with_reducible refine (CJ.out p F2 _ (exI HV9.out.i4)).mono ?_); rintro e w9 ⟨g2, cap2, rfl, h1, h2, -, -, hb⟩; have HVa := Lib.hid (HV9.out.push (midT g2 J) hb h1 (fun k hk => by subst hk; exact h2)); clear h1 h2 hb)
    | (go_at_call 16; (with_reducible refine (CS.out p F1 q G _ (exI HV8.out.i4) (exI HV8.out.i2)).mono ?_); rintro e w8 ⟨rfl, F2, h1, h2, h3⟩; have HV9 := Lib.hid (HV8.out.turn_4 (exT p F2 c l J) h1 h2 h3); clear h1 h2 h3)
    | (go_at_call 25; (with_reducible refine (vas_A p _).mono ?_); rintro e w7 ⟨rfl, hb⟩; have HV8 := Lib.hid (HV7.out.up hb); clear hb)
    | (go_at_call 14; (with_reducible refine (CM.out p F q G _ (exI HV6.out.i4) (exI HV6.out.i2)).mono ?_); rintro e w6 ⟨rfl, F1, h1, h2, h3⟩; have HV7 := Lib.hid (HV6.out.turn_4 (exT p F1 c l J) h1 h2 h3); clear h1 h2 h3; clear e0 e1 e2 e3 e4; obtain ⟨e0, e1, e2, e3, e4⟩ := box5 HV7.out.i3)
    | (go_at_call_of 87 (Value.pointer (some p)); (with_reducible refine (CL.out p F _ (exI HV5.out.i3)).mono ?_); rintro e w5 ⟨g1, cap1, rfl, h1, h2, -, -, hb⟩; have HV6 := Lib.hid (HV5.out.push (midT g1 L) hb h1 (fun k hk => by subst hk; exact h2)); clear h1 h2 hb; clear e0 e1 e2 e3 e4; obtain ⟨e0, e1, e2, e3, e4⟩ := box5 HV6.out.i3)
    | (go_at_call 23; (with_reducible refine (D3.out _ (HQ.out.up HV4.out.below)).mono ?_); rintro e w4 ⟨r, RR, rfl, hv⟩; have HV5 := Lib.hid ((HV4.out.join hv).up (Lw.below_alloc (Below.refl _ _) (.cells #[.int .i64 c.bt, .int .i64 c.rw, .int .i64 c.wd, .int .i64 c.md, .int .u64 c.sd] 24))); simp only [List.cons_append, List.nil_append] at HV5; clear hv; clear x0 x1 x2 x3 x4 x5 x6; clear e0 e1 e2 e3 e4; obtain ⟨e0, e1, e2, e3, e4⟩ := box5 HV5.out.i2)
    | (go_at_call 23; (with_reducible refine (D2.out _ (HQ.out.up HV3.out.below)).mono ?_); rintro e w3 ⟨q, G, rfl, hv⟩; have HV4 := Lib.hid ((HV3.out.join hv).up (Lw.below_alloc (Below.refl _ _) (.cells #[.int .i64 c.bt, .int .i64 c.rw, .int .i64 c.wd, .int .i64 c.md, .int .u64 c.sd] 24))); simp only [List.cons_append, List.nil_append] at HV4; clear hv; clear x0 x1 x2 x3 x4 x5 x6; obtain ⟨x0, x1, x2, x3, x4, x5, x6⟩ := box7 HV4.out.i3; clear e0 e1 e2 e3 e4; obtain ⟨e0, e1, e2, e3, e4⟩ := box5 HV4.out.i1)
    | (go_at_call 23; (with_reducible refine (D1.out _ (HQ.out.up HV1.out.below)).mono ?_); rintro e w2 ⟨p, F, rfl, hv⟩; have HV2 := Lib.hid (HV1.out.join hv); simp only [List.cons_append, List.nil_append] at HV2; clear hv; have HV3 := Lib.hid (HV2.out.push (boxT w2.heap.size 24 #[.int .i64 c.bt, .int .i64 c.rw, .int .i64 c.wd, .int .i64 c.md, .int .u64 c.sd]) (Lw.below_alloc (Below.refl _ _) _) (heap_alloc_new w2 _) (fun k hk => Nat.le_of_eq hk.symm)); clear x0 x1 x2 x3 x4 x5 x6; obtain ⟨x0, x1, x2, x3, x4, x5, x6⟩ := box7 HV3.out.i2; obtain ⟨e0, e1, e2, e3, e4⟩ := box5 HV3.out.i0)
    | (go_at_call 7; (with_reducible refine (shown_any _).mono ?_); rintro e w1 ⟨rfl, hb⟩; have HV1 := Lib.hid (HBX.out.up hb); clear hb; obtain ⟨x0, x1, x2, x3, x4, x5, x6⟩ := box7 HV1.out.i0))
  go_ret
  exact ⟨ret_bs (by first | rfl | (simp [*]; done)), HVc.out.below⟩
set_option maxRecDepth 100000 in
set_option maxHeartbeats 16000000 in
theorem joins_S_lin (x : Cfg) (lv : Int) (A : Option Addr) (n0 k0 : Nat) (qs : Ups) (at' : Int) (w : World) (hx : x.Ok) (hlv : -9223372036854775808 ≤ lv ∧ lv ≤ 9223372036854775807) (hq : UpdV w A n0 k0 qs) (c : Cfg) (hC : anyC x 8 9 = c) (X1 l : Int) (a1 : bits .and .i64 lv 65535 = X1) (b1 : 0 ≤ X1) (c1 : X1 ≤ 65535) (dd1 : Int.tmod X1 (c.bt + 1) = l) (ee1 : 0 ≤ l) (ff1 : l < c.bt + 1) (hxa : exactB c l = false) (hmd : ¬ c.md = 2) :
    Calls Tryz.prog 6 #[.agg #[.int .i64 x.bt, .int .i64 x.rw, .int .i64 x.wd, .int .i64 x.md, .int .u64 x.sd, .int .i64 lv, .slice A n0 k0], .int .i64 at'] w fun e w' => e = .returned (.bool true) ∧ Below w.heap.size w w' := by
  have hr := any_right x 8 9 (by omega) (by omega) (by omega) (by omega)
  have hb8 : (anyC x 8 9).bt ≤ 8 := by
    show 1 + x.bt % 65536 % 8 ≤ 8
    omega
  rw [hC] at hr hb8
  have hbt := hr.1
  have hkeys : 1 ≤ keys c l := keys_pos.2 ⟨hr, by omega, by omega⟩
  obtain ⟨XP, Y, pa1, pb1, pc1, pd1, pe1, pf1⟩ := level_of at' 61 (by omega) (by omega)
  obtain ⟨a, ha⟩ : ∃ a : Nat, Y = a := ⟨Y.toNat, by omega⟩
  have hY : (a : Int) = Y := ha.symm
  have ha60 : a ≤ 60 := by omega
  have D1 := Lib.hid (fun w hq => fed_S x lv A n0 k0 qs 0 Y 0 a c l w hx hlv hq rfl ha (by omega) (by omega) hC X1 a1 b1 c1 dd1 ee1 ff1 hxa)
  have D2 := Lib.hid (fun w hq => fed_S x lv A n0 k0 qs Y 60 a 60 c l w hx hlv hq ha rfl (by omega) (by omega) hC X1 a1 b1 c1 dd1 ee1 ff1 hxa)
  have D3 := Lib.hid (fun w hq => fed_S x lv A n0 k0 qs 0 60 0 60 c l w hx hlv hq rfl rfl (by omega) (by omega) hC X1 a1 b1 c1 dd1 ee1 ff1 hxa)
  have i1 := upsR_in hkeys qs 0 a
  have i2 := upsR_in hkeys qs a 60
  have i3 := upsR_in hkeys qs 0 60
  have n1 : (upsR c l qs 0 a).length ≤ 60 := Nat.le_trans (upsR_len c l qs 0 a) (by omega)
  have n2 := upsR_len c l qs a 60
  have n3 := upsR_len c l qs 0 60
  have hcut := ups_cut c l qs (a := a) ha60
  have hmg := merge_lin (l := l) hr hmd i1.1 i2.1 n1 n2
  have hsum := merge_sum hr hmd i1 i2 n1 n2
  rw [hcut] at hmg hsum
  have d1 := cells_dims hr i1 n1 hmd
  have d2 := cells_dims hr i2 n2 hmd
  have hsb := sub_back (l := l) hmd d1 d2 hsum
  have l1 := lsz_flat (cells_sz i1)
  have l3 := lsz_flat (cells_sz i3)
  have hq9 : rws c * wds c ≤ 1024 := Nat.mul_le_mul (rws_bd hr).2.1 (wds_bd hr).2.1
  obtain ⟨L, hL⟩ : ∃ L, cells c l (upsR c l qs 0 a) = L := ⟨_, rfl⟩
  obtain ⟨M, hM⟩ : ∃ M, cells c l (upsR c l qs a 60) = M := ⟨_, rfl⟩
  obtain ⟨J, hJ⟩ : ∃ J, cells c l (upsR c l qs 0 60) = J := ⟨_, rfl⟩
  rw [hL] at D1 hmg l1 hsb
  rw [hM] at D2 hmg hsb
  rw [hJ] at D3 l3 hmg hsb
  have CL := Lib.hid (fun p F w h => scells_mid p F c l L w h)
  have CJ := Lib.hid (fun p F w h => scells_mid p F c l J w h)
  have CM := Lib.hid (fun p F q G w h g => vmerge_S p F c l L q G c l M w h g)
  rw [hmg.1, hmg.2] at CM
  have CS := Lib.hid (fun p F q G w h g => vsub_S p F c l J q G c l M w h g)
  rw [hsb.1, hsb.2] at CS
  obtain ⟨Q, hQ⟩ : ∃ Q, rws c * wds c = Q := ⟨_, rfl⟩
  rw [hQ] at CL CJ l1 l3 hq9
  have FL := Lib.hid l1
  have FJ := Lib.hid l3
  have eqJ : decide (J.flatten = J.flatten) = true := decide_eq_true rfl
  have eqL : decide (L.flatten = L.flatten) = true := decide_eq_true rfl
  have hmb : (c.md == 2) = false := by simpa using hmd
  have HQ := Lib.hid hq
  have HBX : Hid (Have w (w.alloc (.cells #[.int .i64 x.bt, .int .i64 x.rw, .int .i64 x.wd, .int .i64 x.md, .int .u64 x.sd, .int .i64 lv, .slice A n0 k0] 61)) [boxT w.heap.size 61 #[.int .i64 x.bt, .int .i64 x.rw, .int .i64 x.wd, .int .i64 x.md, .int .u64 x.sd, .int .i64 lv, .slice A n0 k0]]) := Lib.hid (box_new w _ _)
  clear hr hb8 hbt hkeys i1 i2 i3 n1 n2 n3 hcut hmg l1 l3 hL hM hJ hq hx hC hxa hlv hmd ha a1 b1 c1 dd1 hQ hsb d1 d2 hsum
  go_enter Tryz.func6, Tryz.ntmps6
  go_wp2_with (first
    | (go_at_call 22; (with_reducible refine (rsame_any _ _ _ _ _ _ L.flatten L.flatten _ (midI HVe.out.i0).rd (midI HVe.out.i3).rd FL.out FL.out (by omega) (by omega)).mono ?_); rintro e we ⟨rfl, hb⟩; have HVf := Lib.hid (HVe.out.up hb); clear hb)
    | (go_at_call_of 81 (Value.pointer (some p)); (with_reducible refine (CL.out p F2 _ (skI HVd.out.i6)).mono ?_); rintro e wd ⟨g4, cap4, rfl, h1, h2, -, -, hb⟩; have HVe := Lib.hid (HVd.out.push (midT g4 L.flatten) hb h1 (fun k hk => by subst hk; exact h2)); clear h1 h2 hb)
    | (go_at_call 16; (with_reducible refine (CS.out p F1 q G _ (skI HVc.out.i6) (skI HVc.out.i4)).mono ?_); rintro e wc ⟨rfl, F2, h1, h2, h3⟩; have HVd := Lib.hid (HVc.out.turn_6 (skT p F2 c l L) h1 h2 h3); clear h1 h2 h3)
    | (go_at_call 22; (with_reducible refine (rsame_any _ _ _ _ _ _ J.flatten J.flatten _ (midI HVb.out.i1).rd (midI HVb.out.i0).rd FJ.out FJ.out (by omega) (by omega)).mono ?_); rintro e wb ⟨rfl, hb⟩; have HVc := Lib.hid (HVb.out.up hb); clear hb)
    | (go_at_call_of 81 (Value.pointer (some r)); (with_reducible refine (CJ.out r RR _ (skI HVa.out.i2)).mono ?_); rintro e wa ⟨g3, cap3, rfl, h1, h2, -, -, hb⟩; have HVb := Lib.hid (HVa.out.push (midT g3 J.flatten) hb h1 (fun k hk => by subst hk; exact h2)); clear h1 h2 hb)
    | (go_at_call_of 81 (Value.pointer (some p)); (with_reducible refine (CJ.out p F1 _ (skI HV7.out.i4)).mono ?_); rintro e w9 ⟨g2, cap2, rfl, h1, h2, -, -, hb⟩; have HVa := Lib.hid (HV7.out.push (midT g2 J.flatten) hb h1 (fun k hk => by subst hk; exact h2)); clear h1 h2 hb)
    | (go_at_call 14; (with_reducible refine (CM.out p F q G _ (skI HV6.out.i4) (skI HV6.out.i2)).mono ?_); rintro e w6 ⟨rfl, F1, h1, h2, h3⟩; have HV7 := Lib.hid (HV6.out.turn_4 (skT p F1 c l J) h1 h2 h3); clear h1 h2 h3; clear e0 e1 e2 e3 e4; obtain ⟨e0, e1, e2, e3, e4⟩ := box5 HV7.out.i3)
    | (go_at_call_of 81 (Value.pointer (some p)); (with_reducible refine (CL.out p F _ (skI HV5.out.i3)).mono ?_); rintro e w5 ⟨g1, cap1, rfl, h1, h2, -, -, hb⟩; have HV6 := Lib.hid (HV5.out.push (midT g1 L.flatten) hb h1 (fun k hk => by subst hk; exact h2)); clear h1 h2 hb; clear e0 e1 e2 e3 e4; obtain ⟨e0, e1, e2, e3, e4⟩ := box5 HV6.out.i3)
    | (go_at_call 23; (with_reducible refine (D3.out _ (HQ.out.up HV4.out.below)).mono ?_); rintro e w4 ⟨r, RR, rfl, hv⟩; have HV5 := Lib.hid ((HV4.out.join hv).up (Lw.below_alloc (Below.refl _ _) (.cells #[.int .i64 c.bt, .int .i64 c.rw, .int .i64 c.wd, .int .i64 c.md, .int .u64 c.sd] 24))); simp only [List.cons_append, List.nil_append] at HV5; clear hv; clear x0 x1 x2 x3 x4 x5 x6; clear e0 e1 e2 e3 e4; obtain ⟨e0, e1, e2, e3, e4⟩ := box5 HV5.out.i2)
    | (go_at_call 23; (with_reducible refine (D2.out _ (HQ.out.up HV3.out.below)).mono ?_); rintro e w3 ⟨q, G, rfl, hv⟩; have HV4 := Lib.hid ((HV3.out.join hv).up (Lw.below_alloc (Below.refl _ _) (.cells #[.int .i64 c.bt, .int .i64 c.rw, .int .i64 c.wd, .int .i64 c.md, .int .u64 c.sd] 24))); simp only [List.cons_append, List.nil_append] at HV4; clear hv; clear x0 x1 x2 x3 x4 x5 x6; obtain ⟨x0, x1, x2, x3, x4, x5, x6⟩ := box7 HV4.out.i3; clear e0 e1 e2 e3 e4; obtain ⟨e0, e1, e2, e3, e4⟩ := box5 HV4.out.i1)
    | (go_at_call 23; (with_reducible refine (D1.out _ (HQ.out.up HV1.out.below)).mono ?_); rintro e w2 ⟨p, F, rfl, hv⟩; have HV2 := Lib.hid (HV1.out.join hv); simp only [List.cons_append, List.nil_append] at HV2; clear hv; have HV3 := Lib.hid (HV2.out.push (boxT w2.heap.size 24 #[.int .i64 c.bt, .int .i64 c.rw, .int .i64 c.wd, .int .i64 c.md, .int .u64 c.sd]) (Lw.below_alloc (Below.refl _ _) _) (heap_alloc_new w2 _) (fun k hk => Nat.le_of_eq hk.symm)); clear x0 x1 x2 x3 x4 x5 x6; obtain ⟨x0, x1, x2, x3, x4, x5, x6⟩ := box7 HV3.out.i2; obtain ⟨e0, e1, e2, e3, e4⟩ := box5 HV3.out.i0)
    | (go_at_call 7; (with_reducible refine (shown_any _).mono ?_); rintro e w1 ⟨rfl, hb⟩; have HV1 := Lib.hid (HBX.out.up hb); clear hb; obtain ⟨x0, x1, x2, x3, x4, x5, x6⟩ := box7 HV1.out.i0))
  go_ret
  exact ⟨ret_bs (by first | rfl | (simp [*]; done)), HVf.out.below⟩
set_option maxRecDepth 100000 in
set_option maxHeartbeats 16000000 in
theorem joins_S_con (x : Cfg) (lv : Int) (A : Option Addr) (n0 k0 : Nat) (qs : Ups) (at' : Int) (w : World) (hx : x.Ok) (hlv : -9223372036854775808 ≤ lv ∧ lv ≤ 9223372036854775807) (hq : UpdV w A n0 k0 qs) (c : Cfg) (hC : anyC x 8 9 = c) (X1 l : Int) (a1 : bits .and .i64 lv 65535 = X1) (b1 : 0 ≤ X1) (c1 : X1 ≤ 65535) (dd1 : Int.tmod X1 (c.bt + 1) = l) (ee1 : 0 ≤ l) (ff1 : l < c.bt + 1) (hxa : exactB c l = false) (hmd : c.md = 2) :
    Calls Tryz.prog 6 #[.agg #[.int .i64 x.bt, .int .i64 x.rw, .int .i64 x.wd, .int .i64 x.md, .int .u64 x.sd, .int .i64 lv, .slice A n0 k0], .int .i64 at'] w fun e w' => e = .returned (.bool true) ∧ Below w.heap.size w w' := by
  have hr := any_right x 8 9 (by omega) (by omega) (by omega) (by omega)
  have hb8 : (anyC x 8 9).bt ≤ 8 := by
    show 1 + x.bt % 65536 % 8 ≤ 8
    omega
  rw [hC] at hr hb8
  have hbt := hr.1
  have hkeys : 1 ≤ keys c l := keys_pos.2 ⟨hr, by omega, by omega⟩
  obtain ⟨XP, Y, pa1, pb1, pc1, pd1, pe1, pf1⟩ := level_of at' 61 (by omega) (by omega)
  obtain ⟨a, ha⟩ : ∃ a : Nat, Y = a := ⟨Y.toNat, by omega⟩
  have hY : (a : Int) = Y := ha.symm
  have ha60 : a ≤ 60 := by omega
  have D1 := Lib.hid (fun w hq => fed_S x lv A n0 k0 qs 0 Y 0 a c l w hx hlv hq rfl ha (by omega) (by omega) hC X1 a1 b1 c1 dd1 ee1 ff1 hxa)
  have D2 := Lib.hid (fun w hq => fed_S x lv A n0 k0 qs Y 60 a 60 c l w hx hlv hq ha rfl (by omega) (by omega) hC X1 a1 b1 c1 dd1 ee1 ff1 hxa)
  have D3 := Lib.hid (fun w hq => fed_S x lv A n0 k0 qs 0 60 0 60 c l w hx hlv hq rfl rfl (by omega) (by omega) hC X1 a1 b1 c1 dd1 ee1 ff1 hxa)
  have i1 := upsR_in hkeys qs 0 a
  have i2 := upsR_in hkeys qs a 60
  have i3 := upsR_in hkeys qs 0 60
  have n1 : (upsR c l qs 0 a).length ≤ 60 := Nat.le_trans (upsR_len c l qs 0 a) (by omega)
  have n2 := upsR_len c l qs a 60
  have n3 := upsR_len c l qs 0 60
  have hcut := ups_cut c l qs (a := a) ha60
  have hmg := mergeS_con hmd i1 i2 n1 n2
  have l1 := lsz_flat (cells_sz i1)
  have l3 := lsz_flat (cells_sz i3)
  have hq9 : rws c * wds c ≤ 1024 := Nat.mul_le_mul (rws_bd hr).2.1 (wds_bd hr).2.1
  obtain ⟨L, hL⟩ : ∃ L, cells c l (upsR c l qs 0 a) = L := ⟨_, rfl⟩
  obtain ⟨M, hM⟩ : ∃ M, cells c l (upsR c l qs a 60) = M := ⟨_, rfl⟩
  obtain ⟨J, hJ⟩ : ∃ J, cells c l (upsR c l qs 0 60) = J := ⟨_, rfl⟩
  rw [hL] at D1 hmg l1
  rw [hM] at D2 hmg
  rw [hJ] at D3 l3
  have CL := Lib.hid (fun p F w h => scells_mid p F c l L w h)
  have CJ := Lib.hid (fun p F w h => scells_mid p F c l J w h)
  have CM := Lib.hid (fun p F q G w h g => vmerge_S p F c l L q G c l M w h g)
  obtain ⟨JJ, hJJ⟩ : ∃ JJ, mgRes 1 c c l l L M = JJ := ⟨_, rfl⟩
  rw [hmg, hJJ] at CM
  have CS := Lib.hid (fun p F q G w h g => vsub_S p F c l JJ q G c l M w h g)
  rw [(mgS_c hmd).1, (mgS_c hmd).2] at CS
  obtain ⟨Q, hQ⟩ : ∃ Q, rws c * wds c = Q := ⟨_, rfl⟩
  rw [hQ] at CL CJ l1 l3 hq9
  have FL := Lib.hid l1
  have FJ := Lib.hid l3
  have eqJ : decide (J.flatten = J.flatten) = true := decide_eq_true rfl
  have eqL : decide (L.flatten = L.flatten) = true := decide_eq_true rfl
  have hmb : (c.md == 2) = true := by simp [hmd]
  have HQ := Lib.hid hq
  have HBX : Hid (Have w (w.alloc (.cells #[.int .i64 x.bt, .int .i64 x.rw, .int .i64 x.wd, .int .i64 x.md, .int .u64 x.sd, .int .i64 lv, .slice A n0 k0] 61)) [boxT w.heap.size 61 #[.int .i64 x.bt, .int .i64 x.rw, .int .i64 x.wd, .int .i64 x.md, .int .u64 x.sd, .int .i64 lv, .slice A n0 k0]]) := Lib.hid (box_new w _ _)
  clear hr hb8 hbt hkeys i1 i2 i3 n1 n2 n3 hcut hmg l1 l3 hL hM hJ hq hx hC hxa hlv hmd ha a1 b1 c1 dd1 hQ hJJ
  go_enter Tryz.func6, Tryz.ntmps6
  go_wp2_with (first
    | (go_at_call 16; (with_reducible refine (CS.out p F1 q G _ (skI HV8.out.i4) (skI HV8.out.i2)).mono ?_); rintro e w8 ⟨rfl, F2, h1, h2, h3⟩; have HV9 := Lib.hid (HV8.out.turn_4 (skT p F2 c l JJ) h1 h2 h3); clear h1 h2 h3)
    | (go_at_call 25; (with_reducible refine (vas_S p _).mono ?_); rintro e w7 ⟨rfl, hb⟩; have HV8 := Lib.hid (HV7.out.up hb); clear hb)
    | (go_at_call 14; (with_reducible refine (CM.out p F q G _ (skI HV6.out.i4) (skI HV6.out.i2)).mono ?_); rintro e w6 ⟨rfl, F1, h1, h2, h3⟩; have HV7 := Lib.hid (HV6.out.turn_4 (skT p F1 c l JJ) h1 h2 h3); clear h1 h2 h3; clear e0 e1 e2 e3 e4; obtain ⟨e0, e1, e2, e3, e4⟩ := box5 HV7.out.i3)
    | (go_at_call_of 81 (Value.pointer (some p)); (with_reducible refine (CL.out p F _ (skI HV5.out.i3)).mono ?_); rintro e w5 ⟨g1, cap1, rfl, h1, h2, -, -, hb⟩; have HV6 := Lib.hid (HV5.out.push (midT g1 L.flatten) hb h1 (fun k hk => by subst hk; exact h2)); clear h1 h2 hb; clear e0 e1 e2 e3 e4; obtain ⟨e0, e1, e2, e3, e4⟩ := box5 HV6.out.i3)
    | (go_at_call 23; (with_reducible refine (D3.out _ (HQ.out.up HV4.out.below)).mono ?_); rintro e w4 ⟨r, RR, rfl, hv⟩; have HV5 := Lib.hid ((HV4.out.join hv).up (Lw.below_alloc (Below.refl _ _) (.cells #[.int .i64 c.bt, .int .i64 c.rw, .int .i64 c.wd, .int .i64 c.md, .int .u64 c.sd] 24))); simp only [List.cons_append, List.nil_append] at HV5; clear hv; clear x0 x1 x2 x3 x4 x5 x6; clear e0 e1 e2 e3 e4; obtain ⟨e0, e1, e2, e3, e4⟩ := box5 HV5.out.i2)
    | (go_at_call 23; (with_reducible refine (D2.out _ (HQ.out.up HV3.out.below)).mono ?_); rintro e w3 ⟨q, G, rfl, hv⟩; have HV4 := Lib.hid ((HV3.out.join hv).up (Lw.below_alloc (Below.refl _ _) (.cells #[.int .i64 c.bt, .int .i64 c.rw, .int .i64 c.wd, .int .i64 c.md, .int .u64 c.sd] 24))); simp only [List.cons_append, List.nil_append] at HV4; clear hv; clear x0 x1 x2 x3 x4 x5 x6; obtain ⟨x0, x1, x2, x3, x4, x5, x6⟩ := box7 HV4.out.i3; clear e0 e1 e2 e3 e4; obtain ⟨e0, e1, e2, e3, e4⟩ := box5 HV4.out.i1)
    | (go_at_call 23; (with_reducible refine (D1.out _ (HQ.out.up HV1.out.below)).mono ?_); rintro e w2 ⟨p, F, rfl, hv⟩; have HV2 := Lib.hid (HV1.out.join hv); simp only [List.cons_append, List.nil_append] at HV2; clear hv; have HV3 := Lib.hid (HV2.out.push (boxT w2.heap.size 24 #[.int .i64 c.bt, .int .i64 c.rw, .int .i64 c.wd, .int .i64 c.md, .int .u64 c.sd]) (Lw.below_alloc (Below.refl _ _) _) (heap_alloc_new w2 _) (fun k hk => Nat.le_of_eq hk.symm)); clear x0 x1 x2 x3 x4 x5 x6; obtain ⟨x0, x1, x2, x3, x4, x5, x6⟩ := box7 HV3.out.i2; obtain ⟨e0, e1, e2, e3, e4⟩ := box5 HV3.out.i0)
    | (go_at_call 7; (with_reducible refine (shown_any _).mono ?_); rintro e w1 ⟨rfl, hb⟩; have HV1 := Lib.hid (HBX.out.up hb); clear hb; obtain ⟨x0, x1, x2, x3, x4, x5, x6⟩ := box7 HV1.out.i0))
  go_ret
  exact ⟨ret_bs (by first | rfl | (simp [*]; done)), HV9.out.below⟩
theorem joins_law (x : Cfg) (lv : Int) (A : Option Addr) (n0 k0 : Nat) (qs : Ups) (at' : Int) (w : World) (hx : x.Ok) (hlv : -9223372036854775808 ≤ lv ∧ lv ≤ 9223372036854775807) (hq : UpdV w A n0 k0 qs) :
    Calls Tryz.prog 6 #[.agg #[.int .i64 x.bt, .int .i64 x.rw, .int .i64 x.wd, .int .i64 x.md, .int .u64 x.sd, .int .i64 lv, .slice A n0 k0], .int .i64 at'] w fun e w' => e = .returned (.bool true) ∧ Below w.heap.size w w' := by
  obtain ⟨c, hC⟩ : ∃ c, anyC x 8 9 = c := ⟨_, rfl⟩
  have hr := any_right x 8 9 (by omega) (by omega) (by omega) (by omega)
  have hb8 : (anyC x 8 9).bt ≤ 8 := by
    show 1 + x.bt % 65536 % 8 ≤ 8
    omega
  rw [hC] at hr hb8
  have hbt := hr.1
  obtain ⟨X, l, a1, b1, c1, dd1, ee1, ff1⟩ := level_of lv (c.bt + 1) (by omega) (by omega)
  by_cases hm : c.md = 2
  all_goals cases hx2 : exactB c l
  · exact joins_S_con x lv A n0 k0 qs at' w hx hlv hq c hC X l a1 b1 c1 dd1 ee1 ff1 hx2 hm
  · obtain ⟨n, hn⟩ : ∃ n : Nat, keys c l = (n : Int) := ⟨(keys c l).toNat, by have := exact_len hx2; omega⟩
    exact joins_A_con x lv A n0 k0 qs at' w hx hlv hq c hC X l a1 b1 c1 dd1 ee1 ff1 n hn hx2 hm
  · exact joins_S_lin x lv A n0 k0 qs at' w hx hlv hq c hC X l a1 b1 c1 dd1 ee1 ff1 hx2 hm
  · obtain ⟨n, hn⟩ : ∃ n : Nat, keys c l = (n : Int) := ⟨(keys c l).toNat, by have := exact_len hx2; omega⟩
    exact joins_A_lin x lv A n0 k0 qs at' w hx hlv hq c hC X l a1 b1 c1 dd1 ee1 ff1 n hn hx2 hm
namespace levelJoins
open Go.ChangeShapes Go.WideShapes Go.ChangeAt Go.Joins
set_option maxRecDepth 100000 in
theorem lifted (os : Os) (started : os.Started) (H : Type) (enc : TypeId × Value → H) :
    ReturnsInHanded {} Tryz.checked os 6 .any (Rows.levelJoinsSpec.pre6 enc Tryz.prog Tryz.f6 Rows.levelJoinsRow.domain false) (Rows.levelJoinsSpec.post enc Tryz.prog Tryz.f6 false true false false) := by
  refine Lw.lifted (C := Tryz.checked) (B := 4) (by kernel_rfl) os started (by kernel_rfl) Tryz.func6
    (ChangeSpec.witness6 (enc := enc) (C := Tryz.checked) false ⟨#[], #[.agg #[.int .i64 0, .int .i64 0, .int .i64 0, .int .i64 0, .int .u64 0, .int .i64 0, .slice none 0 0], .int .i64 0], []⟩ 8 (by kernel_rfl) (by kernel_rfl) (by kernel_rfl) (by kernel_rfl)) rfl Tryz.underlying4 (by kernel_rfl) (by kernel_rfl) (by kernel_rfl) ?_ ?_
  · intro ds h
    rw [Tryz.params6] at h
    match ds, h with
    | [_, _], _ => rfl
  · intro W base args ds p hval hA
    rw [Tryz.params6] at hA hval
    obtain ⟨v0, vs0, d0, ds0, p0, q0, hargs, rfl, rfl, h0, r0⟩ := trodAll_cons hA
    obtain ⟨v1, vs1, d1, ds1, p1, q1, rfl, rfl, rfl, h1, r1⟩ := trodAll_cons r0
    obtain ⟨rfl, rfl, rfl⟩ := trodAll_nil r1
    obtain rfl : args = #[v0, v1] := by cases args; simp_all
    obtain ⟨x0, lv0, A0, n0, k0, qs0, rfl, hx0, hlv0, hq0⟩ := open_playV (hval 0 61 v0 rfl rfl) h0
    obtain ⟨a1, rfl, rfl, rfl, w1⟩ := open_int Tryz.underlying3 (hval 1 3 v1 rfl rfl) h1
    have b1 := Lw.wf_i64 w1
    exact joins_law x0 lv0 A0 n0 k0 qs0 a1 W hx0 hlv0 hq0
theorem over : Rows.levelJoinsRow.holds Tryz.pinned (OpenSpec.ofChange Rows.levelJoinsSpec) :=
  OpenClaim.holds_of_wide 6 Tryz.f6 rfl rfl rfl rfl rfl rfl rfl ⟨rfl, rfl, rfl, rfl, rfl⟩ rfl rfl rfl rfl rfl (by kernel_rfl) Tryz.func6 (by kernel_rfl)
    (of_decide_eq_true (by kernel_rfl)) (by unfold Func.isWrapper; first | (rw [if_pos (by decide +kernel)]; kernel_rfl) | (rw [if_neg (by decide +kernel)]; exact ⟨rfl, rfl⟩))
    (fun os started H enc _ => lifted os started H enc)
theorem proved : Rows.LevelJoinsSaid :=
  over
#print axioms proved
end levelJoins
end Go.Proofs.YtkannodfamnmcaaGreat.Lev
