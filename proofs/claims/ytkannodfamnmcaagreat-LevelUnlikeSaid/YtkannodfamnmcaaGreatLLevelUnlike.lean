/- The statement LevelUnlike of layer 13 holds: levels that are not of one config and number are not put together. Printed by wip/gen/levlaws.py. -/
import Derived.Test.YtkannodfamnmcaaGreatMm
import Derived.Deep.LoopGhost
import Derived.Deep.RegionHeld3
import Derived.Deep.DeepCutAuto
import Derived.Deep.QuietTactic
import Derived.BigQuiet
namespace Go.Proofs.YtkannodfamnmcaaGreat.Lev
open Go Go.RowKit Lw Grd Lin Con Shp Sk Exa Inn
set_option linter.unusedVariables false
set_option linter.unusedSimpArgs false
set_option maxRecDepth 100000 in
set_option maxHeartbeats 16000000 in
theorem unl_AA (x y : Cfg) (lv lv2 : Int) (w : World) (hx : x.Ok) (hy : y.Ok) (hlv : -9223372036854775808 ≤ lv ∧ lv ≤ 9223372036854775807) (hlv2 : -9223372036854775808 ≤ lv2 ∧ lv2 ≤ 9223372036854775807) (c : Cfg) (hC : anyC x 6 9 = c) (d : Cfg) (hD : anyC y 6 9 = d) (X1 l : Int) (a1 : bits .and .i64 lv 65535 = X1) (b1 : 0 ≤ X1) (c1 : X1 ≤ 65535) (dd1 : Int.tmod X1 (c.bt + 1) = l) (ee1 : 0 ≤ l) (ff1 : l < c.bt + 1) (X2 k : Int) (a2 : bits .and .i64 lv2 65535 = X2) (b2 : 0 ≤ X2) (c2 : X2 ≤ 65535) (dd2 : Int.tmod X2 (d.bt + 1) = k) (ee2 : 0 ≤ k) (ff2 : k < d.bt + 1) (hxa : exactB c l = true) (hxb : exactB d k = true) (hno : ¬ (cfgE c d = true ∧ l = k)) (hnb : (c.bt == d.bt && (c.rw == d.rw && (c.wd == d.wd && (c.md == d.md && c.sd == d.sd)))) = false ∨ ((c.bt == d.bt && (c.rw == d.rw && (c.wd == d.wd && (c.md == d.md && c.sd == d.sd)))) = true ∧ (l == k) = false)) :
    Calls Tryz.prog 4 #[.agg #[.int .i64 x.bt, .int .i64 x.rw, .int .i64 x.wd, .int .i64 x.md, .int .u64 x.sd], .agg #[.int .i64 y.bt, .int .i64 y.rw, .int .i64 y.wd, .int .i64 y.md, .int .u64 y.sd], .agg #[.int .i64 lv, .int .i64 lv2]] w fun e w' => e = .returned (.bool true) ∧ Below w.heap.size w w' := by
  have hr := any_right x 6 9 (by omega) (by omega) (by omega) (by omega)
  have hco := any_ok x hx 6 9 (by omega) (by omega) (by omega) (by omega)
  rw [hC] at hr hco
  have CA := Lib.hid (fun w => rany_at x 6 9 c w hx (by omega) (by omega) (by omega) (by omega) hC)
  have DA := Lib.hid (fun w => rany_at y 6 9 d w hy (by omega) (by omega) (by omega) (by omega) hD)
  have hbt := hr.1
  have hbt6 := hr.2.1
  have hk1 : 1 ≤ keys c l := keys_pos.2 ⟨hr, by omega, by omega⟩
  have CN := Lib.hid (fun w => vnew_A c l w hco (by omega) (by omega) hxa)
  have hrd := any_right y 6 9 (by omega) (by omega) (by omega) (by omega)
  have hdo := any_ok y hy 6 9 (by omega) (by omega) (by omega) (by omega)
  rw [hD] at hrd hdo
  have hbd := hrd.1
  have hbd6 := hrd.2.1
  have hk2 : 1 ≤ keys d k := keys_pos.2 ⟨hrd, by omega, by omega⟩
  have DN := Lib.hid (fun w => vnew_A d k w hdo (by omega) (by omega) hxb)
  have hkx := exact_len hxa
  obtain ⟨n, hn⟩ : ∃ n : Nat, keys c l = (n : Int) := ⟨(keys c l).toNat, by omega⟩
  rw [hn, Int.toNat_natCast] at CN
  have hn1 : 1 ≤ n := by omega
  have hn8 : n ≤ 128 := by omega
  have u5 := Exa.one_up (md := c.md) (d := 5) hn1 (by omega) (by omega)
  have CU := Lib.hid (fun p F w h => (eupd_any p F c l (List.replicate n 0) 0 5 w h (by omega) (by omega) (by omega) (by omega)))
  rw [u5.1, u5.2] at CU
  have hL : ((List.replicate n (0 : Int)).set 0 5).length = n := by simp
  obtain ⟨L, hLL⟩ : ∃ L, (List.replicate n (0 : Int)).set 0 5 = L := ⟨_, rfl⟩
  obtain ⟨Z, hZZ⟩ : ∃ Z, List.replicate n (0 : Int) = Z := ⟨_, rfl⟩
  rw [hLL] at CU hL
  rw [hZZ] at CN CU
  have CC := Lib.hid (fun p F w h => ecells_mid p F c l L w h)
  rw [hL] at CC
  obtain ⟨M, hMM⟩ : ∃ M, List.replicate (keys d k).toNat (0 : Int) = M := ⟨_, rfl⟩
  rw [hMM] at DN
  have CM := Lib.hid (fun p F q G w h g => vmerge_A p F c l L q G d k M w h g)
  rw [(mgA_no (s := 1) (L := L) (M := M) hno).1, (mgA_no (s := 1) (L := L) (M := M) hno).2] at CM
  have CS := Lib.hid (fun p F q G w h g => vsub_A p F c l L q G d k M w h g)
  rw [(mgA_no (s := (-1)) (L := L) (M := M) hno).1, (mgA_no (s := (-1)) (L := L) (M := M) hno).2] at CS
  have CI := Lib.hid (fun p F q G w h g => vinnerU_A p F c l L q G d k M w h g hno)
  have FL := Lib.hid hL
  have eqL : decide (L = L) = true := decide_eq_true rfl
  have HBX : Hid (Have w (((w.alloc (.cells #[.int .i64 x.bt, .int .i64 x.rw, .int .i64 x.wd, .int .i64 x.md, .int .u64 x.sd] 24)).alloc (.cells #[.int .i64 y.bt, .int .i64 y.rw, .int .i64 y.wd, .int .i64 y.md, .int .u64 y.sd] 24)).alloc (.cells #[.int .i64 lv, .int .i64 lv2] 57)) [boxT (w.heap.size + 1 + 1) 57 #[.int .i64 lv, .int .i64 lv2], boxT (w.heap.size + 1) 24 #[.int .i64 y.bt, .int .i64 y.rw, .int .i64 y.wd, .int .i64 y.md, .int .u64 y.sd], boxT w.heap.size 24 #[.int .i64 x.bt, .int .i64 x.rw, .int .i64 x.wd, .int .i64 x.md, .int .u64 x.sd]]) := Lib.hid (Inn.three_boxs w _ _ _ _ _ _)
  have hw1 : IntKind.i64.wrap (c.bt + 1) = c.bt + 1 := IntWalk.i64_in _ ⟨by omega, by omega⟩
  have hw2 : wrap64 (c.bt + 1) = c.bt + 1 := IntWalk.wrap64_in _ ⟨by omega, by omega⟩
  have hbn : ¬ c.bt + 1 = 0 := by omega
  have hw3 : IntKind.i64.wrap (d.bt + 1) = d.bt + 1 := IntWalk.i64_in _ ⟨by omega, by omega⟩
  have hw4 : wrap64 (d.bt + 1) = d.bt + 1 := IntWalk.wrap64_in _ ⟨by omega, by omega⟩
  have hdn : ¬ d.bt + 1 = 0 := by omega
  clear hC hD hx hy hr hco hbt hbt6 hk1 hxa c1 c2 u5 hLL hZZ hL hlv hlv2 hkx hn hn1 hrd hdo hbd hbd6 hk2 hxb hMM hno
  go_enter Tryz.func4, Tryz.ntmps4
  go_upto_region 6 with (first
    | (go_at_call 8; (with_reducible refine (DA.out _).mono ?_); rintro e w3 ⟨rfl, hb⟩; have HV3 := Lib.hid ((HV2.out.up hb).push (boxT w3.heap.size 24 #[.int .i64 d.bt, .int .i64 d.rw, .int .i64 d.wd, .int .i64 d.md, .int .u64 d.sd]) (Lw.below_alloc (Below.refl _ _) _) (heap_alloc_new w3 _) (fun k hk => Nat.le_of_eq hk.symm)); clear hb; clear c0 c1 c2 c3 c4 v0 v1 y0 y1 y2 y3 y4; obtain ⟨d0, d1, d2, d3, d4⟩ := box5 HV3.out.i0; obtain ⟨c0, c1, c2, c3, c4⟩ := box5 HV3.out.i1; have v0 := box_cell (i := 0) HV3.out.i2 rfl; have v1 := box_cell (i := 1) HV3.out.i2 rfl)
    | (go_at_call 8; (with_reducible refine (CA.out _).mono ?_); rintro e w2 ⟨rfl, hb⟩; have HV2 := Lib.hid ((HV1.out.up hb).push (boxT w2.heap.size 24 #[.int .i64 c.bt, .int .i64 c.rw, .int .i64 c.wd, .int .i64 c.md, .int .u64 c.sd]) (Lw.below_alloc (Below.refl _ _) _) (heap_alloc_new w2 _) (fun k hk => Nat.le_of_eq hk.symm)); clear hb; clear v0 v1 y0 y1 y2 y3 y4 x0 x1 x2 x3 x4; obtain ⟨c0, c1, c2, c3, c4⟩ := box5 HV2.out.i0; have v0 := box_cell (i := 0) HV2.out.i1 rfl; have v1 := box_cell (i := 1) HV2.out.i1 rfl; obtain ⟨y0, y1, y2, y3, y4⟩ := box5 HV2.out.i2)
    | (go_at_call 7; (with_reducible refine (shown_any _).mono ?_); rintro e w1 ⟨rfl, hb⟩; have HV1 := Lib.hid (HBX.out.up hb); clear hb; have v0 := box_cell (i := 0) HV1.out.i0 rfl; have v1 := box_cell (i := 1) HV1.out.i0 rfl; obtain ⟨y0, y1, y2, y3, y4⟩ := box5 HV1.out.i1; obtain ⟨x0, x1, x2, x3, x4⟩ := box5 HV1.out.i2))
  obtain ⟨gd, hgd⟩ : ∃ gd, w3.heap.size = gd := ⟨_, rfl⟩
  obtain ⟨gc, hgc⟩ : ∃ gc, w2.heap.size = gc := ⟨_, rfl⟩
  rw [hgd, hgc] at HV3 ⊢
  rw [hgd] at d0 d1 d2 d3 d4
  rw [hgc] at c0 c1 c2 c3 c4
  have HV9 := Lib.hid (((HV3.out.drop_2).drop_2).drop_2)
  clear HV3 HV2 HV1 hgd hgc CA DA HBX v0 v1 hw1 hw2 hbn hw3 hw4 hdn a1 a2 b1 b2 dd1 dd2
  go_upto_region 14 with (first
    | (go_at_call 20; (with_reducible refine (CI.out p F2 q G _ (exI HVe.out.i2) (exI HVe.out.i1)).mono ?_); rintro e wf ⟨rfl, hb⟩; have HVf := Lib.hid ((HVe.out.up hb).push (boxT wf.heap.size 49 #[.int .i64 0, .int .u64 0]) (Lw.below_alloc (Below.refl _ _) _) (heap_alloc_new wf _) (fun k hk => Nat.le_of_eq hk.symm)); clear hb; clear c0 c1 c2 c3 c4 d0 d1 d2 d3 d4; obtain ⟨c0, c1, c2, c3, c4⟩ := box5 HVf.out.i5; obtain ⟨d0, d1, d2, d3, d4⟩ := box5 HVf.out.i4)
    | (go_at_call 14; (with_reducible refine (CM.out p F1 q G _ (exI HVd.out.i2) (exI HVd.out.i1)).mono ?_); rintro e we ⟨rfl, F2, h1, h2, h3⟩; have HVe := Lib.hid (HVd.out.turn_2 (exT p F2 c l L) h1 h2 h3); clear h1 h2 h3; clear c0 c1 c2 c3 c4 d0 d1 d2 d3 d4; obtain ⟨c0, c1, c2, c3, c4⟩ := box5 HVe.out.i4; obtain ⟨d0, d1, d2, d3, d4⟩ := box5 HVe.out.i3)
    | (go_at_call 87; (with_reducible refine (CC.out p F1 _ (exI HVc.out.i1)).mono ?_); rintro e wd ⟨g1, cap1, rfl, h1, h2, -, -, hb⟩; have HVd := Lib.hid (HVc.out.push (midT g1 L) hb h1 (fun k hk => by subst hk; exact h2)); clear h1 h2 hb; clear c0 c1 c2 c3 c4 d0 d1 d2 d3 d4; obtain ⟨c0, c1, c2, c3, c4⟩ := box5 HVd.out.i4; obtain ⟨d0, d1, d2, d3, d4⟩ := box5 HVd.out.i3)
    | (go_at_call 183; (with_reducible refine (CU.out p F _ (exI HVb.out.i1)).mono ?_); rintro e wc ⟨rfl, F1, h1, h2, h3⟩; have HVc := Lib.hid (HVb.out.turn_1 (exT p F1 c l L) h1 h2 h3); clear h1 h2 h3; clear c0 c1 c2 c3 c4 d0 d1 d2 d3 d4; obtain ⟨c0, c1, c2, c3, c4⟩ := box5 HVc.out.i3; obtain ⟨d0, d1, d2, d3, d4⟩ := box5 HVc.out.i2)
    | (go_at_call 9; (with_reducible refine (DN.out _).mono ?_); rintro e wb ⟨q, G, rfl, h1, h2, hb⟩; have HVb := Lib.hid (HVa.out.push (exT q G d k M) hb h1 h2); clear h1 h2 hb; clear c0 c1 c2 c3 c4 d0 d1 d2 d3 d4; obtain ⟨c0, c1, c2, c3, c4⟩ := box5 HVb.out.i3; obtain ⟨d0, d1, d2, d3, d4⟩ := box5 HVb.out.i2)
    | (go_at_call 9; (with_reducible refine (CN.out _).mono ?_); rintro e wa ⟨p, F, rfl, h1, h2, hb⟩; have HVa := Lib.hid (HV9.out.push (exT p F c l Z) hb h1 h2); clear h1 h2 hb; clear c0 c1 c2 c3 c4 d0 d1 d2 d3 d4; obtain ⟨c0, c1, c2, c3, c4⟩ := box5 HVa.out.i2; obtain ⟨d0, d1, d2, d3, d4⟩ := box5 HVa.out.i1))
  rcases hnb with hnb | ⟨hnb, hnl⟩
  all_goals go_wp2_with (first
    | (go_at_call 22; (with_reducible refine (rsame_any _ _ _ _ _ _ L L _ (midI HVj.out.i0).rd (midI HVj.out.i2).rd FL.out FL.out (by omega) (by omega)).mono ?_); rintro e wk ⟨rfl, hb⟩; have HVk := Lib.hid (HVj.out.up hb); clear hb)
    | (go_at_call 87; (with_reducible refine (CC.out p F3 _ (exI HVg.out.i3)).mono ?_); rintro e wj ⟨g2, cap2, rfl, h1, h2, -, -, hb⟩; have HVj := Lib.hid (HVg.out.push (midT g2 L) hb h1 (fun k hk => by subst hk; exact h2)); clear h1 h2 hb)
    | (go_at_call 16; (with_reducible refine (CS.out p F2 q G _ (exI HVf.out.i3) (exI HVf.out.i2)).mono ?_); rintro e wg ⟨rfl, F3, h1, h2, h3⟩; have HVg := Lib.hid (HVf.out.turn_3 (exT p F3 c l L) h1 h2 h3); clear h1 h2 h3))
  all_goals first
    | (go_ret; exact ⟨ret_bs (by first | rfl | (simp [*]; done)), HVk.out.below⟩)
    | (exfalso; simp [*] at hnb; done)
set_option maxRecDepth 100000 in
set_option maxHeartbeats 16000000 in
theorem unl_AS (x y : Cfg) (lv lv2 : Int) (w : World) (hx : x.Ok) (hy : y.Ok) (hlv : -9223372036854775808 ≤ lv ∧ lv ≤ 9223372036854775807) (hlv2 : -9223372036854775808 ≤ lv2 ∧ lv2 ≤ 9223372036854775807) (c : Cfg) (hC : anyC x 6 9 = c) (d : Cfg) (hD : anyC y 6 9 = d) (X1 l : Int) (a1 : bits .and .i64 lv 65535 = X1) (b1 : 0 ≤ X1) (c1 : X1 ≤ 65535) (dd1 : Int.tmod X1 (c.bt + 1) = l) (ee1 : 0 ≤ l) (ff1 : l < c.bt + 1) (X2 k : Int) (a2 : bits .and .i64 lv2 65535 = X2) (b2 : 0 ≤ X2) (c2 : X2 ≤ 65535) (dd2 : Int.tmod X2 (d.bt + 1) = k) (ee2 : 0 ≤ k) (ff2 : k < d.bt + 1) (hxa : exactB c l = true) (hxb : exactB d k = false) (hno : ¬ (cfgE c d = true ∧ l = k)) (hnb : (c.bt == d.bt && (c.rw == d.rw && (c.wd == d.wd && (c.md == d.md && c.sd == d.sd)))) = false ∨ ((c.bt == d.bt && (c.rw == d.rw && (c.wd == d.wd && (c.md == d.md && c.sd == d.sd)))) = true ∧ (l == k) = false)) :
    Calls Tryz.prog 4 #[.agg #[.int .i64 x.bt, .int .i64 x.rw, .int .i64 x.wd, .int .i64 x.md, .int .u64 x.sd], .agg #[.int .i64 y.bt, .int .i64 y.rw, .int .i64 y.wd, .int .i64 y.md, .int .u64 y.sd], .agg #[.int .i64 lv, .int .i64 lv2]] w fun e w' => e = .returned (.bool true) ∧ Below w.heap.size w w' := by
  have hr := any_right x 6 9 (by omega) (by omega) (by omega) (by omega)
  have hco := any_ok x hx 6 9 (by omega) (by omega) (by omega) (by omega)
  rw [hC] at hr hco
  have CA := Lib.hid (fun w => rany_at x 6 9 c w hx (by omega) (by omega) (by omega) (by omega) hC)
  have DA := Lib.hid (fun w => rany_at y 6 9 d w hy (by omega) (by omega) (by omega) (by omega) hD)
  have hbt := hr.1
  have hbt6 := hr.2.1
  have hk1 : 1 ≤ keys c l := keys_pos.2 ⟨hr, by omega, by omega⟩
  have CN := Lib.hid (fun w => vnew_A c l w hco (by omega) (by omega) hxa)
  have hrd := any_right y 6 9 (by omega) (by omega) (by omega) (by omega)
  have hdo := any_ok y hy 6 9 (by omega) (by omega) (by omega) (by omega)
  rw [hD] at hrd hdo
  have hbd := hrd.1
  have hbd6 := hrd.2.1
  have hk2 : 1 ≤ keys d k := keys_pos.2 ⟨hrd, by omega, by omega⟩
  have DN := Lib.hid (fun w => vnew_S d k w hdo (by omega) (by omega) hk2 hxb)
  have hkx := exact_len hxa
  obtain ⟨n, hn⟩ : ∃ n : Nat, keys c l = (n : Int) := ⟨(keys c l).toNat, by omega⟩
  rw [hn, Int.toNat_natCast] at CN
  have hn1 : 1 ≤ n := by omega
  have hn8 : n ≤ 128 := by omega
  have u5 := Exa.one_up (md := c.md) (d := 5) hn1 (by omega) (by omega)
  have CU := Lib.hid (fun p F w h => (eupd_any p F c l (List.replicate n 0) 0 5 w h (by omega) (by omega) (by omega) (by omega)))
  rw [u5.1, u5.2] at CU
  have hL : ((List.replicate n (0 : Int)).set 0 5).length = n := by simp
  obtain ⟨L, hLL⟩ : ∃ L, (List.replicate n (0 : Int)).set 0 5 = L := ⟨_, rfl⟩
  obtain ⟨Z, hZZ⟩ : ∃ Z, List.replicate n (0 : Int) = Z := ⟨_, rfl⟩
  rw [hLL] at CU hL
  rw [hZZ] at CN CU
  have CC := Lib.hid (fun p F w h => ecells_mid p F c l L w h)
  rw [hL] at CC
  obtain ⟨M, hMM⟩ : ∃ M, zerosL (rws d) (wds d) = M := ⟨_, rfl⟩
  rw [hMM] at DN
  have FL := Lib.hid hL
  have eqL : decide (L = L) = true := decide_eq_true rfl
  have HBX : Hid (Have w (((w.alloc (.cells #[.int .i64 x.bt, .int .i64 x.rw, .int .i64 x.wd, .int .i64 x.md, .int .u64 x.sd] 24)).alloc (.cells #[.int .i64 y.bt, .int .i64 y.rw, .int .i64 y.wd, .int .i64 y.md, .int .u64 y.sd] 24)).alloc (.cells #[.int .i64 lv, .int .i64 lv2] 57)) [boxT (w.heap.size + 1 + 1) 57 #[.int .i64 lv, .int .i64 lv2], boxT (w.heap.size + 1) 24 #[.int .i64 y.bt, .int .i64 y.rw, .int .i64 y.wd, .int .i64 y.md, .int .u64 y.sd], boxT w.heap.size 24 #[.int .i64 x.bt, .int .i64 x.rw, .int .i64 x.wd, .int .i64 x.md, .int .u64 x.sd]]) := Lib.hid (Inn.three_boxs w _ _ _ _ _ _)
  have hw1 : IntKind.i64.wrap (c.bt + 1) = c.bt + 1 := IntWalk.i64_in _ ⟨by omega, by omega⟩
  have hw2 : wrap64 (c.bt + 1) = c.bt + 1 := IntWalk.wrap64_in _ ⟨by omega, by omega⟩
  have hbn : ¬ c.bt + 1 = 0 := by omega
  have hw3 : IntKind.i64.wrap (d.bt + 1) = d.bt + 1 := IntWalk.i64_in _ ⟨by omega, by omega⟩
  have hw4 : wrap64 (d.bt + 1) = d.bt + 1 := IntWalk.wrap64_in _ ⟨by omega, by omega⟩
  have hdn : ¬ d.bt + 1 = 0 := by omega
  clear hC hD hx hy hr hco hbt hbt6 hk1 hxa c1 c2 u5 hLL hZZ hL hlv hlv2 hkx hn hn1 hrd hdo hbd hbd6 hk2 hxb hMM hno
  go_enter Tryz.func4, Tryz.ntmps4
  go_upto_region 6 with (first
    | (go_at_call 8; (with_reducible refine (DA.out _).mono ?_); rintro e w3 ⟨rfl, hb⟩; have HV3 := Lib.hid ((HV2.out.up hb).push (boxT w3.heap.size 24 #[.int .i64 d.bt, .int .i64 d.rw, .int .i64 d.wd, .int .i64 d.md, .int .u64 d.sd]) (Lw.below_alloc (Below.refl _ _) _) (heap_alloc_new w3 _) (fun k hk => Nat.le_of_eq hk.symm)); clear hb; clear c0 c1 c2 c3 c4 v0 v1 y0 y1 y2 y3 y4; obtain ⟨d0, d1, d2, d3, d4⟩ := box5 HV3.out.i0; obtain ⟨c0, c1, c2, c3, c4⟩ := box5 HV3.out.i1; have v0 := box_cell (i := 0) HV3.out.i2 rfl; have v1 := box_cell (i := 1) HV3.out.i2 rfl)
    | (go_at_call 8; (with_reducible refine (CA.out _).mono ?_); rintro e w2 ⟨rfl, hb⟩; have HV2 := Lib.hid ((HV1.out.up hb).push (boxT w2.heap.size 24 #[.int .i64 c.bt, .int .i64 c.rw, .int .i64 c.wd, .int .i64 c.md, .int .u64 c.sd]) (Lw.below_alloc (Below.refl _ _) _) (heap_alloc_new w2 _) (fun k hk => Nat.le_of_eq hk.symm)); clear hb; clear v0 v1 y0 y1 y2 y3 y4 x0 x1 x2 x3 x4; obtain ⟨c0, c1, c2, c3, c4⟩ := box5 HV2.out.i0; have v0 := box_cell (i := 0) HV2.out.i1 rfl; have v1 := box_cell (i := 1) HV2.out.i1 rfl; obtain ⟨y0, y1, y2, y3, y4⟩ := box5 HV2.out.i2)
    | (go_at_call 7; (with_reducible refine (shown_any _).mono ?_); rintro e w1 ⟨rfl, hb⟩; have HV1 := Lib.hid (HBX.out.up hb); clear hb; have v0 := box_cell (i := 0) HV1.out.i0 rfl; have v1 := box_cell (i := 1) HV1.out.i0 rfl; obtain ⟨y0, y1, y2, y3, y4⟩ := box5 HV1.out.i1; obtain ⟨x0, x1, x2, x3, x4⟩ := box5 HV1.out.i2))
  obtain ⟨gd, hgd⟩ : ∃ gd, w3.heap.size = gd := ⟨_, rfl⟩
  obtain ⟨gc, hgc⟩ : ∃ gc, w2.heap.size = gc := ⟨_, rfl⟩
  rw [hgd, hgc] at HV3 ⊢
  rw [hgd] at d0 d1 d2 d3 d4
  rw [hgc] at c0 c1 c2 c3 c4
  have HV9 := Lib.hid (((HV3.out.drop_2).drop_2).drop_2)
  clear HV3 HV2 HV1 hgd hgc CA DA HBX v0 v1 hw1 hw2 hbn hw3 hw4 hdn a1 a2 b1 b2 dd1 dd2
  go_upto_region 14 with (first
    | (go_at_call 20; (with_reducible refine (vinner_AS p q _).mono ?_); rintro e wf ⟨rfl, hb⟩; have HVf := Lib.hid ((HVe.out.up hb).push (boxT wf.heap.size 49 #[.int .i64 0, .int .u64 0]) (Lw.below_alloc (Below.refl _ _) _) (heap_alloc_new wf _) (fun k hk => Nat.le_of_eq hk.symm)); clear hb; clear c0 c1 c2 c3 c4 d0 d1 d2 d3 d4; obtain ⟨c0, c1, c2, c3, c4⟩ := box5 HVf.out.i5; obtain ⟨d0, d1, d2, d3, d4⟩ := box5 HVf.out.i4)
    | (go_at_call 14; (with_reducible refine (vmerge_AS p q _).mono ?_); rintro e we ⟨rfl, hb⟩; have F2 := Lib.hid True.intro; have HVe := Lib.hid (HVd.out.up hb); clear hb; clear c0 c1 c2 c3 c4 d0 d1 d2 d3 d4; obtain ⟨c0, c1, c2, c3, c4⟩ := box5 HVe.out.i4; obtain ⟨d0, d1, d2, d3, d4⟩ := box5 HVe.out.i3)
    | (go_at_call 87; (with_reducible refine (CC.out p F1 _ (exI HVc.out.i1)).mono ?_); rintro e wd ⟨g1, cap1, rfl, h1, h2, -, -, hb⟩; have HVd := Lib.hid (HVc.out.push (midT g1 L) hb h1 (fun k hk => by subst hk; exact h2)); clear h1 h2 hb; clear c0 c1 c2 c3 c4 d0 d1 d2 d3 d4; obtain ⟨c0, c1, c2, c3, c4⟩ := box5 HVd.out.i4; obtain ⟨d0, d1, d2, d3, d4⟩ := box5 HVd.out.i3)
    | (go_at_call 183; (with_reducible refine (CU.out p F _ (exI HVb.out.i1)).mono ?_); rintro e wc ⟨rfl, F1, h1, h2, h3⟩; have HVc := Lib.hid (HVb.out.turn_1 (exT p F1 c l L) h1 h2 h3); clear h1 h2 h3; clear c0 c1 c2 c3 c4 d0 d1 d2 d3 d4; obtain ⟨c0, c1, c2, c3, c4⟩ := box5 HVc.out.i3; obtain ⟨d0, d1, d2, d3, d4⟩ := box5 HVc.out.i2)
    | (go_at_call 9; (with_reducible refine (DN.out _).mono ?_); rintro e wb ⟨q, G, rfl, h1, h2, hb⟩; have HVb := Lib.hid (HVa.out.push (skT q G d k M) hb h1 h2); clear h1 h2 hb; clear c0 c1 c2 c3 c4 d0 d1 d2 d3 d4; obtain ⟨c0, c1, c2, c3, c4⟩ := box5 HVb.out.i3; obtain ⟨d0, d1, d2, d3, d4⟩ := box5 HVb.out.i2)
    | (go_at_call 9; (with_reducible refine (CN.out _).mono ?_); rintro e wa ⟨p, F, rfl, h1, h2, hb⟩; have HVa := Lib.hid (HV9.out.push (exT p F c l Z) hb h1 h2); clear h1 h2 hb; clear c0 c1 c2 c3 c4 d0 d1 d2 d3 d4; obtain ⟨c0, c1, c2, c3, c4⟩ := box5 HVa.out.i2; obtain ⟨d0, d1, d2, d3, d4⟩ := box5 HVa.out.i1))
  rcases hnb with hnb | ⟨hnb, hnl⟩
  all_goals go_wp2_with (first
    | (go_at_call 22; (with_reducible refine (rsame_any _ _ _ _ _ _ L L _ (midI HVj.out.i0).rd (midI HVj.out.i2).rd FL.out FL.out (by omega) (by omega)).mono ?_); rintro e wk ⟨rfl, hb⟩; have HVk := Lib.hid (HVj.out.up hb); clear hb)
    | (go_at_call 87; (with_reducible refine (CC.out p F1 _ (exI HVg.out.i3)).mono ?_); rintro e wj ⟨g2, cap2, rfl, h1, h2, -, -, hb⟩; have HVj := Lib.hid (HVg.out.push (midT g2 L) hb h1 (fun k hk => by subst hk; exact h2)); clear h1 h2 hb)
    | (go_at_call 16; (with_reducible refine (vsub_AS p q _).mono ?_); rintro e wg ⟨rfl, hb⟩; have HVg := Lib.hid (HVf.out.up hb); clear hb))
  all_goals first
    | (go_ret; exact ⟨ret_bs (by first | rfl | (simp [*]; done)), HVk.out.below⟩)
    | (exfalso; simp [*] at hnb; done)
set_option maxRecDepth 100000 in
set_option maxHeartbeats 16000000 in
theorem unl_SA (x y : Cfg) (lv lv2 : Int) (w : World) (hx : x.Ok) (hy : y.Ok) (hlv : -9223372036854775808 ≤ lv ∧ lv ≤ 9223372036854775807) (hlv2 : -9223372036854775808 ≤ lv2 ∧ lv2 ≤ 9223372036854775807) (c : Cfg) (hC : anyC x 6 9 = c) (d : Cfg) (hD : anyC y 6 9 = d) (X1 l : Int) (a1 : bits .and .i64 lv 65535 = X1) (b1 : 0 ≤ X1) (c1 : X1 ≤ 65535) (dd1 : Int.tmod X1 (c.bt + 1) = l) (ee1 : 0 ≤ l) (ff1 : l < c.bt + 1) (X2 k : Int) (a2 : bits .and .i64 lv2 65535 = X2) (b2 : 0 ≤ X2) (c2 : X2 ≤ 65535) (dd2 : Int.tmod X2 (d.bt + 1) = k) (ee2 : 0 ≤ k) (ff2 : k < d.bt + 1) (hxa : exactB c l = false) (hxb : exactB d k = true) (hno : ¬ (cfgE c d = true ∧ l = k)) (hnb : (c.bt == d.bt && (c.rw == d.rw && (c.wd == d.wd && (c.md == d.md && c.sd == d.sd)))) = false ∨ ((c.bt == d.bt && (c.rw == d.rw && (c.wd == d.wd && (c.md == d.md && c.sd == d.sd)))) = true ∧ (l == k) = false)) :
    Calls Tryz.prog 4 #[.agg #[.int .i64 x.bt, .int .i64 x.rw, .int .i64 x.wd, .int .i64 x.md, .int .u64 x.sd], .agg #[.int .i64 y.bt, .int .i64 y.rw, .int .i64 y.wd, .int .i64 y.md, .int .u64 y.sd], .agg #[.int .i64 lv, .int .i64 lv2]] w fun e w' => e = .returned (.bool true) ∧ Below w.heap.size w w' := by
  have hr := any_right x 6 9 (by omega) (by omega) (by omega) (by omega)
  have hco := any_ok x hx 6 9 (by omega) (by omega) (by omega) (by omega)
  rw [hC] at hr hco
  have CA := Lib.hid (fun w => rany_at x 6 9 c w hx (by omega) (by omega) (by omega) (by omega) hC)
  have DA := Lib.hid (fun w => rany_at y 6 9 d w hy (by omega) (by omega) (by omega) (by omega) hD)
  have hbt := hr.1
  have hbt6 := hr.2.1
  have hk1 : 1 ≤ keys c l := keys_pos.2 ⟨hr, by omega, by omega⟩
  have CN := Lib.hid (fun w => vnew_S c l w hco (by omega) (by omega) hk1 hxa)
  have hrd := any_right y 6 9 (by omega) (by omega) (by omega) (by omega)
  have hdo := any_ok y hy 6 9 (by omega) (by omega) (by omega) (by omega)
  rw [hD] at hrd hdo
  have hbd := hrd.1
  have hbd6 := hrd.2.1
  have hk2 : 1 ≤ keys d k := keys_pos.2 ⟨hrd, by omega, by omega⟩
  have DN := Lib.hid (fun w => vnew_A d k w hdo (by omega) (by omega) hxb)
  have hq9 : rws c * wds c ≤ 1024 := Nat.mul_le_mul (rws_bd hr).2.1 (wds_bd hr).2.1
  have u5 := Sk.one_up (c := c) (l := l) (d := 5) hr hk1 (by omega) (by omega)
  have CU := Lib.hid (fun p F w h => (supd_any p F c l (zerosL (rws c) (wds c)) 0 5 w h (by omega) (by omega) (by omega) (by omega)))
  rw [u5.1, u5.2] at CU
  have hsz := cells_sz (one_in (c := c) (l := l) (d := 5) hk1 (by omega) (by omega))
  have hL := lsz_flat hsz
  obtain ⟨L, hLL⟩ : ∃ L, cells c l [(0, 5)] = L := ⟨_, rfl⟩
  obtain ⟨Z, hZZ⟩ : ∃ Z, zerosL (rws c) (wds c) = Z := ⟨_, rfl⟩
  rw [hLL] at CU hL
  rw [hZZ] at CN CU
  have CC := Lib.hid (fun p F w h => scells_mid p F c l L w h)
  obtain ⟨Q, hQ⟩ : ∃ Q, rws c * wds c = Q := ⟨_, rfl⟩
  rw [hQ] at CC hL hq9
  obtain ⟨M, hMM⟩ : ∃ M, List.replicate (keys d k).toNat (0 : Int) = M := ⟨_, rfl⟩
  rw [hMM] at DN
  have FL := Lib.hid hL
  have eqL : decide (L.flatten = L.flatten) = true := decide_eq_true rfl
  have HBX : Hid (Have w (((w.alloc (.cells #[.int .i64 x.bt, .int .i64 x.rw, .int .i64 x.wd, .int .i64 x.md, .int .u64 x.sd] 24)).alloc (.cells #[.int .i64 y.bt, .int .i64 y.rw, .int .i64 y.wd, .int .i64 y.md, .int .u64 y.sd] 24)).alloc (.cells #[.int .i64 lv, .int .i64 lv2] 57)) [boxT (w.heap.size + 1 + 1) 57 #[.int .i64 lv, .int .i64 lv2], boxT (w.heap.size + 1) 24 #[.int .i64 y.bt, .int .i64 y.rw, .int .i64 y.wd, .int .i64 y.md, .int .u64 y.sd], boxT w.heap.size 24 #[.int .i64 x.bt, .int .i64 x.rw, .int .i64 x.wd, .int .i64 x.md, .int .u64 x.sd]]) := Lib.hid (Inn.three_boxs w _ _ _ _ _ _)
  have hw1 : IntKind.i64.wrap (c.bt + 1) = c.bt + 1 := IntWalk.i64_in _ ⟨by omega, by omega⟩
  have hw2 : wrap64 (c.bt + 1) = c.bt + 1 := IntWalk.wrap64_in _ ⟨by omega, by omega⟩
  have hbn : ¬ c.bt + 1 = 0 := by omega
  have hw3 : IntKind.i64.wrap (d.bt + 1) = d.bt + 1 := IntWalk.i64_in _ ⟨by omega, by omega⟩
  have hw4 : wrap64 (d.bt + 1) = d.bt + 1 := IntWalk.wrap64_in _ ⟨by omega, by omega⟩
  have hdn : ¬ d.bt + 1 = 0 := by omega
  clear hC hD hx hy hr hco hbt hbt6 hk1 hxa c1 c2 u5 hLL hZZ hL hlv hlv2 hsz hQ hrd hdo hbd hbd6 hk2 hxb hMM hno
  go_enter Tryz.func4, Tryz.ntmps4
  go_upto_region 6 with (first
    | (go_at_call 8; (with_reducible refine (DA.out _).mono ?_); rintro e w3 ⟨rfl, hb⟩; have HV3 := Lib.hid ((HV2.out.up hb).push (boxT w3.heap.size 24 #[.int .i64 d.bt, .int .i64 d.rw, .int .i64 d.wd, .int .i64 d.md, .int .u64 d.sd]) (Lw.below_alloc (Below.refl _ _) _) (heap_alloc_new w3 _) (fun k hk => Nat.le_of_eq hk.symm)); clear hb; clear c0 c1 c2 c3 c4 v0 v1 y0 y1 y2 y3 y4; obtain ⟨d0, d1, d2, d3, d4⟩ := box5 HV3.out.i0; obtain ⟨c0, c1, c2, c3, c4⟩ := box5 HV3.out.i1; have v0 := box_cell (i := 0) HV3.out.i2 rfl; have v1 := box_cell (i := 1) HV3.out.i2 rfl)
    | (go_at_call 8; (with_reducible refine (CA.out _).mono ?_); rintro e w2 ⟨rfl, hb⟩; have HV2 := Lib.hid ((HV1.out.up hb).push (boxT w2.heap.size 24 #[.int .i64 c.bt, .int .i64 c.rw, .int .i64 c.wd, .int .i64 c.md, .int .u64 c.sd]) (Lw.below_alloc (Below.refl _ _) _) (heap_alloc_new w2 _) (fun k hk => Nat.le_of_eq hk.symm)); clear hb; clear v0 v1 y0 y1 y2 y3 y4 x0 x1 x2 x3 x4; obtain ⟨c0, c1, c2, c3, c4⟩ := box5 HV2.out.i0; have v0 := box_cell (i := 0) HV2.out.i1 rfl; have v1 := box_cell (i := 1) HV2.out.i1 rfl; obtain ⟨y0, y1, y2, y3, y4⟩ := box5 HV2.out.i2)
    | (go_at_call 7; (with_reducible refine (shown_any _).mono ?_); rintro e w1 ⟨rfl, hb⟩; have HV1 := Lib.hid (HBX.out.up hb); clear hb; have v0 := box_cell (i := 0) HV1.out.i0 rfl; have v1 := box_cell (i := 1) HV1.out.i0 rfl; obtain ⟨y0, y1, y2, y3, y4⟩ := box5 HV1.out.i1; obtain ⟨x0, x1, x2, x3, x4⟩ := box5 HV1.out.i2))
  obtain ⟨gd, hgd⟩ : ∃ gd, w3.heap.size = gd := ⟨_, rfl⟩
  obtain ⟨gc, hgc⟩ : ∃ gc, w2.heap.size = gc := ⟨_, rfl⟩
  rw [hgd, hgc] at HV3 ⊢
  rw [hgd] at d0 d1 d2 d3 d4
  rw [hgc] at c0 c1 c2 c3 c4
  have HV9 := Lib.hid (((HV3.out.drop_2).drop_2).drop_2)
  clear HV3 HV2 HV1 hgd hgc CA DA HBX v0 v1 hw1 hw2 hbn hw3 hw4 hdn a1 a2 b1 b2 dd1 dd2
  go_upto_region 14 with (first
    | (go_at_call 20; (with_reducible refine (vinner_SA p q _).mono ?_); rintro e wf ⟨rfl, hb⟩; have HVf := Lib.hid ((HVe.out.up hb).push (boxT wf.heap.size 49 #[.int .i64 0, .int .u64 0]) (Lw.below_alloc (Below.refl _ _) _) (heap_alloc_new wf _) (fun k hk => Nat.le_of_eq hk.symm)); clear hb; clear c0 c1 c2 c3 c4 d0 d1 d2 d3 d4; obtain ⟨c0, c1, c2, c3, c4⟩ := box5 HVf.out.i5; obtain ⟨d0, d1, d2, d3, d4⟩ := box5 HVf.out.i4)
    | (go_at_call 14; (with_reducible refine (vmerge_SA p q _).mono ?_); rintro e we ⟨rfl, hb⟩; have F2 := Lib.hid True.intro; have HVe := Lib.hid (HVd.out.up hb); clear hb; clear c0 c1 c2 c3 c4 d0 d1 d2 d3 d4; obtain ⟨c0, c1, c2, c3, c4⟩ := box5 HVe.out.i4; obtain ⟨d0, d1, d2, d3, d4⟩ := box5 HVe.out.i3)
    | (go_at_call 81; (with_reducible refine (CC.out p F1 _ (skI HVc.out.i1)).mono ?_); rintro e wd ⟨g1, cap1, rfl, h1, h2, -, -, hb⟩; have HVd := Lib.hid (HVc.out.push (midT g1 L.flatten) hb h1 (fun k hk => by subst hk; exact h2)); clear h1 h2 hb; clear c0 c1 c2 c3 c4 d0 d1 d2 d3 d4; obtain ⟨c0, c1, c2, c3, c4⟩ := box5 HVd.out.i4; obtain ⟨d0, d1, d2, d3, d4⟩ := box5 HVd.out.i3)
    | (go_at_call 166; (with_reducible refine (CU.out p F _ (skI HVb.out.i1)).mono ?_); rintro e wc ⟨rfl, F1, h1, h2, h3⟩; have HVc := Lib.hid (HVb.out.turn_1 (skT p F1 c l L) h1 h2 h3); clear h1 h2 h3; clear c0 c1 c2 c3 c4 d0 d1 d2 d3 d4; obtain ⟨c0, c1, c2, c3, c4⟩ := box5 HVc.out.i3; obtain ⟨d0, d1, d2, d3, d4⟩ := box5 HVc.out.i2)
    | (go_at_call 9; (with_reducible refine (DN.out _).mono ?_); rintro e wb ⟨q, G, rfl, h1, h2, hb⟩; have HVb := Lib.hid (HVa.out.push (exT q G d k M) hb h1 h2); clear h1 h2 hb; clear c0 c1 c2 c3 c4 d0 d1 d2 d3 d4; obtain ⟨c0, c1, c2, c3, c4⟩ := box5 HVb.out.i3; obtain ⟨d0, d1, d2, d3, d4⟩ := box5 HVb.out.i2)
    | (go_at_call 9; (with_reducible refine (CN.out _).mono ?_); rintro e wa ⟨p, F, rfl, h1, h2, hb⟩; have HVa := Lib.hid (HV9.out.push (skT p F c l Z) hb h1 h2); clear h1 h2 hb; clear c0 c1 c2 c3 c4 d0 d1 d2 d3 d4; obtain ⟨c0, c1, c2, c3, c4⟩ := box5 HVa.out.i2; obtain ⟨d0, d1, d2, d3, d4⟩ := box5 HVa.out.i1))
  rcases hnb with hnb | ⟨hnb, hnl⟩
  all_goals go_wp2_with (first
    | (go_at_call 22; (with_reducible refine (rsame_any _ _ _ _ _ _ L.flatten L.flatten _ (midI HVj.out.i0).rd (midI HVj.out.i2).rd FL.out FL.out (by omega) (by omega)).mono ?_); rintro e wk ⟨rfl, hb⟩; have HVk := Lib.hid (HVj.out.up hb); clear hb)
    | (go_at_call 81; (with_reducible refine (CC.out p F1 _ (skI HVg.out.i3)).mono ?_); rintro e wj ⟨g2, cap2, rfl, h1, h2, -, -, hb⟩; have HVj := Lib.hid (HVg.out.push (midT g2 L.flatten) hb h1 (fun k hk => by subst hk; exact h2)); clear h1 h2 hb)
    | (go_at_call 16; (with_reducible refine (vsub_SA p q _).mono ?_); rintro e wg ⟨rfl, hb⟩; have HVg := Lib.hid (HVf.out.up hb); clear hb))
  all_goals first
    | (go_ret; exact ⟨ret_bs (by first | rfl | (simp [*]; done)), HVk.out.below⟩)
    | (exfalso; simp [*] at hnb; done)
set_option maxRecDepth 100000 in
set_option maxHeartbeats 16000000 in
theorem unl_SS (x y : Cfg) (lv lv2 : Int) (w : World) (hx : x.Ok) (hy : y.Ok) (hlv : -9223372036854775808 ≤ lv ∧ lv ≤ 9223372036854775807) (hlv2 : -9223372036854775808 ≤ lv2 ∧ lv2 ≤ 9223372036854775807) (c : Cfg) (hC : anyC x 6 9 = c) (d : Cfg) (hD : anyC y 6 9 = d) (X1 l : Int) (a1 : bits .and .i64 lv 65535 = X1) (b1 : 0 ≤ X1) (c1 : X1 ≤ 65535) (dd1 : Int.tmod X1 (c.bt + 1) = l) (ee1 : 0 ≤ l) (ff1 : l < c.bt + 1) (X2 k : Int) (a2 : bits .and .i64 lv2 65535 = X2) (b2 : 0 ≤ X2) (c2 : X2 ≤ 65535) (dd2 : Int.tmod X2 (d.bt + 1) = k) (ee2 : 0 ≤ k) (ff2 : k < d.bt + 1) (hxa : exactB c l = false) (hxb : exactB d k = false) (hno : ¬ (cfgE c d = true ∧ l = k)) (hnb : (c.bt == d.bt && (c.rw == d.rw && (c.wd == d.wd && (c.md == d.md && c.sd == d.sd)))) = false ∨ ((c.bt == d.bt && (c.rw == d.rw && (c.wd == d.wd && (c.md == d.md && c.sd == d.sd)))) = true ∧ (l == k) = false)) :
    Calls Tryz.prog 4 #[.agg #[.int .i64 x.bt, .int .i64 x.rw, .int .i64 x.wd, .int .i64 x.md, .int .u64 x.sd], .agg #[.int .i64 y.bt, .int .i64 y.rw, .int .i64 y.wd, .int .i64 y.md, .int .u64 y.sd], .agg #[.int .i64 lv, .int .i64 lv2]] w fun e w' => e = .returned (.bool true) ∧ Below w.heap.size w w' := by
  have hr := any_right x 6 9 (by omega) (by omega) (by omega) (by omega)
  have hco := any_ok x hx 6 9 (by omega) (by omega) (by omega) (by omega)
  rw [hC] at hr hco
  have CA := Lib.hid (fun w => rany_at x 6 9 c w hx (by omega) (by omega) (by omega) (by omega) hC)
  have DA := Lib.hid (fun w => rany_at y 6 9 d w hy (by omega) (by omega) (by omega) (by omega) hD)
  have hbt := hr.1
  have hbt6 := hr.2.1
  have hk1 : 1 ≤ keys c l := keys_pos.2 ⟨hr, by omega, by omega⟩
  have CN := Lib.hid (fun w => vnew_S c l w hco (by omega) (by omega) hk1 hxa)
  have hrd := any_right y 6 9 (by omega) (by omega) (by omega) (by omega)
  have hdo := any_ok y hy 6 9 (by omega) (by omega) (by omega) (by omega)
  rw [hD] at hrd hdo
  have hbd := hrd.1
  have hbd6 := hrd.2.1
  have hk2 : 1 ≤ keys d k := keys_pos.2 ⟨hrd, by omega, by omega⟩
  have DN := Lib.hid (fun w => vnew_S d k w hdo (by omega) (by omega) hk2 hxb)
  have hq9 : rws c * wds c ≤ 1024 := Nat.mul_le_mul (rws_bd hr).2.1 (wds_bd hr).2.1
  have u5 := Sk.one_up (c := c) (l := l) (d := 5) hr hk1 (by omega) (by omega)
  have CU := Lib.hid (fun p F w h => (supd_any p F c l (zerosL (rws c) (wds c)) 0 5 w h (by omega) (by omega) (by omega) (by omega)))
  rw [u5.1, u5.2] at CU
  have hsz := cells_sz (one_in (c := c) (l := l) (d := 5) hk1 (by omega) (by omega))
  have hL := lsz_flat hsz
  obtain ⟨L, hLL⟩ : ∃ L, cells c l [(0, 5)] = L := ⟨_, rfl⟩
  obtain ⟨Z, hZZ⟩ : ∃ Z, zerosL (rws c) (wds c) = Z := ⟨_, rfl⟩
  rw [hLL] at CU hL
  rw [hZZ] at CN CU
  have CC := Lib.hid (fun p F w h => scells_mid p F c l L w h)
  obtain ⟨Q, hQ⟩ : ∃ Q, rws c * wds c = Q := ⟨_, rfl⟩
  rw [hQ] at CC hL hq9
  obtain ⟨M, hMM⟩ : ∃ M, zerosL (rws d) (wds d) = M := ⟨_, rfl⟩
  rw [hMM] at DN
  have CM := Lib.hid (fun p F q G w h g => vmerge_S p F c l L q G d k M w h g)
  rw [(mgS_no (s := 1) (L := L) (M := M) hno).1, (mgS_no (s := 1) (L := L) (M := M) hno).2] at CM
  have CS := Lib.hid (fun p F q G w h g => vsub_S p F c l L q G d k M w h g)
  rw [(mgS_no (s := (-1)) (L := L) (M := M) hno).1, (mgS_no (s := (-1)) (L := L) (M := M) hno).2] at CS
  have CI := Lib.hid (fun p F q G w h g => vinnerU_S p F c l L q G d k M w h g)
  rw [(in_no hno).1, (in_no hno).2, (show Wid.fh 0 = 0 by decide), (show Wid.fl 0 = 0 by decide)] at CI
  have FL := Lib.hid hL
  have eqL : decide (L.flatten = L.flatten) = true := decide_eq_true rfl
  have HBX : Hid (Have w (((w.alloc (.cells #[.int .i64 x.bt, .int .i64 x.rw, .int .i64 x.wd, .int .i64 x.md, .int .u64 x.sd] 24)).alloc (.cells #[.int .i64 y.bt, .int .i64 y.rw, .int .i64 y.wd, .int .i64 y.md, .int .u64 y.sd] 24)).alloc (.cells #[.int .i64 lv, .int .i64 lv2] 57)) [boxT (w.heap.size + 1 + 1) 57 #[.int .i64 lv, .int .i64 lv2], boxT (w.heap.size + 1) 24 #[.int .i64 y.bt, .int .i64 y.rw, .int .i64 y.wd, .int .i64 y.md, .int .u64 y.sd], boxT w.heap.size 24 #[.int .i64 x.bt, .int .i64 x.rw, .int .i64 x.wd, .int .i64 x.md, .int .u64 x.sd]]) := Lib.hid (Inn.three_boxs w _ _ _ _ _ _)
  have hw1 : IntKind.i64.wrap (c.bt + 1) = c.bt + 1 := IntWalk.i64_in _ ⟨by omega, by omega⟩
  have hw2 : wrap64 (c.bt + 1) = c.bt + 1 := IntWalk.wrap64_in _ ⟨by omega, by omega⟩
  have hbn : ¬ c.bt + 1 = 0 := by omega
  have hw3 : IntKind.i64.wrap (d.bt + 1) = d.bt + 1 := IntWalk.i64_in _ ⟨by omega, by omega⟩
  have hw4 : wrap64 (d.bt + 1) = d.bt + 1 := IntWalk.wrap64_in _ ⟨by omega, by omega⟩
  have hdn : ¬ d.bt + 1 = 0 := by omega
  clear hC hD hx hy hr hco hbt hbt6 hk1 hxa c1 c2 u5 hLL hZZ hL hlv hlv2 hsz hQ hrd hdo hbd hbd6 hk2 hxb hMM hno
  go_enter Tryz.func4, Tryz.ntmps4
  go_upto_region 6 with (first
    | (go_at_call 8; (with_reducible refine (DA.out _).mono ?_); rintro e w3 ⟨rfl, hb⟩; have HV3 := Lib.hid ((HV2.out.up hb).push (boxT w3.heap.size 24 #[.int .i64 d.bt, .int .i64 d.rw, .int .i64 d.wd, .int .i64 d.md, .int .u64 d.sd]) (Lw.below_alloc (Below.refl _ _) _) (heap_alloc_new w3 _) (fun k hk => Nat.le_of_eq hk.symm)); clear hb; clear c0 c1 c2 c3 c4 v0 v1 y0 y1 y2 y3 y4; obtain ⟨d0, d1, d2, d3, d4⟩ := box5 HV3.out.i0; obtain ⟨c0, c1, c2, c3, c4⟩ := box5 HV3.out.i1; have v0 := box_cell (i := 0) HV3.out.i2 rfl; have v1 := box_cell (i := 1) HV3.out.i2 rfl)
    | (go_at_call 8; (with_reducible refine (CA.out _).mono ?_); rintro e w2 ⟨rfl, hb⟩; have HV2 := Lib.hid ((HV1.out.up hb).push (boxT w2.heap.size 24 #[.int .i64 c.bt, .int .i64 c.rw, .int .i64 c.wd, .int .i64 c.md, .int .u64 c.sd]) (Lw.below_alloc (Below.refl _ _) _) (heap_alloc_new w2 _) (fun k hk => Nat.le_of_eq hk.symm)); clear hb; clear v0 v1 y0 y1 y2 y3 y4 x0 x1 x2 x3 x4; obtain ⟨c0, c1, c2, c3, c4⟩ := box5 HV2.out.i0; have v0 := box_cell (i := 0) HV2.out.i1 rfl; have v1 := box_cell (i := 1) HV2.out.i1 rfl; obtain ⟨y0, y1, y2, y3, y4⟩ := box5 HV2.out.i2)
    | (go_at_call 7; (with_reducible refine (shown_any _).mono ?_); rintro e w1 ⟨rfl, hb⟩; have HV1 := Lib.hid (HBX.out.up hb); clear hb; have v0 := box_cell (i := 0) HV1.out.i0 rfl; have v1 := box_cell (i := 1) HV1.out.i0 rfl; obtain ⟨y0, y1, y2, y3, y4⟩ := box5 HV1.out.i1; obtain ⟨x0, x1, x2, x3, x4⟩ := box5 HV1.out.i2))
  obtain ⟨gd, hgd⟩ : ∃ gd, w3.heap.size = gd := ⟨_, rfl⟩
  obtain ⟨gc, hgc⟩ : ∃ gc, w2.heap.size = gc := ⟨_, rfl⟩
  rw [hgd, hgc] at HV3 ⊢
  rw [hgd] at d0 d1 d2 d3 d4
  rw [hgc] at c0 c1 c2 c3 c4
  have HV9 := Lib.hid (((HV3.out.drop_2).drop_2).drop_2)
  clear HV3 HV2 HV1 hgd hgc CA DA HBX v0 v1 hw1 hw2 hbn hw3 hw4 hdn a1 a2 b1 b2 dd1 dd2
  go_upto_region 14 with (first
    | (go_at_call 20; (with_reducible refine (CI.out p F2 q G _ (skI HVe.out.i2) (skI HVe.out.i1)).mono ?_); rintro e wf ⟨rfl, hb⟩; have HVf := Lib.hid ((HVe.out.up hb).push (boxT wf.heap.size 49 #[.int .i64 0, .int .u64 0]) (Lw.below_alloc (Below.refl _ _) _) (heap_alloc_new wf _) (fun k hk => Nat.le_of_eq hk.symm)); clear hb; clear c0 c1 c2 c3 c4 d0 d1 d2 d3 d4; obtain ⟨c0, c1, c2, c3, c4⟩ := box5 HVf.out.i5; obtain ⟨d0, d1, d2, d3, d4⟩ := box5 HVf.out.i4)
    | (go_at_call 14; (with_reducible refine (CM.out p F1 q G _ (skI HVd.out.i2) (skI HVd.out.i1)).mono ?_); rintro e we ⟨rfl, F2, h1, h2, h3⟩; have HVe := Lib.hid (HVd.out.turn_2 (skT p F2 c l L) h1 h2 h3); clear h1 h2 h3; clear c0 c1 c2 c3 c4 d0 d1 d2 d3 d4; obtain ⟨c0, c1, c2, c3, c4⟩ := box5 HVe.out.i4; obtain ⟨d0, d1, d2, d3, d4⟩ := box5 HVe.out.i3)
    | (go_at_call 81; (with_reducible refine (CC.out p F1 _ (skI HVc.out.i1)).mono ?_); rintro e wd ⟨g1, cap1, rfl, h1, h2, -, -, hb⟩; have HVd := Lib.hid (HVc.out.push (midT g1 L.flatten) hb h1 (fun k hk => by subst hk; exact h2)); clear h1 h2 hb; clear c0 c1 c2 c3 c4 d0 d1 d2 d3 d4; obtain ⟨c0, c1, c2, c3, c4⟩ := box5 HVd.out.i4; obtain ⟨d0, d1, d2, d3, d4⟩ := box5 HVd.out.i3)
    | (go_at_call 166; (with_reducible refine (CU.out p F _ (skI HVb.out.i1)).mono ?_); rintro e wc ⟨rfl, F1, h1, h2, h3⟩; have HVc := Lib.hid (HVb.out.turn_1 (skT p F1 c l L) h1 h2 h3); clear h1 h2 h3; clear c0 c1 c2 c3 c4 d0 d1 d2 d3 d4; obtain ⟨c0, c1, c2, c3, c4⟩ := box5 HVc.out.i3; obtain ⟨d0, d1, d2, d3, d4⟩ := box5 HVc.out.i2)
    | (go_at_call 9; (with_reducible refine (DN.out _).mono ?_); rintro e wb ⟨q, G, rfl, h1, h2, hb⟩; have HVb := Lib.hid (HVa.out.push (skT q G d k M) hb h1 h2); clear h1 h2 hb; clear c0 c1 c2 c3 c4 d0 d1 d2 d3 d4; obtain ⟨c0, c1, c2, c3, c4⟩ := box5 HVb.out.i3; obtain ⟨d0, d1, d2, d3, d4⟩ := box5 HVb.out.i2)
    | (go_at_call 9; (with_reducible refine (CN.out _).mono ?_); rintro e wa ⟨p, F, rfl, h1, h2, hb⟩; have HVa := Lib.hid (HV9.out.push (skT p F c l Z) hb h1 h2); clear h1 h2 hb; clear c0 c1 c2 c3 c4 d0 d1 d2 d3 d4; obtain ⟨c0, c1, c2, c3, c4⟩ := box5 HVa.out.i2; obtain ⟨d0, d1, d2, d3, d4⟩ := box5 HVa.out.i1))
  rcases hnb with hnb | ⟨hnb, hnl⟩
  all_goals go_wp2_with (first
    | (go_at_call 22; (with_reducible refine (rsame_any _ _ _ _ _ _ L.flatten L.flatten _ (midI HVj.out.i0).rd (midI HVj.out.i2).rd FL.out FL.out (by omega) (by omega)).mono ?_); rintro e wk ⟨rfl, hb⟩; have HVk := Lib.hid (HVj.out.up hb); clear hb)
    | (go_at_call 81; (with_reducible refine (CC.out p F3 _ (skI HVg.out.i3)).mono ?_); rintro e wj ⟨g2, cap2, rfl, h1, h2, -, -, hb⟩; have HVj := Lib.hid (HVg.out.push (midT g2 L.flatten) hb h1 (fun k hk => by subst hk; exact h2)); clear h1 h2 hb)
    | (go_at_call 16; (with_reducible refine (CS.out p F2 q G _ (skI HVf.out.i3) (skI HVf.out.i2)).mono ?_); rintro e wg ⟨rfl, F3, h1, h2, h3⟩; have HVg := Lib.hid (HVf.out.turn_3 (skT p F3 c l L) h1 h2 h3); clear h1 h2 h3))
  all_goals first
    | (go_ret; exact ⟨ret_bs (by first | rfl | (simp [*]; done)), HVk.out.below⟩)
    | (exfalso; simp [*] at hnb; done)
set_option maxRecDepth 100000 in
set_option maxHeartbeats 16000000 in
theorem unl_A_lin (x y : Cfg) (lv lv2 : Int) (w : World) (hx : x.Ok) (hy : y.Ok) (hlv : -9223372036854775808 ≤ lv ∧ lv ≤ 9223372036854775807) (hlv2 : -9223372036854775808 ≤ lv2 ∧ lv2 ≤ 9223372036854775807) (c : Cfg) (hC : anyC x 6 9 = c) (hD : anyC y 6 9 = c) (X1 l : Int) (a1 : bits .and .i64 lv 65535 = X1) (b1 : 0 ≤ X1) (c1 : X1 ≤ 65535) (dd1 : Int.tmod X1 (c.bt + 1) = l) (ee1 : 0 ≤ l) (ff1 : l < c.bt + 1) (X2 : Int) (a2 : bits .and .i64 lv2 65535 = X2) (b2 : 0 ≤ X2) (c2 : X2 ≤ 65535) (dd2 : Int.tmod X2 (c.bt + 1) = l) (hxa : exactB c l = true) (hmd : c.md = 1) :
    Calls Tryz.prog 4 #[.agg #[.int .i64 x.bt, .int .i64 x.rw, .int .i64 x.wd, .int .i64 x.md, .int .u64 x.sd], .agg #[.int .i64 y.bt, .int .i64 y.rw, .int .i64 y.wd, .int .i64 y.md, .int .u64 y.sd], .agg #[.int .i64 lv, .int .i64 lv2]] w fun e w' => e = .returned (.bool true) ∧ Below w.heap.size w w' := by
  have hr := any_right x 6 9 (by omega) (by omega) (by omega) (by omega)
  have hco := any_ok x hx 6 9 (by omega) (by omega) (by omega) (by omega)
  rw [hC] at hr hco
  have CA := Lib.hid (fun w => rany_at x 6 9 c w hx (by omega) (by omega) (by omega) (by omega) hC)
  have DA := Lib.hid (fun w => rany_at y 6 9 c w hy (by omega) (by omega) (by omega) (by omega) hD)
  have hbt := hr.1
  have hbt6 := hr.2.1
  have hk1 : 1 ≤ keys c l := keys_pos.2 ⟨hr, by omega, by omega⟩
  have CN := Lib.hid (fun w => vnew_A c l w hco (by omega) (by omega) hxa)
  have hkx := exact_len hxa
  obtain ⟨n, hn⟩ : ∃ n : Nat, keys c l = (n : Int) := ⟨(keys c l).toNat, by omega⟩
  rw [hn, Int.toNat_natCast] at CN
  have hn1 : 1 ≤ n := by omega
  have hn8 : n ≤ 128 := by omega
  have u5 := Exa.one_up (md := c.md) (d := 5) hn1 (by omega) (by omega)
  have CU := Lib.hid (fun p F w h => (eupd_any p F c l (List.replicate n 0) 0 5 w h (by omega) (by omega) (by omega) (by omega)))
  rw [u5.1, u5.2] at CU
  have hL : ((List.replicate n (0 : Int)).set 0 5).length = n := by simp
  have hz := ai_zero (c := c) (L := (List.replicate n (0 : Int)).set 0 5)
  rw [hL] at hz
  obtain ⟨L, hLL⟩ : ∃ L, (List.replicate n (0 : Int)).set 0 5 = L := ⟨_, rfl⟩
  obtain ⟨Z, hZZ⟩ : ∃ Z, List.replicate n (0 : Int) = Z := ⟨_, rfl⟩
  rw [hLL] at CU hL hz
  rw [hZZ] at CN CU hz
  have CC := Lib.hid (fun p F w h => ecells_mid p F c l L w h)
  rw [hL] at CC
  have DN := CN
  have CM := Lib.hid (fun p F q G w h g => vmerge_A p F c l L q G c l Z w h g)
  have CI := Lib.hid (fun p F q G w h g => vinner_A p F c l L q G Z w h g)
  rw [hz.1 hmd, hz.2.2.1, hz.2.2.2] at CI
  have hzz : List.replicate L.length (0 : Int) = Z := by rw [hL]; exact hZZ
  have IL : Hid (∀ p F w, EX w p F c l L → mgC 1 c c l l L Z = 0 ∧ mgR 1 c c l l L Z = L) := Lib.hid (fun p F w h => by rw [← hzz]; exact mgA_zero h.in64)
  have hmq : (c.md == 1) = true := by simp [hmd]
  have FL := Lib.hid hL
  have eqL : decide (L = L) = true := decide_eq_true rfl
  have HBX : Hid (Have w (((w.alloc (.cells #[.int .i64 x.bt, .int .i64 x.rw, .int .i64 x.wd, .int .i64 x.md, .int .u64 x.sd] 24)).alloc (.cells #[.int .i64 y.bt, .int .i64 y.rw, .int .i64 y.wd, .int .i64 y.md, .int .u64 y.sd] 24)).alloc (.cells #[.int .i64 lv, .int .i64 lv2] 57)) [boxT (w.heap.size + 1 + 1) 57 #[.int .i64 lv, .int .i64 lv2], boxT (w.heap.size + 1) 24 #[.int .i64 y.bt, .int .i64 y.rw, .int .i64 y.wd, .int .i64 y.md, .int .u64 y.sd], boxT w.heap.size 24 #[.int .i64 x.bt, .int .i64 x.rw, .int .i64 x.wd, .int .i64 x.md, .int .u64 x.sd]]) := Lib.hid (Inn.three_boxs w _ _ _ _ _ _)
  have hw1 : IntKind.i64.wrap (c.bt + 1) = c.bt + 1 := IntWalk.i64_in _ ⟨by omega, by omega⟩
  have hw2 : wrap64 (c.bt + 1) = c.bt + 1 := IntWalk.wrap64_in _ ⟨by omega, by omega⟩
  have hbn : ¬ c.bt + 1 = 0 := by omega
  clear hC hD hx hy hr hco hbt hbt6 hk1 hxa c1 c2 u5 hLL hZZ hL hlv hlv2 hkx hn hn1 hmd hz hzz
  go_enter Tryz.func4, Tryz.ntmps4
  go_upto_region 6 with (first
    | (go_at_call 8; (with_reducible refine (DA.out _).mono ?_); rintro e w3 ⟨rfl, hb⟩; have HV3 := Lib.hid ((HV2.out.up hb).push (boxT w3.heap.size 24 #[.int .i64 c.bt, .int .i64 c.rw, .int .i64 c.wd, .int .i64 c.md, .int .u64 c.sd]) (Lw.below_alloc (Below.refl _ _) _) (heap_alloc_new w3 _) (fun k hk => Nat.le_of_eq hk.symm)); clear hb; clear c0 c1 c2 c3 c4 v0 v1 y0 y1 y2 y3 y4; obtain ⟨d0, d1, d2, d3, d4⟩ := box5 HV3.out.i0; obtain ⟨c0, c1, c2, c3, c4⟩ := box5 HV3.out.i1; have v0 := box_cell (i := 0) HV3.out.i2 rfl; have v1 := box_cell (i := 1) HV3.out.i2 rfl)
    | (go_at_call 8; (with_reducible refine (CA.out _).mono ?_); rintro e w2 ⟨rfl, hb⟩; have HV2 := Lib.hid ((HV1.out.up hb).push (boxT w2.heap.size 24 #[.int .i64 c.bt, .int .i64 c.rw, .int .i64 c.wd, .int .i64 c.md, .int .u64 c.sd]) (Lw.below_alloc (Below.refl _ _) _) (heap_alloc_new w2 _) (fun k hk => Nat.le_of_eq hk.symm)); clear hb; clear v0 v1 y0 y1 y2 y3 y4 x0 x1 x2 x3 x4; obtain ⟨c0, c1, c2, c3, c4⟩ := box5 HV2.out.i0; have v0 := box_cell (i := 0) HV2.out.i1 rfl; have v1 := box_cell (i := 1) HV2.out.i1 rfl; obtain ⟨y0, y1, y2, y3, y4⟩ := box5 HV2.out.i2)
    | (go_at_call 7; (with_reducible refine (shown_any _).mono ?_); rintro e w1 ⟨rfl, hb⟩; have HV1 := Lib.hid (HBX.out.up hb); clear hb; have v0 := box_cell (i := 0) HV1.out.i0 rfl; have v1 := box_cell (i := 1) HV1.out.i0 rfl; obtain ⟨y0, y1, y2, y3, y4⟩ := box5 HV1.out.i1; obtain ⟨x0, x1, x2, x3, x4⟩ := box5 HV1.out.i2))
  obtain ⟨gd, hgd⟩ : ∃ gd, w3.heap.size = gd := ⟨_, rfl⟩
  obtain ⟨gc, hgc⟩ : ∃ gc, w2.heap.size = gc := ⟨_, rfl⟩
  rw [hgd, hgc] at HV3 ⊢
  rw [hgd] at d0 d1 d2 d3 d4
  rw [hgc] at c0 c1 c2 c3 c4
  have HV9 := Lib.hid (((HV3.out.drop_2).drop_2).drop_2)
  clear HV3 HV2 HV1 hgd hgc CA DA HBX v0 v1 hw1 hw2 hbn a1 a2 b1 b2 dd1 dd2
  go_upto_region 14 with (first
    | (go_at_call 20; (with_reducible refine (CI.out p F2 q G _ (exI HVe.out.i2) (exI HVe.out.i1)).mono ?_); rintro e wf ⟨rfl, hb⟩; have HVf := Lib.hid ((HVe.out.up hb).push (boxT wf.heap.size 49 #[.int .i64 0, .int .u64 0]) (Lw.below_alloc (Below.refl _ _) _) (heap_alloc_new wf _) (fun k hk => Nat.le_of_eq hk.symm)); clear hb; clear c0 c1 c2 c3 c4 d0 d1 d2 d3 d4; obtain ⟨c0, c1, c2, c3, c4⟩ := box5 HVf.out.i5; obtain ⟨d0, d1, d2, d3, d4⟩ := box5 HVf.out.i4)
    | (go_at_call 14; (with_reducible refine (CM.out p F1 q G _ (exI HVd.out.i2) (exI HVd.out.i1)).mono ?_); rintro e we ⟨he, F2, h1, h2, h3⟩; have hI := IL.out p F1 _ (exI HVd.out.i2); rw [hI.1] at he; rw [hI.2] at h1; subst he; clear hI; have HVe := Lib.hid (HVd.out.turn_2 (exT p F2 c l L) h1 h2 h3); clear h1 h2 h3; clear c0 c1 c2 c3 c4 d0 d1 d2 d3 d4; obtain ⟨c0, c1, c2, c3, c4⟩ := box5 HVe.out.i4; obtain ⟨d0, d1, d2, d3, d4⟩ := box5 HVe.out.i3)
    | (go_at_call 87; (with_reducible refine (CC.out p F1 _ (exI HVc.out.i1)).mono ?_); rintro e wd ⟨g1, cap1, rfl, h1, h2, -, -, hb⟩; have HVd := Lib.hid (HVc.out.push (midT g1 L) hb h1 (fun k hk => by subst hk; exact h2)); clear h1 h2 hb; clear c0 c1 c2 c3 c4 d0 d1 d2 d3 d4; obtain ⟨c0, c1, c2, c3, c4⟩ := box5 HVd.out.i4; obtain ⟨d0, d1, d2, d3, d4⟩ := box5 HVd.out.i3)
    | (go_at_call 183; (with_reducible refine (CU.out p F _ (exI HVb.out.i1)).mono ?_); rintro e wc ⟨rfl, F1, h1, h2, h3⟩; have HVc := Lib.hid (HVb.out.turn_1 (exT p F1 c l L) h1 h2 h3); clear h1 h2 h3; clear c0 c1 c2 c3 c4 d0 d1 d2 d3 d4; obtain ⟨c0, c1, c2, c3, c4⟩ := box5 HVc.out.i3; obtain ⟨d0, d1, d2, d3, d4⟩ := box5 HVc.out.i2)
    | (go_at_call 9; (with_reducible refine (DN.out _).mono ?_); rintro e wb ⟨q, G, rfl, h1, h2, hb⟩; have HVb := Lib.hid (HVa.out.push (exT q G c l Z) hb h1 h2); clear h1 h2 hb; clear c0 c1 c2 c3 c4 d0 d1 d2 d3 d4; obtain ⟨c0, c1, c2, c3, c4⟩ := box5 HVb.out.i3; obtain ⟨d0, d1, d2, d3, d4⟩ := box5 HVb.out.i2)
    | (go_at_call 9; (with_reducible refine (CN.out _).mono ?_); rintro e wa ⟨p, F, rfl, h1, h2, hb⟩; have HVa := Lib.hid (HV9.out.push (exT p F c l Z) hb h1 h2); clear h1 h2 hb; clear c0 c1 c2 c3 c4 d0 d1 d2 d3 d4; obtain ⟨c0, c1, c2, c3, c4⟩ := box5 HVa.out.i2; obtain ⟨d0, d1, d2, d3, d4⟩ := box5 HVa.out.i1))
  go_wp2_with (first
    | (go_at_call 22; (with_reducible refine (rsame_any _ _ _ _ _ _ L L _ (midI HVj.out.i0).rd (midI HVj.out.i2).rd FL.out FL.out (by omega) (by omega)).mono ?_); rintro e wk ⟨rfl, hb⟩; have HVk := Lib.hid (HVj.out.up hb); clear hb)
    | (go_at_call 87; (with_reducible refine (CC.out p F2 _ (exI HVf.out.i3)).mono ?_); rintro e wj ⟨g2, cap2, rfl, h1, h2, -, -, hb⟩; have HVj := Lib.hid (HVf.out.push (midT g2 L) hb h1 (fun k hk => by subst hk; exact h2)); clear h1 h2 hb))
  go_ret
  exact ⟨ret_bs (by first | rfl | (simp [*]; done)), HVk.out.below⟩
set_option maxRecDepth 100000 in
set_option maxHeartbeats 16000000 in
theorem unl_A_oth (x y : Cfg) (lv lv2 : Int) (w : World) (hx : x.Ok) (hy : y.Ok) (hlv : -9223372036854775808 ≤ lv ∧ lv ≤ 9223372036854775807) (hlv2 : -9223372036854775808 ≤ lv2 ∧ lv2 ≤ 9223372036854775807) (c : Cfg) (hC : anyC x 6 9 = c) (hD : anyC y 6 9 = c) (X1 l : Int) (a1 : bits .and .i64 lv 65535 = X1) (b1 : 0 ≤ X1) (c1 : X1 ≤ 65535) (dd1 : Int.tmod X1 (c.bt + 1) = l) (ee1 : 0 ≤ l) (ff1 : l < c.bt + 1) (X2 : Int) (a2 : bits .and .i64 lv2 65535 = X2) (b2 : 0 ≤ X2) (c2 : X2 ≤ 65535) (dd2 : Int.tmod X2 (c.bt + 1) = l) (hxa : exactB c l = true) (hmd : ¬ c.md = 1) :
    Calls Tryz.prog 4 #[.agg #[.int .i64 x.bt, .int .i64 x.rw, .int .i64 x.wd, .int .i64 x.md, .int .u64 x.sd], .agg #[.int .i64 y.bt, .int .i64 y.rw, .int .i64 y.wd, .int .i64 y.md, .int .u64 y.sd], .agg #[.int .i64 lv, .int .i64 lv2]] w fun e w' => e = .returned (.bool true) ∧ Below w.heap.size w w' := by
  have hr := any_right x 6 9 (by omega) (by omega) (by omega) (by omega)
  have hco := any_ok x hx 6 9 (by omega) (by omega) (by omega) (by omega)
  rw [hC] at hr hco
  have CA := Lib.hid (fun w => rany_at x 6 9 c w hx (by omega) (by omega) (by omega) (by omega) hC)
  have DA := Lib.hid (fun w => rany_at y 6 9 c w hy (by omega) (by omega) (by omega) (by omega) hD)
  have hbt := hr.1
  have hbt6 := hr.2.1
  have hk1 : 1 ≤ keys c l := keys_pos.2 ⟨hr, by omega, by omega⟩
  have CN := Lib.hid (fun w => vnew_A c l w hco (by omega) (by omega) hxa)
  have hkx := exact_len hxa
  obtain ⟨n, hn⟩ : ∃ n : Nat, keys c l = (n : Int) := ⟨(keys c l).toNat, by omega⟩
  rw [hn, Int.toNat_natCast] at CN
  have hn1 : 1 ≤ n := by omega
  have hn8 : n ≤ 128 := by omega
  have u5 := Exa.one_up (md := c.md) (d := 5) hn1 (by omega) (by omega)
  have CU := Lib.hid (fun p F w h => (eupd_any p F c l (List.replicate n 0) 0 5 w h (by omega) (by omega) (by omega) (by omega)))
  rw [u5.1, u5.2] at CU
  have hL : ((List.replicate n (0 : Int)).set 0 5).length = n := by simp
  have hz := ai_zero (c := c) (L := (List.replicate n (0 : Int)).set 0 5)
  rw [hL] at hz
  obtain ⟨L, hLL⟩ : ∃ L, (List.replicate n (0 : Int)).set 0 5 = L := ⟨_, rfl⟩
  obtain ⟨Z, hZZ⟩ : ∃ Z, List.replicate n (0 : Int) = Z := ⟨_, rfl⟩
  rw [hLL] at CU hL hz
  rw [hZZ] at CN CU hz
  have CC := Lib.hid (fun p F w h => ecells_mid p F c l L w h)
  rw [hL] at CC
  have DN := CN
  have CM := Lib.hid (fun p F q G w h g => vmerge_A p F c l L q G c l Z w h g)
  have CI := Lib.hid (fun p F q G w h g => vinner_A p F c l L q G Z w h g)
  rw [hz.2.1 hmd, hz.2.2.1, hz.2.2.2] at CI
  have hzz : List.replicate L.length (0 : Int) = Z := by rw [hL]; exact hZZ
  have IL : Hid (∀ p F w, EX w p F c l L → mgC 1 c c l l L Z = 0 ∧ mgR 1 c c l l L Z = L) := Lib.hid (fun p F w h => by rw [← hzz]; exact mgA_zero h.in64)
  have hmq : (c.md == 1) = false := by simpa using hmd
  have FL := Lib.hid hL
  have eqL : decide (L = L) = true := decide_eq_true rfl
  have HBX : Hid (Have w (((w.alloc (.cells #[.int .i64 x.bt, .int .i64 x.rw, .int .i64 x.wd, .int .i64 x.md, .int .u64 x.sd] 24)).alloc (.cells #[.int .i64 y.bt, .int .i64 y.rw, .int .i64 y.wd, .int .i64 y.md, .int .u64 y.sd] 24)).alloc (.cells #[.int .i64 lv, .int .i64 lv2] 57)) [boxT (w.heap.size + 1 + 1) 57 #[.int .i64 lv, .int .i64 lv2], boxT (w.heap.size + 1) 24 #[.int .i64 y.bt, .int .i64 y.rw, .int .i64 y.wd, .int .i64 y.md, .int .u64 y.sd], boxT w.heap.size 24 #[.int .i64 x.bt, .int .i64 x.rw, .int .i64 x.wd, .int .i64 x.md, .int .u64 x.sd]]) := Lib.hid (Inn.three_boxs w _ _ _ _ _ _)
  have hw1 : IntKind.i64.wrap (c.bt + 1) = c.bt + 1 := IntWalk.i64_in _ ⟨by omega, by omega⟩
  have hw2 : wrap64 (c.bt + 1) = c.bt + 1 := IntWalk.wrap64_in _ ⟨by omega, by omega⟩
  have hbn : ¬ c.bt + 1 = 0 := by omega
  clear hC hD hx hy hr hco hbt hbt6 hk1 hxa c1 c2 u5 hLL hZZ hL hlv hlv2 hkx hn hn1 hmd hz hzz
  go_enter Tryz.func4, Tryz.ntmps4
  go_upto_region 6 with (first
    | (go_at_call 8; (with_reducible refine (DA.out _).mono ?_); rintro e w3 ⟨rfl, hb⟩; have HV3 := Lib.hid ((HV2.out.up hb).push (boxT w3.heap.size 24 #[.int .i64 c.bt, .int .i64 c.rw, .int .i64 c.wd, .int .i64 c.md, .int .u64 c.sd]) (Lw.below_alloc (Below.refl _ _) _) (heap_alloc_new w3 _) (fun k hk => Nat.le_of_eq hk.symm)); clear hb; clear c0 c1 c2 c3 c4 v0 v1 y0 y1 y2 y3 y4; obtain ⟨d0, d1, d2, d3, d4⟩ := box5 HV3.out.i0; obtain ⟨c0, c1, c2, c3, c4⟩ := box5 HV3.out.i1; have v0 := box_cell (i := 0) HV3.out.i2 rfl; have v1 := box_cell (i := 1) HV3.out.i2 rfl)
    | (go_at_call 8; (with_reducible refine (CA.out _).mono ?_); rintro e w2 ⟨rfl, hb⟩; have HV2 := Lib.hid ((HV1.out.up hb).push (boxT w2.heap.size 24 #[.int .i64 c.bt, .int .i64 c.rw, .int .i64 c.wd, .int .i64 c.md, .int .u64 c.sd]) (Lw.below_alloc (Below.refl _ _) _) (heap_alloc_new w2 _) (fun k hk => Nat.le_of_eq hk.symm)); clear hb; clear v0 v1 y0 y1 y2 y3 y4 x0 x1 x2 x3 x4; obtain ⟨c0, c1, c2, c3, c4⟩ := box5 HV2.out.i0; have v0 := box_cell (i := 0) HV2.out.i1 rfl; have v1 := box_cell (i := 1) HV2.out.i1 rfl; obtain ⟨y0, y1, y2, y3, y4⟩ := box5 HV2.out.i2)
    | (go_at_call 7; (with_reducible refine (shown_any _).mono ?_); rintro e w1 ⟨rfl, hb⟩; have HV1 := Lib.hid (HBX.out.up hb); clear hb; have v0 := box_cell (i := 0) HV1.out.i0 rfl; have v1 := box_cell (i := 1) HV1.out.i0 rfl; obtain ⟨y0, y1, y2, y3, y4⟩ := box5 HV1.out.i1; obtain ⟨x0, x1, x2, x3, x4⟩ := box5 HV1.out.i2))
  obtain ⟨gd, hgd⟩ : ∃ gd, w3.heap.size = gd := ⟨_, rfl⟩
  obtain ⟨gc, hgc⟩ : ∃ gc, w2.heap.size = gc := ⟨_, rfl⟩
  rw [hgd, hgc] at HV3 ⊢
  rw [hgd] at d0 d1 d2 d3 d4
  rw [hgc] at c0 c1 c2 c3 c4
  have HV9 := Lib.hid (((HV3.out.drop_2).drop_2).drop_2)
  clear HV3 HV2 HV1 hgd hgc CA DA HBX v0 v1 hw1 hw2 hbn a1 a2 b1 b2 dd1 dd2
  go_upto_region 14 with (first
    | (go_at_call 20; (with_reducible refine (CI.out p F2 q G _ (exI HVe.out.i2) (exI HVe.out.i1)).mono ?_); rintro e wf ⟨rfl, hb⟩; have HVf := Lib.hid ((HVe.out.up hb).push (boxT wf.heap.size 49 #[.int .i64 0, .int .u64 0]) (Lw.below_alloc (Below.refl _ _) _) (heap_alloc_new wf _) (fun k hk => Nat.le_of_eq hk.symm)); clear hb; clear c0 c1 c2 c3 c4 d0 d1 d2 d3 d4; obtain ⟨c0, c1, c2, c3, c4⟩ := box5 HVf.out.i5; obtain ⟨d0, d1, d2, d3, d4⟩ := box5 HVf.out.i4)
    | (go_at_call 14; (with_reducible refine (CM.out p F1 q G _ (exI HVd.out.i2) (exI HVd.out.i1)).mono ?_); rintro e we ⟨he, F2, h1, h2, h3⟩; have hI := IL.out p F1 _ (exI HVd.out.i2); rw [hI.1] at he; rw [hI.2] at h1; subst he; clear hI; have HVe := Lib.hid (HVd.out.turn_2 (exT p F2 c l L) h1 h2 h3); clear h1 h2 h3; clear c0 c1 c2 c3 c4 d0 d1 d2 d3 d4; obtain ⟨c0, c1, c2, c3, c4⟩ := box5 HVe.out.i4; obtain ⟨d0, d1, d2, d3, d4⟩ := box5 HVe.out.i3)
    | (go_at_call 87; (with_reducible refine (CC.out p F1 _ (exI HVc.out.i1)).mono ?_); rintro e wd ⟨g1, cap1, rfl, h1, h2, -, -, hb⟩; have HVd := Lib.hid (HVc.out.push (midT g1 L) hb h1 (fun k hk => by subst hk; exact h2)); clear h1 h2 hb; clear c0 c1 c2 c3 c4 d0 d1 d2 d3 d4; obtain ⟨c0, c1, c2, c3, c4⟩ := box5 HVd.out.i4; obtain ⟨d0, d1, d2, d3, d4⟩ := box5 HVd.out.i3)
    | (go_at_call 183; (with_reducible refine (CU.out p F _ (exI HVb.out.i1)).mono ?_); rintro e wc ⟨rfl, F1, h1, h2, h3⟩; have HVc := Lib.hid (HVb.out.turn_1 (exT p F1 c l L) h1 h2 h3); clear h1 h2 h3; clear c0 c1 c2 c3 c4 d0 d1 d2 d3 d4; obtain ⟨c0, c1, c2, c3, c4⟩ := box5 HVc.out.i3; obtain ⟨d0, d1, d2, d3, d4⟩ := box5 HVc.out.i2)
    | (go_at_call 9; (with_reducible refine (DN.out _).mono ?_); rintro e wb ⟨q, G, rfl, h1, h2, hb⟩; have HVb := Lib.hid (HVa.out.push (exT q G c l Z) hb h1 h2); clear h1 h2 hb; clear c0 c1 c2 c3 c4 d0 d1 d2 d3 d4; obtain ⟨c0, c1, c2, c3, c4⟩ := box5 HVb.out.i3; obtain ⟨d0, d1, d2, d3, d4⟩ := box5 HVb.out.i2)
    | (go_at_call 9; (with_reducible refine (CN.out _).mono ?_); rintro e wa ⟨p, F, rfl, h1, h2, hb⟩; have HVa := Lib.hid (HV9.out.push (exT p F c l Z) hb h1 h2); clear h1 h2 hb; clear c0 c1 c2 c3 c4 d0 d1 d2 d3 d4; obtain ⟨c0, c1, c2, c3, c4⟩ := box5 HVa.out.i2; obtain ⟨d0, d1, d2, d3, d4⟩ := box5 HVa.out.i1))
  go_wp2_with (first
    | (go_at_call 22; (with_reducible refine (rsame_any _ _ _ _ _ _ L L _ (midI HVj.out.i0).rd (midI HVj.out.i2).rd FL.out FL.out (by omega) (by omega)).mono ?_); rintro e wk ⟨rfl, hb⟩; have HVk := Lib.hid (HVj.out.up hb); clear hb)
    | (go_at_call 87; (with_reducible refine (CC.out p F2 _ (exI HVf.out.i3)).mono ?_); rintro e wj ⟨g2, cap2, rfl, h1, h2, -, -, hb⟩; have HVj := Lib.hid (HVf.out.push (midT g2 L) hb h1 (fun k hk => by subst hk; exact h2)); clear h1 h2 hb))
  go_ret
  exact ⟨ret_bs (by first | rfl | (simp [*]; done)), HVk.out.below⟩
set_option maxRecDepth 100000 in
set_option maxHeartbeats 16000000 in
theorem unl_S_lin (x y : Cfg) (lv lv2 : Int) (w : World) (hx : x.Ok) (hy : y.Ok) (hlv : -9223372036854775808 ≤ lv ∧ lv ≤ 9223372036854775807) (hlv2 : -9223372036854775808 ≤ lv2 ∧ lv2 ≤ 9223372036854775807) (c : Cfg) (hC : anyC x 6 9 = c) (hD : anyC y 6 9 = c) (X1 l : Int) (a1 : bits .and .i64 lv 65535 = X1) (b1 : 0 ≤ X1) (c1 : X1 ≤ 65535) (dd1 : Int.tmod X1 (c.bt + 1) = l) (ee1 : 0 ≤ l) (ff1 : l < c.bt + 1) (X2 : Int) (a2 : bits .and .i64 lv2 65535 = X2) (b2 : 0 ≤ X2) (c2 : X2 ≤ 65535) (dd2 : Int.tmod X2 (c.bt + 1) = l) (hxa : exactB c l = false) (hmd : c.md = 1) :
    Calls Tryz.prog 4 #[.agg #[.int .i64 x.bt, .int .i64 x.rw, .int .i64 x.wd, .int .i64 x.md, .int .u64 x.sd], .agg #[.int .i64 y.bt, .int .i64 y.rw, .int .i64 y.wd, .int .i64 y.md, .int .u64 y.sd], .agg #[.int .i64 lv, .int .i64 lv2]] w fun e w' => e = .returned (.bool true) ∧ Below w.heap.size w w' := by
  have hr := any_right x 6 9 (by omega) (by omega) (by omega) (by omega)
  have hco := any_ok x hx 6 9 (by omega) (by omega) (by omega) (by omega)
  rw [hC] at hr hco
  have CA := Lib.hid (fun w => rany_at x 6 9 c w hx (by omega) (by omega) (by omega) (by omega) hC)
  have DA := Lib.hid (fun w => rany_at y 6 9 c w hy (by omega) (by omega) (by omega) (by omega) hD)
  have hbt := hr.1
  have hbt6 := hr.2.1
  have hk1 : 1 ≤ keys c l := keys_pos.2 ⟨hr, by omega, by omega⟩
  have CN := Lib.hid (fun w => vnew_S c l w hco (by omega) (by omega) hk1 hxa)
  have hq9 : rws c * wds c ≤ 1024 := Nat.mul_le_mul (rws_bd hr).2.1 (wds_bd hr).2.1
  have u5 := Sk.one_up (c := c) (l := l) (d := 5) hr hk1 (by omega) (by omega)
  have CU := Lib.hid (fun p F w h => (supd_any p F c l (zerosL (rws c) (wds c)) 0 5 w h (by omega) (by omega) (by omega) (by omega)))
  rw [u5.1, u5.2] at CU
  have hsz := cells_sz (one_in (c := c) (l := l) (d := 5) hk1 (by omega) (by omega))
  have hL := lsz_flat hsz
  have hz : inCode c c l l (cells c l [(0, 5)]) (zerosL (rws c) (wds c)) = 0 ∧ inVal c c l l (cells c l [(0, 5)]) (zerosL (rws c) (wds c)) = 0 := in_zero hr hmd hsz
  obtain ⟨L, hLL⟩ : ∃ L, cells c l [(0, 5)] = L := ⟨_, rfl⟩
  obtain ⟨Z, hZZ⟩ : ∃ Z, zerosL (rws c) (wds c) = Z := ⟨_, rfl⟩
  rw [hLL] at CU hL hz
  rw [hZZ] at CN CU hz
  have CC := Lib.hid (fun p F w h => scells_mid p F c l L w h)
  obtain ⟨Q, hQ⟩ : ∃ Q, rws c * wds c = Q := ⟨_, rfl⟩
  rw [hQ] at CC hL hq9
  have DN := CN
  have CM := Lib.hid (fun p F q G w h g => vmerge_S p F c l L q G c l Z w h g)
  have CI := Lib.hid (fun p F q G w h g => vinner_S p F c l L q G Z w h g)
  rw [hz.1, hz.2, (show Wid.fh 0 = 0 by decide), (show Wid.fl 0 = 0 by decide)] at CI
  have IL : Hid (∀ p F w, SK w p F c l L → mgCode 1 c c l l L Z = 0 ∧ mgRes 1 c c l l L Z = L) := Lib.hid (fun p F w h => by rw [← hZZ]; exact mgS_zero h.dims)
  have hmq : (c.md == 1) = true := by simp [hmd]
  have FL := Lib.hid hL
  have eqL : decide (L.flatten = L.flatten) = true := decide_eq_true rfl
  have HBX : Hid (Have w (((w.alloc (.cells #[.int .i64 x.bt, .int .i64 x.rw, .int .i64 x.wd, .int .i64 x.md, .int .u64 x.sd] 24)).alloc (.cells #[.int .i64 y.bt, .int .i64 y.rw, .int .i64 y.wd, .int .i64 y.md, .int .u64 y.sd] 24)).alloc (.cells #[.int .i64 lv, .int .i64 lv2] 57)) [boxT (w.heap.size + 1 + 1) 57 #[.int .i64 lv, .int .i64 lv2], boxT (w.heap.size + 1) 24 #[.int .i64 y.bt, .int .i64 y.rw, .int .i64 y.wd, .int .i64 y.md, .int .u64 y.sd], boxT w.heap.size 24 #[.int .i64 x.bt, .int .i64 x.rw, .int .i64 x.wd, .int .i64 x.md, .int .u64 x.sd]]) := Lib.hid (Inn.three_boxs w _ _ _ _ _ _)
  have hw1 : IntKind.i64.wrap (c.bt + 1) = c.bt + 1 := IntWalk.i64_in _ ⟨by omega, by omega⟩
  have hw2 : wrap64 (c.bt + 1) = c.bt + 1 := IntWalk.wrap64_in _ ⟨by omega, by omega⟩
  have hbn : ¬ c.bt + 1 = 0 := by omega
  clear hC hD hx hy hr hco hbt hbt6 hk1 hxa c1 c2 u5 hLL hZZ hL hlv hlv2 hsz hQ hmd hz
  go_enter Tryz.func4, Tryz.ntmps4
  go_upto_region 6 with (first
    | (go_at_call 8; (with_reducible refine (DA.out _).mono ?_); rintro e w3 ⟨rfl, hb⟩; have HV3 := Lib.hid ((HV2.out.up hb).push (boxT w3.heap.size 24 #[.int .i64 c.bt, .int .i64 c.rw, .int .i64 c.wd, .int .i64 c.md, .int .u64 c.sd]) (Lw.below_alloc (Below.refl _ _) _) (heap_alloc_new w3 _) (fun k hk => Nat.le_of_eq hk.symm)); clear hb; clear c0 c1 c2 c3 c4 v0 v1 y0 y1 y2 y3 y4; obtain ⟨d0, d1, d2, d3, d4⟩ := box5 HV3.out.i0; obtain ⟨c0, c1, c2, c3, c4⟩ := box5 HV3.out.i1; have v0 := box_cell (i := 0) HV3.out.i2 rfl; have v1 := box_cell (i := 1) HV3.out.i2 rfl)
    | (go_at_call 8; (with_reducible refine (CA.out _).mono ?_); rintro e w2 ⟨rfl, hb⟩; have HV2 := Lib.hid ((HV1.out.up hb).push (boxT w2.heap.size 24 #[.int .i64 c.bt, .int .i64 c.rw, .int .i64 c.wd, .int .i64 c.md, .int .u64 c.sd]) (Lw.below_alloc (Below.refl _ _) _) (heap_alloc_new w2 _) (fun k hk => Nat.le_of_eq hk.symm)); clear hb; clear v0 v1 y0 y1 y2 y3 y4 x0 x1 x2 x3 x4; obtain ⟨c0, c1, c2, c3, c4⟩ := box5 HV2.out.i0; have v0 := box_cell (i := 0) HV2.out.i1 rfl; have v1 := box_cell (i := 1) HV2.out.i1 rfl; obtain ⟨y0, y1, y2, y3, y4⟩ := box5 HV2.out.i2)
    | (go_at_call 7; (with_reducible refine (shown_any _).mono ?_); rintro e w1 ⟨rfl, hb⟩; have HV1 := Lib.hid (HBX.out.up hb); clear hb; have v0 := box_cell (i := 0) HV1.out.i0 rfl; have v1 := box_cell (i := 1) HV1.out.i0 rfl; obtain ⟨y0, y1, y2, y3, y4⟩ := box5 HV1.out.i1; obtain ⟨x0, x1, x2, x3, x4⟩ := box5 HV1.out.i2))
  obtain ⟨gd, hgd⟩ : ∃ gd, w3.heap.size = gd := ⟨_, rfl⟩
  obtain ⟨gc, hgc⟩ : ∃ gc, w2.heap.size = gc := ⟨_, rfl⟩
  rw [hgd, hgc] at HV3 ⊢
  rw [hgd] at d0 d1 d2 d3 d4
  rw [hgc] at c0 c1 c2 c3 c4
  have HV9 := Lib.hid (((HV3.out.drop_2).drop_2).drop_2)
  clear HV3 HV2 HV1 hgd hgc CA DA HBX v0 v1 hw1 hw2 hbn a1 a2 b1 b2 dd1 dd2
  go_upto_region 14 with (first
    | (go_at_call 20; (with_reducible refine (CI.out p F2 q G _ (skI HVe.out.i2) (skI HVe.out.i1)).mono ?_); rintro e wf ⟨rfl, hb⟩; have HVf := Lib.hid ((HVe.out.up hb).push (boxT wf.heap.size 49 #[.int .i64 0, .int .u64 0]) (Lw.below_alloc (Below.refl _ _) _) (heap_alloc_new wf _) (fun k hk => Nat.le_of_eq hk.symm)); clear hb; clear c0 c1 c2 c3 c4 d0 d1 d2 d3 d4; obtain ⟨c0, c1, c2, c3, c4⟩ := box5 HVf.out.i5; obtain ⟨d0, d1, d2, d3, d4⟩ := box5 HVf.out.i4)
    | (go_at_call 14; (with_reducible refine (CM.out p F1 q G _ (skI HVd.out.i2) (skI HVd.out.i1)).mono ?_); rintro e we ⟨he, F2, h1, h2, h3⟩; have hI := IL.out p F1 _ (skI HVd.out.i2); rw [hI.1] at he; rw [hI.2] at h1; subst he; clear hI; have HVe := Lib.hid (HVd.out.turn_2 (skT p F2 c l L) h1 h2 h3); clear h1 h2 h3; clear c0 c1 c2 c3 c4 d0 d1 d2 d3 d4; obtain ⟨c0, c1, c2, c3, c4⟩ := box5 HVe.out.i4; obtain ⟨d0, d1, d2, d3, d4⟩ := box5 HVe.out.i3)
    | (go_at_call 81; (with_reducible refine (CC.out p F1 _ (skI HVc.out.i1)).mono ?_); rintro e wd ⟨g1, cap1, rfl, h1, h2, -, -, hb⟩; have HVd := Lib.hid (HVc.out.push (midT g1 L.flatten) hb h1 (fun k hk => by subst hk; exact h2)); clear h1 h2 hb; clear c0 c1 c2 c3 c4 d0 d1 d2 d3 d4; obtain ⟨c0, c1, c2, c3, c4⟩ := box5 HVd.out.i4; obtain ⟨d0, d1, d2, d3, d4⟩ := box5 HVd.out.i3)
    | (go_at_call 166; (with_reducible refine (CU.out p F _ (skI HVb.out.i1)).mono ?_); rintro e wc ⟨rfl, F1, h1, h2, h3⟩; have HVc := Lib.hid (HVb.out.turn_1 (skT p F1 c l L) h1 h2 h3); clear h1 h2 h3; clear c0 c1 c2 c3 c4 d0 d1 d2 d3 d4; obtain ⟨c0, c1, c2, c3, c4⟩ := box5 HVc.out.i3; obtain ⟨d0, d1, d2, d3, d4⟩ := box5 HVc.out.i2)
    | (go_at_call 9; (with_reducible refine (DN.out _).mono ?_); rintro e wb ⟨q, G, rfl, h1, h2, hb⟩; have HVb := Lib.hid (HVa.out.push (skT q G c l Z) hb h1 h2); clear h1 h2 hb; clear c0 c1 c2 c3 c4 d0 d1 d2 d3 d4; obtain ⟨c0, c1, c2, c3, c4⟩ := box5 HVb.out.i3; obtain ⟨d0, d1, d2, d3, d4⟩ := box5 HVb.out.i2)
    | (go_at_call 9; (with_reducible refine (CN.out _).mono ?_); rintro e wa ⟨p, F, rfl, h1, h2, hb⟩; have HVa := Lib.hid (HV9.out.push (skT p F c l Z) hb h1 h2); clear h1 h2 hb; clear c0 c1 c2 c3 c4 d0 d1 d2 d3 d4; obtain ⟨c0, c1, c2, c3, c4⟩ := box5 HVa.out.i2; obtain ⟨d0, d1, d2, d3, d4⟩ := box5 HVa.out.i1))
  go_wp2_with (first
    | (go_at_call 22; (with_reducible refine (rsame_any _ _ _ _ _ _ L.flatten L.flatten _ (midI HVj.out.i0).rd (midI HVj.out.i2).rd FL.out FL.out (by omega) (by omega)).mono ?_); rintro e wk ⟨rfl, hb⟩; have HVk := Lib.hid (HVj.out.up hb); clear hb)
    | (go_at_call 81; (with_reducible refine (CC.out p F2 _ (skI HVf.out.i3)).mono ?_); rintro e wj ⟨g2, cap2, rfl, h1, h2, -, -, hb⟩; have HVj := Lib.hid (HVf.out.push (midT g2 L.flatten) hb h1 (fun k hk => by subst hk; exact h2)); clear h1 h2 hb))
  go_ret
  exact ⟨ret_bs (by first | rfl | (simp [*]; done)), HVk.out.below⟩
set_option maxRecDepth 100000 in
set_option maxHeartbeats 16000000 in
theorem unl_S_oth (x y : Cfg) (lv lv2 : Int) (w : World) (hx : x.Ok) (hy : y.Ok) (hlv : -9223372036854775808 ≤ lv ∧ lv ≤ 9223372036854775807) (hlv2 : -9223372036854775808 ≤ lv2 ∧ lv2 ≤ 9223372036854775807) (c : Cfg) (hC : anyC x 6 9 = c) (hD : anyC y 6 9 = c) (X1 l : Int) (a1 : bits .and .i64 lv 65535 = X1) (b1 : 0 ≤ X1) (c1 : X1 ≤ 65535) (dd1 : Int.tmod X1 (c.bt + 1) = l) (ee1 : 0 ≤ l) (ff1 : l < c.bt + 1) (X2 : Int) (a2 : bits .and .i64 lv2 65535 = X2) (b2 : 0 ≤ X2) (c2 : X2 ≤ 65535) (dd2 : Int.tmod X2 (c.bt + 1) = l) (hxa : exactB c l = false) (hmd : ¬ c.md = 1) :
    Calls Tryz.prog 4 #[.agg #[.int .i64 x.bt, .int .i64 x.rw, .int .i64 x.wd, .int .i64 x.md, .int .u64 x.sd], .agg #[.int .i64 y.bt, .int .i64 y.rw, .int .i64 y.wd, .int .i64 y.md, .int .u64 y.sd], .agg #[.int .i64 lv, .int .i64 lv2]] w fun e w' => e = .returned (.bool true) ∧ Below w.heap.size w w' := by
  have hr := any_right x 6 9 (by omega) (by omega) (by omega) (by omega)
  have hco := any_ok x hx 6 9 (by omega) (by omega) (by omega) (by omega)
  rw [hC] at hr hco
  have CA := Lib.hid (fun w => rany_at x 6 9 c w hx (by omega) (by omega) (by omega) (by omega) hC)
  have DA := Lib.hid (fun w => rany_at y 6 9 c w hy (by omega) (by omega) (by omega) (by omega) hD)
  have hbt := hr.1
  have hbt6 := hr.2.1
  have hk1 : 1 ≤ keys c l := keys_pos.2 ⟨hr, by omega, by omega⟩
  have CN := Lib.hid (fun w => vnew_S c l w hco (by omega) (by omega) hk1 hxa)
  have hq9 : rws c * wds c ≤ 1024 := Nat.mul_le_mul (rws_bd hr).2.1 (wds_bd hr).2.1
  have u5 := Sk.one_up (c := c) (l := l) (d := 5) hr hk1 (by omega) (by omega)
  have CU := Lib.hid (fun p F w h => (supd_any p F c l (zerosL (rws c) (wds c)) 0 5 w h (by omega) (by omega) (by omega) (by omega)))
  rw [u5.1, u5.2] at CU
  have hsz := cells_sz (one_in (c := c) (l := l) (d := 5) hk1 (by omega) (by omega))
  have hL := lsz_flat hsz
  have hz : inCode c c l l (cells c l [(0, 5)]) (zerosL (rws c) (wds c)) = 3 ∧ inVal c c l l (cells c l [(0, 5)]) (zerosL (rws c) (wds c)) = 0 := in_mode hmd
  obtain ⟨L, hLL⟩ : ∃ L, cells c l [(0, 5)] = L := ⟨_, rfl⟩
  obtain ⟨Z, hZZ⟩ : ∃ Z, zerosL (rws c) (wds c) = Z := ⟨_, rfl⟩
  rw [hLL] at CU hL hz
  rw [hZZ] at CN CU hz
  have CC := Lib.hid (fun p F w h => scells_mid p F c l L w h)
  obtain ⟨Q, hQ⟩ : ∃ Q, rws c * wds c = Q := ⟨_, rfl⟩
  rw [hQ] at CC hL hq9
  have DN := CN
  have CM := Lib.hid (fun p F q G w h g => vmerge_S p F c l L q G c l Z w h g)
  have CI := Lib.hid (fun p F q G w h g => vinner_S p F c l L q G Z w h g)
  rw [hz.1, hz.2, (show Wid.fh 0 = 0 by decide), (show Wid.fl 0 = 0 by decide)] at CI
  have IL : Hid (∀ p F w, SK w p F c l L → mgCode 1 c c l l L Z = 0 ∧ mgRes 1 c c l l L Z = L) := Lib.hid (fun p F w h => by rw [← hZZ]; exact mgS_zero h.dims)
  have hmq : (c.md == 1) = false := by simpa using hmd
  have FL := Lib.hid hL
  have eqL : decide (L.flatten = L.flatten) = true := decide_eq_true rfl
  have HBX : Hid (Have w (((w.alloc (.cells #[.int .i64 x.bt, .int .i64 x.rw, .int .i64 x.wd, .int .i64 x.md, .int .u64 x.sd] 24)).alloc (.cells #[.int .i64 y.bt, .int .i64 y.rw, .int .i64 y.wd, .int .i64 y.md, .int .u64 y.sd] 24)).alloc (.cells #[.int .i64 lv, .int .i64 lv2] 57)) [boxT (w.heap.size + 1 + 1) 57 #[.int .i64 lv, .int .i64 lv2], boxT (w.heap.size + 1) 24 #[.int .i64 y.bt, .int .i64 y.rw, .int .i64 y.wd, .int .i64 y.md, .int .u64 y.sd], boxT w.heap.size 24 #[.int .i64 x.bt, .int .i64 x.rw, .int .i64 x.wd, .int .i64 x.md, .int .u64 x.sd]]) := Lib.hid (Inn.three_boxs w _ _ _ _ _ _)
  have hw1 : IntKind.i64.wrap (c.bt + 1) = c.bt + 1 := IntWalk.i64_in _ ⟨by omega, by omega⟩
  have hw2 : wrap64 (c.bt + 1) = c.bt + 1 := IntWalk.wrap64_in _ ⟨by omega, by omega⟩
  have hbn : ¬ c.bt + 1 = 0 := by omega
  clear hC hD hx hy hr hco hbt hbt6 hk1 hxa c1 c2 u5 hLL hZZ hL hlv hlv2 hsz hQ hmd hz
  go_enter Tryz.func4, Tryz.ntmps4
  go_upto_region 6 with (first
    | (go_at_call 8; (with_reducible refine (DA.out _).mono ?_); rintro e w3 ⟨rfl, hb⟩; have HV3 := Lib.hid ((HV2.out.up hb).push (boxT w3.heap.size 24 #[.int .i64 c.bt, .int .i64 c.rw, .int .i64 c.wd, .int .i64 c.md, .int .u64 c.sd]) (Lw.below_alloc (Below.refl _ _) _) (heap_alloc_new w3 _) (fun k hk => Nat.le_of_eq hk.symm)); clear hb; clear c0 c1 c2 c3 c4 v0 v1 y0 y1 y2 y3 y4; obtain ⟨d0, d1, d2, d3, d4⟩ := box5 HV3.out.i0; obtain ⟨c0, c1, c2, c3, c4⟩ := box5 HV3.out.i1; have v0 := box_cell (i := 0) HV3.out.i2 rfl; have v1 := box_cell (i := 1) HV3.out.i2 rfl)
    | (go_at_call 8; (with_reducible refine (CA.out _).mono ?_); rintro e w2 ⟨rfl, hb⟩; have HV2 := Lib.hid ((HV1.out.up hb).push (boxT w2.heap.size 24 #[.int .i64 c.bt, .int .i64 c.rw, .int .i64 c.wd, .int .i64 c.md, .int .u64 c.sd]) (Lw.below_alloc (Below.refl _ _) _) (heap_alloc_new w2 _) (fun k hk => Nat.le_of_eq hk.symm)); clear hb; clear v0 v1 y0 y1 y2 y3 y4 x0 x1 x2 x3 x4; obtain ⟨c0, c1, c2, c3, c4⟩ := box5 HV2.out.i0; have v0 := box_cell (i := 0) HV2.out.i1 rfl; have v1 := box_cell (i := 1) HV2.out.i1 rfl; obtain ⟨y0, y1, y2, y3, y4⟩ := box5 HV2.out.i2)
    | (go_at_call 7; (with_reducible refine (shown_any _).mono ?_); rintro e w1 ⟨rfl, hb⟩; have HV1 := Lib.hid (HBX.out.up hb); clear hb; have v0 := box_cell (i := 0) HV1.out.i0 rfl; have v1 := box_cell (i := 1) HV1.out.i0 rfl; obtain ⟨y0, y1, y2, y3, y4⟩ := box5 HV1.out.i1; obtain ⟨x0, x1, x2, x3, x4⟩ := box5 HV1.out.i2))
  obtain ⟨gd, hgd⟩ : ∃ gd, w3.heap.size = gd := ⟨_, rfl⟩
  obtain ⟨gc, hgc⟩ : ∃ gc, w2.heap.size = gc := ⟨_, rfl⟩
  rw [hgd, hgc] at HV3 ⊢
  rw [hgd] at d0 d1 d2 d3 d4
  rw [hgc] at c0 c1 c2 c3 c4
  have HV9 := Lib.hid (((HV3.out.drop_2).drop_2).drop_2)
  clear HV3 HV2 HV1 hgd hgc CA DA HBX v0 v1 hw1 hw2 hbn a1 a2 b1 b2 dd1 dd2
  go_upto_region 14 with (first
    | (go_at_call 20; (with_reducible refine (CI.out p F2 q G _ (skI HVe.out.i2) (skI HVe.out.i1)).mono ?_); rintro e wf ⟨rfl, hb⟩; have HVf := Lib.hid ((HVe.out.up hb).push (boxT wf.heap.size 49 #[.int .i64 0, .int .u64 0]) (Lw.below_alloc (Below.refl _ _) _) (heap_alloc_new wf _) (fun k hk => Nat.le_of_eq hk.symm)); clear hb; clear c0 c1 c2 c3 c4 d0 d1 d2 d3 d4; obtain ⟨c0, c1, c2, c3, c4⟩ := box5 HVf.out.i5; obtain ⟨d0, d1, d2, d3, d4⟩ := box5 HVf.out.i4)
    | (go_at_call 14; (with_reducible refine (CM.out p F1 q G _ (skI HVd.out.i2) (skI HVd.out.i1)).mono ?_); rintro e we ⟨he, F2, h1, h2, h3⟩; have hI := IL.out p F1 _ (skI HVd.out.i2); rw [hI.1] at he; rw [hI.2] at h1; subst he; clear hI; have HVe := Lib.hid (HVd.out.turn_2 (skT p F2 c l L) h1 h2 h3); clear h1 h2 h3; clear c0 c1 c2 c3 c4 d0 d1 d2 d3 d4; obtain ⟨c0, c1, c2, c3, c4⟩ := box5 HVe.out.i4; obtain ⟨d0, d1, d2, d3, d4⟩ := box5 HVe.out.i3)
    | (go_at_call 81; (with_reducible refine (CC.out p F1 _ (skI HVc.out.i1)).mono ?_); rintro e wd ⟨g1, cap1, rfl, h1, h2, -, -, hb⟩; have HVd := Lib.hid (HVc.out.push (midT g1 L.flatten) hb h1 (fun k hk => by subst hk; exact h2)); clear h1 h2 hb; clear c0 c1 c2 c3 c4 d0 d1 d2 d3 d4; obtain ⟨c0, c1, c2, c3, c4⟩ := box5 HVd.out.i4; obtain ⟨d0, d1, d2, d3, d4⟩ := box5 HVd.out.i3)
    | (go_at_call 166; (with_reducible refine (CU.out p F _ (skI HVb.out.i1)).mono ?_); rintro e wc ⟨rfl, F1, h1, h2, h3⟩; have HVc := Lib.hid (HVb.out.turn_1 (skT p F1 c l L) h1 h2 h3); clear h1 h2 h3; clear c0 c1 c2 c3 c4 d0 d1 d2 d3 d4; obtain ⟨c0, c1, c2, c3, c4⟩ := box5 HVc.out.i3; obtain ⟨d0, d1, d2, d3, d4⟩ := box5 HVc.out.i2)
    | (go_at_call 9; (with_reducible refine (DN.out _).mono ?_); rintro e wb ⟨q, G, rfl, h1, h2, hb⟩; have HVb := Lib.hid (HVa.out.push (skT q G c l Z) hb h1 h2); clear h1 h2 hb; clear c0 c1 c2 c3 c4 d0 d1 d2 d3 d4; obtain ⟨c0, c1, c2, c3, c4⟩ := box5 HVb.out.i3; obtain ⟨d0, d1, d2, d3, d4⟩ := box5 HVb.out.i2)
    | (go_at_call 9; (with_reducible refine (CN.out _).mono ?_); rintro e wa ⟨p, F, rfl, h1, h2, hb⟩; have HVa := Lib.hid (HV9.out.push (skT p F c l Z) hb h1 h2); clear h1 h2 hb; clear c0 c1 c2 c3 c4 d0 d1 d2 d3 d4; obtain ⟨c0, c1, c2, c3, c4⟩ := box5 HVa.out.i2; obtain ⟨d0, d1, d2, d3, d4⟩ := box5 HVa.out.i1))
  go_wp2_with (first
    | (go_at_call 22; (with_reducible refine (rsame_any _ _ _ _ _ _ L.flatten L.flatten _ (midI HVj.out.i0).rd (midI HVj.out.i2).rd FL.out FL.out (by omega) (by omega)).mono ?_); rintro e wk ⟨rfl, hb⟩; have HVk := Lib.hid (HVj.out.up hb); clear hb)
    | (go_at_call 81; (with_reducible refine (CC.out p F2 _ (skI HVf.out.i3)).mono ?_); rintro e wj ⟨g2, cap2, rfl, h1, h2, -, -, hb⟩; have HVj := Lib.hid (HVf.out.push (midT g2 L.flatten) hb h1 (fun k hk => by subst hk; exact h2)); clear h1 h2 hb))
  go_ret
  exact ⟨ret_bs (by first | rfl | (simp [*]; done)), HVk.out.below⟩
theorem unl_law (x y : Cfg) (lv lv2 : Int) (w : World) (hx : x.Ok) (hy : y.Ok) (hlv : -9223372036854775808 ≤ lv ∧ lv ≤ 9223372036854775807) (hlv2 : -9223372036854775808 ≤ lv2 ∧ lv2 ≤ 9223372036854775807) :
    Calls Tryz.prog 4 #[.agg #[.int .i64 x.bt, .int .i64 x.rw, .int .i64 x.wd, .int .i64 x.md, .int .u64 x.sd], .agg #[.int .i64 y.bt, .int .i64 y.rw, .int .i64 y.wd, .int .i64 y.md, .int .u64 y.sd], .agg #[.int .i64 lv, .int .i64 lv2]] w fun e w' => e = .returned (.bool true) ∧ Below w.heap.size w w' := by
  obtain ⟨c, hC⟩ : ∃ c, anyC x 6 9 = c := ⟨_, rfl⟩
  obtain ⟨d, hD⟩ : ∃ d, anyC y 6 9 = d := ⟨_, rfl⟩
  have hr := any_right x 6 9 (by omega) (by omega) (by omega) (by omega)
  have hrd := any_right y 6 9 (by omega) (by omega) (by omega) (by omega)
  rw [hC] at hr
  rw [hD] at hrd
  have hbt := hr.1
  have hbt6 := hr.2.1
  have hbd := hrd.1
  have hbd6 := hrd.2.1
  obtain ⟨X, l, a1, b1, c1, dd1, ee1, ff1⟩ := level_of lv (c.bt + 1) (by omega) (by omega)
  obtain ⟨X2, k, a2, b2, c2, dd2, ee2, ff2⟩ := level_of lv2 (d.bt + 1) (by omega) (by omega)
  by_cases hn : cfgE c d = true ∧ l = k
  · obtain ⟨hc, rfl⟩ := hn
    obtain ⟨e0, e1, e2, e3, e4⟩ := of_decide_eq_true hc
    obtain rfl : c = d := by
      cases c; cases d
      simp only at e0 e1 e2 e3 e4
      subst e0 e1 e2 e3 e4
      rfl
    cases hxa : exactB c l with
    | true =>
      by_cases hm : c.md = 1
      · exact unl_A_lin x y lv lv2 w hx hy hlv hlv2 c hC hD X l a1 b1 c1 dd1 ee1 ff1 X2 a2 b2 c2 dd2 hxa hm
      · exact unl_A_oth x y lv lv2 w hx hy hlv hlv2 c hC hD X l a1 b1 c1 dd1 ee1 ff1 X2 a2 b2 c2 dd2 hxa hm
    | false =>
      by_cases hm : c.md = 1
      · exact unl_S_lin x y lv lv2 w hx hy hlv hlv2 c hC hD X l a1 b1 c1 dd1 ee1 ff1 X2 a2 b2 c2 dd2 hxa hm
      · exact unl_S_oth x y lv lv2 w hx hy hlv hlv2 c hC hD X l a1 b1 c1 dd1 ee1 ff1 X2 a2 b2 c2 dd2 hxa hm
  · have hnb : (c.bt == d.bt && (c.rw == d.rw && (c.wd == d.wd && (c.md == d.md && c.sd == d.sd)))) = false ∨ ((c.bt == d.bt && (c.rw == d.rw && (c.wd == d.wd && (c.md == d.md && c.sd == d.sd)))) = true ∧ (l == k) = false) := by
      cases hb : (c.bt == d.bt && (c.rw == d.rw && (c.wd == d.wd && (c.md == d.md && c.sd == d.sd)))) with
      | false => exact .inl rfl
      | true =>
        refine .inr ⟨rfl, ?_⟩
        have hb2 : cfgE c d = true := by
          simp at hb
          exact decide_eq_true hb
        have h1 : ¬ l = k := fun e => hn ⟨hb2, e⟩
        simpa using h1
    cases hxa : exactB c l with
    | true =>
      cases hxb : exactB d k with
      | true => exact unl_AA x y lv lv2 w hx hy hlv hlv2 c hC d hD X l a1 b1 c1 dd1 ee1 ff1 X2 k a2 b2 c2 dd2 ee2 ff2 hxa hxb hn hnb
      | false => exact unl_AS x y lv lv2 w hx hy hlv hlv2 c hC d hD X l a1 b1 c1 dd1 ee1 ff1 X2 k a2 b2 c2 dd2 ee2 ff2 hxa hxb hn hnb
    | false =>
      cases hxb : exactB d k with
      | true => exact unl_SA x y lv lv2 w hx hy hlv hlv2 c hC d hD X l a1 b1 c1 dd1 ee1 ff1 X2 k a2 b2 c2 dd2 ee2 ff2 hxa hxb hn hnb
      | false => exact unl_SS x y lv lv2 w hx hy hlv hlv2 c hC d hD X l a1 b1 c1 dd1 ee1 ff1 X2 k a2 b2 c2 dd2 ee2 ff2 hxa hxb hn hnb
namespace levelUnlike
open Go.ChangeShapes Go.WideShapes Go.ChangeAt Go.Joins
set_option maxRecDepth 100000 in
theorem lifted (os : Os) (started : os.Started) (H : Type) (enc : TypeId × Value → H) :
    ReturnsInHanded {} Tryz.checked os 4 .any (Rows.levelUnlikeSpec.pre6 enc Tryz.prog Tryz.f4 Rows.levelUnlikeRow.domain false) (Rows.levelUnlikeSpec.post enc Tryz.prog Tryz.f4 false true false false) := by
  refine Lw.lifted (C := Tryz.checked) (B := 4) (by kernel_rfl) os started (by kernel_rfl) Tryz.func4
    (ChangeSpec.witness6 (enc := enc) (C := Tryz.checked) false ⟨#[], #[.agg #[.int .i64 0, .int .i64 0, .int .i64 0, .int .i64 0, .int .u64 0], .agg #[.int .i64 0, .int .i64 0, .int .i64 0, .int .i64 0, .int .u64 0], .agg #[.int .i64 0, .int .i64 0]], []⟩ 8 (by kernel_rfl) (by kernel_rfl) (by kernel_rfl) (by kernel_rfl)) rfl Tryz.underlying4 (by kernel_rfl) (by kernel_rfl) (by kernel_rfl) ?_ ?_
  · intro ds h
    rw [Tryz.params4] at h
    match ds, h with
    | [_, _, _], _ => rfl
  · intro W base args ds p hval hA
    rw [Tryz.params4] at hA hval
    obtain ⟨v0, vs0, d0, ds0, p0, q0, hargs, rfl, rfl, h0, r0⟩ := trodAll_cons hA
    obtain ⟨v1, vs1, d1, ds1, p1, q1, rfl, rfl, rfl, h1, r1⟩ := trodAll_cons r0
    obtain ⟨v2, vs2, d2, ds2, p2, q2, rfl, rfl, rfl, h2, r2⟩ := trodAll_cons r1
    obtain ⟨rfl, rfl, rfl⟩ := trodAll_nil r2
    obtain rfl : args = #[v0, v1, v2] := by cases args; simp_all
    obtain ⟨x0_0, x0_1, x0_2, x0_3, x0_4, rfl, z0_0, z0_1, z0_2, z0_3, z0_4⟩ := open_cfg (hval 0 24 v0 rfl rfl) h0
    obtain ⟨x1_0, x1_1, x1_2, x1_3, x1_4, rfl, z1_0, z1_1, z1_2, z1_3, z1_4⟩ := open_cfg (hval 1 24 v1 rfl rfl) h1
    obtain ⟨x2_0, x2_1, rfl, z2_0, z2_1⟩ := Inn.open_arr2_int (hval 2 57 v2 rfl rfl) h2
    exact unl_law ⟨x0_0, x0_1, x0_2, x0_3, x0_4⟩ ⟨x1_0, x1_1, x1_2, x1_3, x1_4⟩ x2_0 x2_1 W ⟨z0_0.1, z0_0.2, z0_1.1, z0_1.2, z0_2.1, z0_2.2, z0_3.1, z0_3.2, z0_4.1, z0_4.2⟩ ⟨z1_0.1, z1_0.2, z1_1.1, z1_1.2, z1_2.1, z1_2.2, z1_3.1, z1_3.2, z1_4.1, z1_4.2⟩ z2_0 z2_1
theorem over : Rows.levelUnlikeRow.holds Tryz.pinned (OpenSpec.ofChange Rows.levelUnlikeSpec) :=
  OpenClaim.holds_of_wide 4 Tryz.f4 rfl rfl rfl rfl rfl rfl rfl ⟨rfl, rfl, rfl, rfl, rfl⟩ rfl rfl rfl rfl rfl (by kernel_rfl) Tryz.func4 (by kernel_rfl)
    (of_decide_eq_true (by kernel_rfl)) (by unfold Func.isWrapper; first | (rw [if_pos (by decide +kernel)]; kernel_rfl) | (rw [if_neg (by decide +kernel)]; exact ⟨rfl, rfl⟩))
    (fun os started H enc _ => lifted os started H enc)
theorem proved : Rows.LevelUnlikeSaid :=
  over
#print axioms proved
end levelUnlike
end Go.Proofs.YtkannodfamnmcaaGreat.Lev
