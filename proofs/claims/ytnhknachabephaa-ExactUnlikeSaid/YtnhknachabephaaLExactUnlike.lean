/- The statement ExactUnlike of layer 12 holds: arrays of unlike configs or levels are not put together, and stay as they were; neither are they with none. Printed by wip/gen/exalaws.py. -/
import Derived.Test.YtnhknachabephaaMg
import Derived.Deep.LoopGhost
import Derived.Deep.RegionHeld3
import Derived.Deep.DeepCutAuto
import Derived.Deep.QuietTactic
import Derived.BigQuiet
namespace Go.Proofs.Ytnhknachabephaa.Exa
open Go Go.RowKit Lw Grd Lin Con Shp Sk
set_option linter.unusedVariables false
set_option linter.unusedSimpArgs false
set_option maxRecDepth 100000 in
set_option maxHeartbeats 16000000 in
theorem unl_law (x y : Cfg) (lv lv2 : Int) (w : World) (hx : x.Ok) (hy : y.Ok) (hlv : -9223372036854775808 ≤ lv ∧ lv ≤ 9223372036854775807) (hlv2 : -9223372036854775808 ≤ lv2 ∧ lv2 ≤ 9223372036854775807) :
    Calls Try.prog 6 #[.agg #[.int .i64 x.bt, .int .i64 x.rw, .int .i64 x.wd, .int .i64 x.md, .int .u64 x.sd], .agg #[.int .i64 y.bt, .int .i64 y.rw, .int .i64 y.wd, .int .i64 y.md, .int .u64 y.sd], .agg #[.int .i64 lv, .int .i64 lv2]] w fun e w' => e = .returned (.bool true) ∧ Below w.heap.size w w' := by
  obtain ⟨c, hc⟩ : ∃ c, anyC x 8 128 = c := ⟨_, rfl⟩
  obtain ⟨d, hd⟩ : ∃ d, anyC y 8 128 = d := ⟨_, rfl⟩
  have cr := any_right x 8 128 (by omega) (by omega) (by omega) (by omega)
  have co := any_ok x hx 8 128 (by omega) (by omega) (by omega) (by omega)
  have dr := any_right y 8 128 (by omega) (by omega) (by omega) (by omega)
  have dO := any_ok y hy 8 128 (by omega) (by omega) (by omega) (by omega)
  rw [hc] at cr co
  rw [hd] at dr dO
  have CA := Lib.hid (fun w => rany_at x 8 128 c w hx (by omega) (by omega) (by omega) (by omega) hc)
  have DA := Lib.hid (fun w => rany_at y 8 128 d w hy (by omega) (by omega) (by omega) (by omega) hd)
  have CT := Lib.hid (fun w => top_any c lv w co cr hlv.1 hlv.2)
  have DT := Lib.hid (fun w => top_any d lv2 w dO dr hlv2.1 hlv2.2)
  have HCO := Lib.hid co
  have HDO := Lib.hid dO
  have HBX : Hid (Have w (((w.alloc (.cells #[.int .i64 x.bt, .int .i64 x.rw, .int .i64 x.wd, .int .i64 x.md, .int .u64 x.sd] 24)).alloc (.cells #[.int .i64 y.bt, .int .i64 y.rw, .int .i64 y.wd, .int .i64 y.md, .int .u64 y.sd] 24)).alloc (.cells #[.int .i64 lv, .int .i64 lv2] 61)) [boxT (w.heap.size + 1 + 1) 61 #[.int .i64 lv, .int .i64 lv2], boxT (w.heap.size + 1) 24 #[.int .i64 y.bt, .int .i64 y.rw, .int .i64 y.wd, .int .i64 y.md, .int .u64 y.sd], boxT w.heap.size 24 #[.int .i64 x.bt, .int .i64 x.rw, .int .i64 x.wd, .int .i64 x.md, .int .u64 x.sd]]) := Lib.hid (three_boxs w _ _ _ _ _ _)
  clear hc hd hx hy cr co dr dO
  go_enter Try.func6, Try.ntmps6
  go_upto_region 6 with (first
    | (go_at_call 10; (with_reducible refine (DT.out _).mono ?_); rintro e w5 ⟨k, rfl, hxk, hb⟩; have HXK := Lib.hid hxk; have HV5 := Lib.hid (HV4.out.up hb); clear hb hxk; clear d0 d1 d2 d3 d4 c0 c1 c2 c3 c4 v0 v1; obtain ⟨d0, d1, d2, d3, d4⟩ := box5 HV5.out.i0; obtain ⟨c0, c1, c2, c3, c4⟩ := box5 HV5.out.i1)
    | (go_at_call 10; (with_reducible refine (CT.out _).mono ?_); rintro e w4 ⟨l, rfl, hxl, hb⟩; have HXL := Lib.hid hxl; have HV4 := Lib.hid (HV3.out.up hb); clear hb hxl; clear d0 d1 d2 d3 d4 c0 c1 c2 c3 c4 v0 v1; obtain ⟨d0, d1, d2, d3, d4⟩ := box5 HV4.out.i0; obtain ⟨c0, c1, c2, c3, c4⟩ := box5 HV4.out.i1; have v0 := box_cell (i := 0) HV4.out.i2 rfl; have v1 := box_cell (i := 1) HV4.out.i2 rfl)
    | (go_at_call 9; (with_reducible refine (DA.out _).mono ?_); rintro e w3 ⟨rfl, hb⟩; have HV3 := Lib.hid ((HV2.out.up hb).push (boxT w3.heap.size 24 #[.int .i64 d.bt, .int .i64 d.rw, .int .i64 d.wd, .int .i64 d.md, .int .u64 d.sd]) (Lw.below_alloc (Below.refl _ _) _) (heap_alloc_new w3 _) (fun k hk => Nat.le_of_eq hk.symm)); clear hb; clear c0 c1 c2 c3 c4 v0 v1 y0 y1 y2 y3 y4; obtain ⟨d0, d1, d2, d3, d4⟩ := box5 HV3.out.i0; obtain ⟨c0, c1, c2, c3, c4⟩ := box5 HV3.out.i1; have v0 := box_cell (i := 0) HV3.out.i2 rfl; have v1 := box_cell (i := 1) HV3.out.i2 rfl)
    | (go_at_call 9; (with_reducible refine (CA.out _).mono ?_); rintro e w2 ⟨rfl, hb⟩; have HV2 := Lib.hid ((HV1.out.up hb).push (boxT w2.heap.size 24 #[.int .i64 c.bt, .int .i64 c.rw, .int .i64 c.wd, .int .i64 c.md, .int .u64 c.sd]) (Lw.below_alloc (Below.refl _ _) _) (heap_alloc_new w2 _) (fun k hk => Nat.le_of_eq hk.symm)); clear hb; clear v0 v1 y0 y1 y2 y3 y4 x0 x1 x2 x3 x4; obtain ⟨c0, c1, c2, c3, c4⟩ := box5 HV2.out.i0; have v0 := box_cell (i := 0) HV2.out.i1 rfl; have v1 := box_cell (i := 1) HV2.out.i1 rfl; obtain ⟨y0, y1, y2, y3, y4⟩ := box5 HV2.out.i2)
    | (go_at_call 8; (with_reducible refine (shown_any _).mono ?_); rintro e w1 ⟨rfl, hb⟩; have HV1 := Lib.hid (HBX.out.up hb); clear hb; have v0 := box_cell (i := 0) HV1.out.i0 rfl; have v1 := box_cell (i := 1) HV1.out.i0 rfl; obtain ⟨y0, y1, y2, y3, y4⟩ := box5 HV1.out.i1; obtain ⟨x0, x1, x2, x3, x4⟩ := box5 HV1.out.i2))
  obtain ⟨gd, hgd⟩ : ∃ gd, w3.heap.size = gd := ⟨_, rfl⟩
  obtain ⟨gc, hgc⟩ : ∃ gc, w2.heap.size = gc := ⟨_, rfl⟩
  rw [hgd, hgc] at HV5 ⊢
  rw [hgd] at d0 d1 d2 d3 d4
  rw [hgc] at c0 c1 c2 c3 c4
  have HV9 := Lib.hid (((HV5.out.drop_2).drop_2).drop_2)
  clear HV5 HV4 HV3 HV2 HV1 hgd hgc CA DA CT DT HBX hlv hlv2
  by_cases g0 : c.bt = d.bt
  rotate_left
  · have b0 : (c.bt == d.bt) = false := by simpa using g0
    clear g0
    as_aux_lemma =>
      obtain ⟨n, hn⟩ : ∃ n : Nat, keys c l = (n : Int) := ⟨(keys c l).toNat, by have := exact_len HXL.out; omega⟩
      have hn1 : 1 ≤ n := by have := exact_len HXL.out; omega
      have hn8 : n ≤ 128 := by have := exact_len HXL.out; omega
      have hlb := (keys_pos.1 (exact_len HXL.out).1).2
      have hbt := (keys_pos.1 (exact_len HXL.out).1).1.2.1
      have CN := Lib.hid (fun w => enew_yes c l w HCO.out (by omega) (by omega) HXL.out)
      rw [hn, Int.toNat_natCast] at CN
      have u5 := one_up (md := c.md) (d := 5) hn1 (by omega) (by omega)
      have CU := Lib.hid (fun p F w h => (eupd_any p F c l (List.replicate n 0) 0 5 w h (by omega) (by omega) (by omega) (by omega)))
      rw [u5.1, u5.2] at CU
      have hL : ((List.replicate n (0 : Int)).set 0 5).length = n := by simp
      obtain ⟨n2, hn2⟩ : ∃ n : Nat, keys d k = (n : Int) := ⟨(keys d k).toNat, by have := exact_len HXK.out; omega⟩
      have hn3 : 1 ≤ n2 := by have := exact_len HXK.out; omega
      have hlb2 := (keys_pos.1 (exact_len HXK.out).1).2
      have hbt2 := (keys_pos.1 (exact_len HXK.out).1).1.2.1
      have DN := Lib.hid (fun w => enew_yes d k w HDO.out (by omega) (by omega) HXK.out)
      rw [hn2, Int.toNat_natCast] at DN
      have u3 := one_up (md := d.md) (d := 3) hn3 (by omega) (by omega)
      have DU := Lib.hid (fun p F w h => (eupd_any p F d k (List.replicate n2 0) 0 3 w h (by omega) (by omega) (by omega) (by omega)))
      rw [u3.1, u3.2] at DU
      obtain ⟨L, hLL⟩ : ∃ L, (List.replicate n (0 : Int)).set 0 5 = L := ⟨_, rfl⟩
      obtain ⟨M, hMM⟩ : ∃ M, (List.replicate n2 (0 : Int)).set 0 3 = M := ⟨_, rfl⟩
      rw [hLL] at CU hL
      rw [hMM] at DU
      have hno : ¬ (cfgE c d = true ∧ l = k) := by
        intro h
        have h1 := of_decide_eq_true h.1
        have h2 := h.2
        obtain ⟨g1, g2, g3, g4, g5⟩ := h1
        simp [g1, g2, g3, g4, g5, h2] at b0
      have CM := Lib.hid (fun p F q G w h g => emerge_no p F c l L q G d k M w h g hno)
      have CS := Lib.hid (fun p F q G w h g => esub_no p F c l L q G d k M w h g hno)
      have CC := Lib.hid (fun p F w h => ecells_mid p F c l L w h)
      rw [hL] at CC
      have FL := Lib.hid hL
      have e0 := exact_len HXL.out
      clear e0 u5 u3 hLL hMM hL hn hlb hbt hn2 hlb2 hbt2 hno
      go_wp2_with (first
        | (go_at_call 26; (with_reducible refine (rsame_any _ _ _ _ _ _ L L _ (midI HVj.out.i0).rd (midI HVj.out.i1).rd FL.out FL.out (by omega) (by omega)).mono ?_); rintro e wk ⟨rfl, hb⟩; have HVe := Lib.hid (HVj.out.up hb); clear hb)
        | (go_at_call 24; (with_reducible refine (CC.out p F1 _ (exI HVi.out.i2)).mono ?_); rintro e wj ⟨g2, cap2, rfl, h1, h2, -, -, hb⟩; have HVj := Lib.hid (HVi.out.push (midT g2 L) hb h1 (fun k hk => by subst hk; exact h2)); clear h1 h2 hb)
        | (go_at_call 21; (with_reducible refine (CS.out p F1 q G1 _ (exI HVh.out.i2) (exI HVh.out.i1)).mono ?_); rintro e wi ⟨rfl, hb⟩; have HVi := Lib.hid (HVh.out.up hb); clear hb; clear c0 c1 c2 c3 c4 d0 d1 d2 d3 d4; obtain ⟨c0, c1, c2, c3, c4⟩ := box5 HVi.out.i4; obtain ⟨d0, d1, d2, d3, d4⟩ := box5 HVi.out.i3)
        | (go_at_call 19; (with_reducible refine (CM.out p F1 q G1 _ (exI HVg.out.i2) (exI HVg.out.i1)).mono ?_); rintro e wh ⟨rfl, hb⟩; have HVh := Lib.hid (HVg.out.up hb); clear hb; clear c0 c1 c2 c3 c4 d0 d1 d2 d3 d4; obtain ⟨c0, c1, c2, c3, c4⟩ := box5 HVh.out.i4; obtain ⟨d0, d1, d2, d3, d4⟩ := box5 HVh.out.i3)
        | (go_at_call 24; (with_reducible refine (CC.out p F1 _ (exI HVf.out.i1)).mono ?_); rintro e wg ⟨g1, cap1, rfl, h1, h2, -, -, hb⟩; have HVg := Lib.hid (HVf.out.push (midT g1 L) hb h1 (fun k hk => by subst hk; exact h2)); clear h1 h2 hb; clear c0 c1 c2 c3 c4 d0 d1 d2 d3 d4; obtain ⟨c0, c1, c2, c3, c4⟩ := box5 HVg.out.i4; obtain ⟨d0, d1, d2, d3, d4⟩ := box5 HVg.out.i3)
        | (go_at_call 21; (with_reducible refine (esub_nil p F1 c l L _ (exI HVee.out.i1)).mono ?_); rintro e wf ⟨rfl, hb⟩; have HVf := Lib.hid (HVee.out.up hb); clear hb; clear c0 c1 c2 c3 c4 d0 d1 d2 d3 d4; obtain ⟨c0, c1, c2, c3, c4⟩ := box5 HVf.out.i3; obtain ⟨d0, d1, d2, d3, d4⟩ := box5 HVf.out.i2)
        | (go_at_call 19; (with_reducible refine (emerge_nil p F1 c l L _ (exI HVd.out.i1)).mono ?_); rintro e we ⟨rfl, hb⟩; have HVee := Lib.hid (HVd.out.up hb); clear hb; clear c0 c1 c2 c3 c4 d0 d1 d2 d3 d4; obtain ⟨c0, c1, c2, c3, c4⟩ := box5 HVee.out.i3; obtain ⟨d0, d1, d2, d3, d4⟩ := box5 HVee.out.i2)
        | (go_at_call 25; (with_reducible refine (DU.out q G _ (exI HVc.out.i0)).mono ?_); rintro e wd ⟨rfl, G1, h1, h2, h3⟩; have HVd := Lib.hid (HVc.out.turn_0 (exT q G1 d k M) h1 h2 h3); clear h1 h2 h3; clear c0 c1 c2 c3 c4 d0 d1 d2 d3 d4; obtain ⟨c0, c1, c2, c3, c4⟩ := box5 HVd.out.i3; obtain ⟨d0, d1, d2, d3, d4⟩ := box5 HVd.out.i2)
        | (go_at_call 25; (with_reducible refine (CU.out p F _ (exI HVb.out.i1)).mono ?_); rintro e wc ⟨rfl, F1, h1, h2, h3⟩; have HVc := Lib.hid (HVb.out.turn_1 (exT p F1 c l L) h1 h2 h3); clear h1 h2 h3; clear c0 c1 c2 c3 c4 d0 d1 d2 d3 d4; obtain ⟨c0, c1, c2, c3, c4⟩ := box5 HVc.out.i3; obtain ⟨d0, d1, d2, d3, d4⟩ := box5 HVc.out.i2)
        | (go_at_call 11; (with_reducible refine (DN.out _).mono ?_); rintro e wb ⟨q, G, rfl, h1, h2, hb⟩; have HVb := Lib.hid (HVa.out.push (exT q G d k (List.replicate n2 0)) hb h1 h2); clear h1 h2 hb; clear c0 c1 c2 c3 c4 d0 d1 d2 d3 d4; obtain ⟨c0, c1, c2, c3, c4⟩ := box5 HVb.out.i3; obtain ⟨d0, d1, d2, d3, d4⟩ := box5 HVb.out.i2)
        | (go_at_call 11; (with_reducible refine (CN.out _).mono ?_); rintro e wa ⟨p, F, rfl, h1, h2, hb⟩; have HVa := Lib.hid (HV9.out.push (exT p F c l (List.replicate n 0)) hb h1 h2); clear h1 h2 hb; clear c0 c1 c2 c3 c4 d0 d1 d2 d3 d4; obtain ⟨c0, c1, c2, c3, c4⟩ := box5 HVa.out.i2; obtain ⟨d0, d1, d2, d3, d4⟩ := box5 HVa.out.i1))
      all_goals go_ret
      all_goals exact ⟨ret_bs (by first | rfl | (simp [*]; done)), HVe.out.below⟩
  by_cases g1 : c.rw = d.rw
  rotate_left
  · have b1 : (c.rw == d.rw) = false := by simpa using g1
    have b0 : (c.bt == d.bt) = true := by simpa using g0
    clear g0 g1
    as_aux_lemma =>
      obtain ⟨n, hn⟩ : ∃ n : Nat, keys c l = (n : Int) := ⟨(keys c l).toNat, by have := exact_len HXL.out; omega⟩
      have hn1 : 1 ≤ n := by have := exact_len HXL.out; omega
      have hn8 : n ≤ 128 := by have := exact_len HXL.out; omega
      have hlb := (keys_pos.1 (exact_len HXL.out).1).2
      have hbt := (keys_pos.1 (exact_len HXL.out).1).1.2.1
      have CN := Lib.hid (fun w => enew_yes c l w HCO.out (by omega) (by omega) HXL.out)
      rw [hn, Int.toNat_natCast] at CN
      have u5 := one_up (md := c.md) (d := 5) hn1 (by omega) (by omega)
      have CU := Lib.hid (fun p F w h => (eupd_any p F c l (List.replicate n 0) 0 5 w h (by omega) (by omega) (by omega) (by omega)))
      rw [u5.1, u5.2] at CU
      have hL : ((List.replicate n (0 : Int)).set 0 5).length = n := by simp
      obtain ⟨n2, hn2⟩ : ∃ n : Nat, keys d k = (n : Int) := ⟨(keys d k).toNat, by have := exact_len HXK.out; omega⟩
      have hn3 : 1 ≤ n2 := by have := exact_len HXK.out; omega
      have hlb2 := (keys_pos.1 (exact_len HXK.out).1).2
      have hbt2 := (keys_pos.1 (exact_len HXK.out).1).1.2.1
      have DN := Lib.hid (fun w => enew_yes d k w HDO.out (by omega) (by omega) HXK.out)
      rw [hn2, Int.toNat_natCast] at DN
      have u3 := one_up (md := d.md) (d := 3) hn3 (by omega) (by omega)
      have DU := Lib.hid (fun p F w h => (eupd_any p F d k (List.replicate n2 0) 0 3 w h (by omega) (by omega) (by omega) (by omega)))
      rw [u3.1, u3.2] at DU
      obtain ⟨L, hLL⟩ : ∃ L, (List.replicate n (0 : Int)).set 0 5 = L := ⟨_, rfl⟩
      obtain ⟨M, hMM⟩ : ∃ M, (List.replicate n2 (0 : Int)).set 0 3 = M := ⟨_, rfl⟩
      rw [hLL] at CU hL
      rw [hMM] at DU
      have hno : ¬ (cfgE c d = true ∧ l = k) := by
        intro h
        have h1 := of_decide_eq_true h.1
        have h2 := h.2
        obtain ⟨g1, g2, g3, g4, g5⟩ := h1
        simp [g1, g2, g3, g4, g5, h2] at b1
      have CM := Lib.hid (fun p F q G w h g => emerge_no p F c l L q G d k M w h g hno)
      have CS := Lib.hid (fun p F q G w h g => esub_no p F c l L q G d k M w h g hno)
      have CC := Lib.hid (fun p F w h => ecells_mid p F c l L w h)
      rw [hL] at CC
      have FL := Lib.hid hL
      have e0 := exact_len HXL.out
      clear e0 u5 u3 hLL hMM hL hn hlb hbt hn2 hlb2 hbt2 hno
      go_wp2_with (first
        | (go_at_call 26; (with_reducible refine (rsame_any _ _ _ _ _ _ L L _ (midI HVj.out.i0).rd (midI HVj.out.i1).rd FL.out FL.out (by omega) (by omega)).mono ?_); rintro e wk ⟨rfl, hb⟩; have HVe := Lib.hid (HVj.out.up hb); clear hb)
        | (go_at_call 24; (with_reducible refine (CC.out p F1 _ (exI HVi.out.i2)).mono ?_); rintro e wj ⟨g2, cap2, rfl, h1, h2, -, -, hb⟩; have HVj := Lib.hid (HVi.out.push (midT g2 L) hb h1 (fun k hk => by subst hk; exact h2)); clear h1 h2 hb)
        | (go_at_call 21; (with_reducible refine (CS.out p F1 q G1 _ (exI HVh.out.i2) (exI HVh.out.i1)).mono ?_); rintro e wi ⟨rfl, hb⟩; have HVi := Lib.hid (HVh.out.up hb); clear hb; clear c0 c1 c2 c3 c4 d0 d1 d2 d3 d4; obtain ⟨c0, c1, c2, c3, c4⟩ := box5 HVi.out.i4; obtain ⟨d0, d1, d2, d3, d4⟩ := box5 HVi.out.i3)
        | (go_at_call 19; (with_reducible refine (CM.out p F1 q G1 _ (exI HVg.out.i2) (exI HVg.out.i1)).mono ?_); rintro e wh ⟨rfl, hb⟩; have HVh := Lib.hid (HVg.out.up hb); clear hb; clear c0 c1 c2 c3 c4 d0 d1 d2 d3 d4; obtain ⟨c0, c1, c2, c3, c4⟩ := box5 HVh.out.i4; obtain ⟨d0, d1, d2, d3, d4⟩ := box5 HVh.out.i3)
        | (go_at_call 24; (with_reducible refine (CC.out p F1 _ (exI HVf.out.i1)).mono ?_); rintro e wg ⟨g1, cap1, rfl, h1, h2, -, -, hb⟩; have HVg := Lib.hid (HVf.out.push (midT g1 L) hb h1 (fun k hk => by subst hk; exact h2)); clear h1 h2 hb; clear c0 c1 c2 c3 c4 d0 d1 d2 d3 d4; obtain ⟨c0, c1, c2, c3, c4⟩ := box5 HVg.out.i4; obtain ⟨d0, d1, d2, d3, d4⟩ := box5 HVg.out.i3)
        | (go_at_call 21; (with_reducible refine (esub_nil p F1 c l L _ (exI HVee.out.i1)).mono ?_); rintro e wf ⟨rfl, hb⟩; have HVf := Lib.hid (HVee.out.up hb); clear hb; clear c0 c1 c2 c3 c4 d0 d1 d2 d3 d4; obtain ⟨c0, c1, c2, c3, c4⟩ := box5 HVf.out.i3; obtain ⟨d0, d1, d2, d3, d4⟩ := box5 HVf.out.i2)
        | (go_at_call 19; (with_reducible refine (emerge_nil p F1 c l L _ (exI HVd.out.i1)).mono ?_); rintro e we ⟨rfl, hb⟩; have HVee := Lib.hid (HVd.out.up hb); clear hb; clear c0 c1 c2 c3 c4 d0 d1 d2 d3 d4; obtain ⟨c0, c1, c2, c3, c4⟩ := box5 HVee.out.i3; obtain ⟨d0, d1, d2, d3, d4⟩ := box5 HVee.out.i2)
        | (go_at_call 25; (with_reducible refine (DU.out q G _ (exI HVc.out.i0)).mono ?_); rintro e wd ⟨rfl, G1, h1, h2, h3⟩; have HVd := Lib.hid (HVc.out.turn_0 (exT q G1 d k M) h1 h2 h3); clear h1 h2 h3; clear c0 c1 c2 c3 c4 d0 d1 d2 d3 d4; obtain ⟨c0, c1, c2, c3, c4⟩ := box5 HVd.out.i3; obtain ⟨d0, d1, d2, d3, d4⟩ := box5 HVd.out.i2)
        | (go_at_call 25; (with_reducible refine (CU.out p F _ (exI HVb.out.i1)).mono ?_); rintro e wc ⟨rfl, F1, h1, h2, h3⟩; have HVc := Lib.hid (HVb.out.turn_1 (exT p F1 c l L) h1 h2 h3); clear h1 h2 h3; clear c0 c1 c2 c3 c4 d0 d1 d2 d3 d4; obtain ⟨c0, c1, c2, c3, c4⟩ := box5 HVc.out.i3; obtain ⟨d0, d1, d2, d3, d4⟩ := box5 HVc.out.i2)
        | (go_at_call 11; (with_reducible refine (DN.out _).mono ?_); rintro e wb ⟨q, G, rfl, h1, h2, hb⟩; have HVb := Lib.hid (HVa.out.push (exT q G d k (List.replicate n2 0)) hb h1 h2); clear h1 h2 hb; clear c0 c1 c2 c3 c4 d0 d1 d2 d3 d4; obtain ⟨c0, c1, c2, c3, c4⟩ := box5 HVb.out.i3; obtain ⟨d0, d1, d2, d3, d4⟩ := box5 HVb.out.i2)
        | (go_at_call 11; (with_reducible refine (CN.out _).mono ?_); rintro e wa ⟨p, F, rfl, h1, h2, hb⟩; have HVa := Lib.hid (HV9.out.push (exT p F c l (List.replicate n 0)) hb h1 h2); clear h1 h2 hb; clear c0 c1 c2 c3 c4 d0 d1 d2 d3 d4; obtain ⟨c0, c1, c2, c3, c4⟩ := box5 HVa.out.i2; obtain ⟨d0, d1, d2, d3, d4⟩ := box5 HVa.out.i1))
      all_goals go_ret
      all_goals exact ⟨ret_bs (by first | rfl | (simp [*]; done)), HVe.out.below⟩
  by_cases g2 : c.wd = d.wd
  rotate_left
  · have b2 : (c.wd == d.wd) = false := by simpa using g2
    have b0 : (c.bt == d.bt) = true := by simpa using g0
    have b1 : (c.rw == d.rw) = true := by simpa using g1
    clear g0 g1 g2
    as_aux_lemma =>
      obtain ⟨n, hn⟩ : ∃ n : Nat, keys c l = (n : Int) := ⟨(keys c l).toNat, by have := exact_len HXL.out; omega⟩
      have hn1 : 1 ≤ n := by have := exact_len HXL.out; omega
      have hn8 : n ≤ 128 := by have := exact_len HXL.out; omega
      have hlb := (keys_pos.1 (exact_len HXL.out).1).2
      have hbt := (keys_pos.1 (exact_len HXL.out).1).1.2.1
      have CN := Lib.hid (fun w => enew_yes c l w HCO.out (by omega) (by omega) HXL.out)
      rw [hn, Int.toNat_natCast] at CN
      have u5 := one_up (md := c.md) (d := 5) hn1 (by omega) (by omega)
      have CU := Lib.hid (fun p F w h => (eupd_any p F c l (List.replicate n 0) 0 5 w h (by omega) (by omega) (by omega) (by omega)))
      rw [u5.1, u5.2] at CU
      have hL : ((List.replicate n (0 : Int)).set 0 5).length = n := by simp
      obtain ⟨n2, hn2⟩ : ∃ n : Nat, keys d k = (n : Int) := ⟨(keys d k).toNat, by have := exact_len HXK.out; omega⟩
      have hn3 : 1 ≤ n2 := by have := exact_len HXK.out; omega
      have hlb2 := (keys_pos.1 (exact_len HXK.out).1).2
      have hbt2 := (keys_pos.1 (exact_len HXK.out).1).1.2.1
      have DN := Lib.hid (fun w => enew_yes d k w HDO.out (by omega) (by omega) HXK.out)
      rw [hn2, Int.toNat_natCast] at DN
      have u3 := one_up (md := d.md) (d := 3) hn3 (by omega) (by omega)
      have DU := Lib.hid (fun p F w h => (eupd_any p F d k (List.replicate n2 0) 0 3 w h (by omega) (by omega) (by omega) (by omega)))
      rw [u3.1, u3.2] at DU
      obtain ⟨L, hLL⟩ : ∃ L, (List.replicate n (0 : Int)).set 0 5 = L := ⟨_, rfl⟩
      obtain ⟨M, hMM⟩ : ∃ M, (List.replicate n2 (0 : Int)).set 0 3 = M := ⟨_, rfl⟩
      rw [hLL] at CU hL
      rw [hMM] at DU
      have hno : ¬ (cfgE c d = true ∧ l = k) := by
        intro h
        have h1 := of_decide_eq_true h.1
        have h2 := h.2
        obtain ⟨g1, g2, g3, g4, g5⟩ := h1
        simp [g1, g2, g3, g4, g5, h2] at b2
      have CM := Lib.hid (fun p F q G w h g => emerge_no p F c l L q G d k M w h g hno)
      have CS := Lib.hid (fun p F q G w h g => esub_no p F c l L q G d k M w h g hno)
      have CC := Lib.hid (fun p F w h => ecells_mid p F c l L w h)
      rw [hL] at CC
      have FL := Lib.hid hL
      have e0 := exact_len HXL.out
      clear e0 u5 u3 hLL hMM hL hn hlb hbt hn2 hlb2 hbt2 hno
      go_wp2_with (first
        | (go_at_call 26; (with_reducible refine (rsame_any _ _ _ _ _ _ L L _ (midI HVj.out.i0).rd (midI HVj.out.i1).rd FL.out FL.out (by omega) (by omega)).mono ?_); rintro e wk ⟨rfl, hb⟩; have HVe := Lib.hid (HVj.out.up hb); clear hb)
        | (go_at_call 24; (with_reducible refine (CC.out p F1 _ (exI HVi.out.i2)).mono ?_); rintro e wj ⟨g2, cap2, rfl, h1, h2, -, -, hb⟩; have HVj := Lib.hid (HVi.out.push (midT g2 L) hb h1 (fun k hk => by subst hk; exact h2)); clear h1 h2 hb)
        | (go_at_call 21; (with_reducible refine (CS.out p F1 q G1 _ (exI HVh.out.i2) (exI HVh.out.i1)).mono ?_); rintro e wi ⟨rfl, hb⟩; have HVi := Lib.hid (HVh.out.up hb); clear hb; clear c0 c1 c2 c3 c4 d0 d1 d2 d3 d4; obtain ⟨c0, c1, c2, c3, c4⟩ := box5 HVi.out.i4; obtain ⟨d0, d1, d2, d3, d4⟩ := box5 HVi.out.i3)
        | (go_at_call 19; (with_reducible refine (CM.out p F1 q G1 _ (exI HVg.out.i2) (exI HVg.out.i1)).mono ?_); rintro e wh ⟨rfl, hb⟩; have HVh := Lib.hid (HVg.out.up hb); clear hb; clear c0 c1 c2 c3 c4 d0 d1 d2 d3 d4; obtain ⟨c0, c1, c2, c3, c4⟩ := box5 HVh.out.i4; obtain ⟨d0, d1, d2, d3, d4⟩ := box5 HVh.out.i3)
        | (go_at_call 24; (with_reducible refine (CC.out p F1 _ (exI HVf.out.i1)).mono ?_); rintro e wg ⟨g1, cap1, rfl, h1, h2, -, -, hb⟩; have HVg := Lib.hid (HVf.out.push (midT g1 L) hb h1 (fun k hk => by subst hk; exact h2)); clear h1 h2 hb; clear c0 c1 c2 c3 c4 d0 d1 d2 d3 d4; obtain ⟨c0, c1, c2, c3, c4⟩ := box5 HVg.out.i4; obtain ⟨d0, d1, d2, d3, d4⟩ := box5 HVg.out.i3)
        | (go_at_call 21; (with_reducible refine (esub_nil p F1 c l L _ (exI HVee.out.i1)).mono ?_); rintro e wf ⟨rfl, hb⟩; have HVf := Lib.hid (HVee.out.up hb); clear hb; clear c0 c1 c2 c3 c4 d0 d1 d2 d3 d4; obtain ⟨c0, c1, c2, c3, c4⟩ := box5 HVf.out.i3; obtain ⟨d0, d1, d2, d3, d4⟩ := box5 HVf.out.i2)
        | (go_at_call 19; (with_reducible refine (emerge_nil p F1 c l L _ (exI HVd.out.i1)).mono ?_); rintro e we ⟨rfl, hb⟩; have HVee := Lib.hid (HVd.out.up hb); clear hb; clear c0 c1 c2 c3 c4 d0 d1 d2 d3 d4; obtain ⟨c0, c1, c2, c3, c4⟩ := box5 HVee.out.i3; obtain ⟨d0, d1, d2, d3, d4⟩ := box5 HVee.out.i2)
        | (go_at_call 25; (with_reducible refine (DU.out q G _ (exI HVc.out.i0)).mono ?_); rintro e wd ⟨rfl, G1, h1, h2, h3⟩; have HVd := Lib.hid (HVc.out.turn_0 (exT q G1 d k M) h1 h2 h3); clear h1 h2 h3; clear c0 c1 c2 c3 c4 d0 d1 d2 d3 d4; obtain ⟨c0, c1, c2, c3, c4⟩ := box5 HVd.out.i3; obtain ⟨d0, d1, d2, d3, d4⟩ := box5 HVd.out.i2)
        | (go_at_call 25; (with_reducible refine (CU.out p F _ (exI HVb.out.i1)).mono ?_); rintro e wc ⟨rfl, F1, h1, h2, h3⟩; have HVc := Lib.hid (HVb.out.turn_1 (exT p F1 c l L) h1 h2 h3); clear h1 h2 h3; clear c0 c1 c2 c3 c4 d0 d1 d2 d3 d4; obtain ⟨c0, c1, c2, c3, c4⟩ := box5 HVc.out.i3; obtain ⟨d0, d1, d2, d3, d4⟩ := box5 HVc.out.i2)
        | (go_at_call 11; (with_reducible refine (DN.out _).mono ?_); rintro e wb ⟨q, G, rfl, h1, h2, hb⟩; have HVb := Lib.hid (HVa.out.push (exT q G d k (List.replicate n2 0)) hb h1 h2); clear h1 h2 hb; clear c0 c1 c2 c3 c4 d0 d1 d2 d3 d4; obtain ⟨c0, c1, c2, c3, c4⟩ := box5 HVb.out.i3; obtain ⟨d0, d1, d2, d3, d4⟩ := box5 HVb.out.i2)
        | (go_at_call 11; (with_reducible refine (CN.out _).mono ?_); rintro e wa ⟨p, F, rfl, h1, h2, hb⟩; have HVa := Lib.hid (HV9.out.push (exT p F c l (List.replicate n 0)) hb h1 h2); clear h1 h2 hb; clear c0 c1 c2 c3 c4 d0 d1 d2 d3 d4; obtain ⟨c0, c1, c2, c3, c4⟩ := box5 HVa.out.i2; obtain ⟨d0, d1, d2, d3, d4⟩ := box5 HVa.out.i1))
      all_goals go_ret
      all_goals exact ⟨ret_bs (by first | rfl | (simp [*]; done)), HVe.out.below⟩
  by_cases g3 : c.md = d.md
  rotate_left
  · have b3 : (c.md == d.md) = false := by simpa using g3
    have b0 : (c.bt == d.bt) = true := by simpa using g0
    have b1 : (c.rw == d.rw) = true := by simpa using g1
    have b2 : (c.wd == d.wd) = true := by simpa using g2
    clear g0 g1 g2 g3
    as_aux_lemma =>
      obtain ⟨n, hn⟩ : ∃ n : Nat, keys c l = (n : Int) := ⟨(keys c l).toNat, by have := exact_len HXL.out; omega⟩
      have hn1 : 1 ≤ n := by have := exact_len HXL.out; omega
      have hn8 : n ≤ 128 := by have := exact_len HXL.out; omega
      have hlb := (keys_pos.1 (exact_len HXL.out).1).2
      have hbt := (keys_pos.1 (exact_len HXL.out).1).1.2.1
      have CN := Lib.hid (fun w => enew_yes c l w HCO.out (by omega) (by omega) HXL.out)
      rw [hn, Int.toNat_natCast] at CN
      have u5 := one_up (md := c.md) (d := 5) hn1 (by omega) (by omega)
      have CU := Lib.hid (fun p F w h => (eupd_any p F c l (List.replicate n 0) 0 5 w h (by omega) (by omega) (by omega) (by omega)))
      rw [u5.1, u5.2] at CU
      have hL : ((List.replicate n (0 : Int)).set 0 5).length = n := by simp
      obtain ⟨n2, hn2⟩ : ∃ n : Nat, keys d k = (n : Int) := ⟨(keys d k).toNat, by have := exact_len HXK.out; omega⟩
      have hn3 : 1 ≤ n2 := by have := exact_len HXK.out; omega
      have hlb2 := (keys_pos.1 (exact_len HXK.out).1).2
      have hbt2 := (keys_pos.1 (exact_len HXK.out).1).1.2.1
      have DN := Lib.hid (fun w => enew_yes d k w HDO.out (by omega) (by omega) HXK.out)
      rw [hn2, Int.toNat_natCast] at DN
      have u3 := one_up (md := d.md) (d := 3) hn3 (by omega) (by omega)
      have DU := Lib.hid (fun p F w h => (eupd_any p F d k (List.replicate n2 0) 0 3 w h (by omega) (by omega) (by omega) (by omega)))
      rw [u3.1, u3.2] at DU
      obtain ⟨L, hLL⟩ : ∃ L, (List.replicate n (0 : Int)).set 0 5 = L := ⟨_, rfl⟩
      obtain ⟨M, hMM⟩ : ∃ M, (List.replicate n2 (0 : Int)).set 0 3 = M := ⟨_, rfl⟩
      rw [hLL] at CU hL
      rw [hMM] at DU
      have hno : ¬ (cfgE c d = true ∧ l = k) := by
        intro h
        have h1 := of_decide_eq_true h.1
        have h2 := h.2
        obtain ⟨g1, g2, g3, g4, g5⟩ := h1
        simp [g1, g2, g3, g4, g5, h2] at b3
      have CM := Lib.hid (fun p F q G w h g => emerge_no p F c l L q G d k M w h g hno)
      have CS := Lib.hid (fun p F q G w h g => esub_no p F c l L q G d k M w h g hno)
      have CC := Lib.hid (fun p F w h => ecells_mid p F c l L w h)
      rw [hL] at CC
      have FL := Lib.hid hL
      have e0 := exact_len HXL.out
      clear e0 u5 u3 hLL hMM hL hn hlb hbt hn2 hlb2 hbt2 hno
      go_wp2_with (first
        | (go_at_call 26; (with_reducible refine (rsame_any _ _ _ _ _ _ L L _ (midI HVj.out.i0).rd (midI HVj.out.i1).rd FL.out FL.out (by omega) (by omega)).mono ?_); rintro e wk ⟨rfl, hb⟩; have HVe := Lib.hid (HVj.out.up hb); clear hb)
        | (go_at_call 24; (with_reducible refine (CC.out p F1 _ (exI HVi.out.i2)).mono ?_); rintro e wj ⟨g2, cap2, rfl, h1, h2, -, -, hb⟩; have HVj := Lib.hid (HVi.out.push (midT g2 L) hb h1 (fun k hk => by subst hk; exact h2)); clear h1 h2 hb)
        | (go_at_call 21; (with_reducible refine (CS.out p F1 q G1 _ (exI HVh.out.i2) (exI HVh.out.i1)).mono ?_); rintro e wi ⟨rfl, hb⟩; have HVi := Lib.hid (HVh.out.up hb); clear hb; clear c0 c1 c2 c3 c4 d0 d1 d2 d3 d4; obtain ⟨c0, c1, c2, c3, c4⟩ := box5 HVi.out.i4; obtain ⟨d0, d1, d2, d3, d4⟩ := box5 HVi.out.i3)
        | (go_at_call 19; (with_reducible refine (CM.out p F1 q G1 _ (exI HVg.out.i2) (exI HVg.out.i1)).mono ?_); rintro e wh ⟨rfl, hb⟩; have HVh := Lib.hid (HVg.out.up hb); clear hb; clear c0 c1 c2 c3 c4 d0 d1 d2 d3 d4; obtain ⟨c0, c1, c2, c3, c4⟩ := box5 HVh.out.i4; obtain ⟨d0, d1, d2, d3, d4⟩ := box5 HVh.out.i3)
        | (go_at_call 24; (with_reducible refine (CC.out p F1 _ (exI HVf.out.i1)).mono ?_); rintro e wg ⟨g1, cap1, rfl, h1, h2, -, -, hb⟩; have HVg := Lib.hid (HVf.out.push (midT g1 L) hb h1 (fun k hk => by subst hk; exact h2)); clear h1 h2 hb; clear c0 c1 c2 c3 c4 d0 d1 d2 d3 d4; obtain ⟨c0, c1, c2, c3, c4⟩ := box5 HVg.out.i4; obtain ⟨d0, d1, d2, d3, d4⟩ := box5 HVg.out.i3)
        | (go_at_call 21; (with_reducible refine (esub_nil p F1 c l L _ (exI HVee.out.i1)).mono ?_); rintro e wf ⟨rfl, hb⟩; have HVf := Lib.hid (HVee.out.up hb); clear hb; clear c0 c1 c2 c3 c4 d0 d1 d2 d3 d4; obtain ⟨c0, c1, c2, c3, c4⟩ := box5 HVf.out.i3; obtain ⟨d0, d1, d2, d3, d4⟩ := box5 HVf.out.i2)
        | (go_at_call 19; (with_reducible refine (emerge_nil p F1 c l L _ (exI HVd.out.i1)).mono ?_); rintro e we ⟨rfl, hb⟩; have HVee := Lib.hid (HVd.out.up hb); clear hb; clear c0 c1 c2 c3 c4 d0 d1 d2 d3 d4; obtain ⟨c0, c1, c2, c3, c4⟩ := box5 HVee.out.i3; obtain ⟨d0, d1, d2, d3, d4⟩ := box5 HVee.out.i2)
        | (go_at_call 25; (with_reducible refine (DU.out q G _ (exI HVc.out.i0)).mono ?_); rintro e wd ⟨rfl, G1, h1, h2, h3⟩; have HVd := Lib.hid (HVc.out.turn_0 (exT q G1 d k M) h1 h2 h3); clear h1 h2 h3; clear c0 c1 c2 c3 c4 d0 d1 d2 d3 d4; obtain ⟨c0, c1, c2, c3, c4⟩ := box5 HVd.out.i3; obtain ⟨d0, d1, d2, d3, d4⟩ := box5 HVd.out.i2)
        | (go_at_call 25; (with_reducible refine (CU.out p F _ (exI HVb.out.i1)).mono ?_); rintro e wc ⟨rfl, F1, h1, h2, h3⟩; have HVc := Lib.hid (HVb.out.turn_1 (exT p F1 c l L) h1 h2 h3); clear h1 h2 h3; clear c0 c1 c2 c3 c4 d0 d1 d2 d3 d4; obtain ⟨c0, c1, c2, c3, c4⟩ := box5 HVc.out.i3; obtain ⟨d0, d1, d2, d3, d4⟩ := box5 HVc.out.i2)
        | (go_at_call 11; (with_reducible refine (DN.out _).mono ?_); rintro e wb ⟨q, G, rfl, h1, h2, hb⟩; have HVb := Lib.hid (HVa.out.push (exT q G d k (List.replicate n2 0)) hb h1 h2); clear h1 h2 hb; clear c0 c1 c2 c3 c4 d0 d1 d2 d3 d4; obtain ⟨c0, c1, c2, c3, c4⟩ := box5 HVb.out.i3; obtain ⟨d0, d1, d2, d3, d4⟩ := box5 HVb.out.i2)
        | (go_at_call 11; (with_reducible refine (CN.out _).mono ?_); rintro e wa ⟨p, F, rfl, h1, h2, hb⟩; have HVa := Lib.hid (HV9.out.push (exT p F c l (List.replicate n 0)) hb h1 h2); clear h1 h2 hb; clear c0 c1 c2 c3 c4 d0 d1 d2 d3 d4; obtain ⟨c0, c1, c2, c3, c4⟩ := box5 HVa.out.i2; obtain ⟨d0, d1, d2, d3, d4⟩ := box5 HVa.out.i1))
      all_goals go_ret
      all_goals exact ⟨ret_bs (by first | rfl | (simp [*]; done)), HVe.out.below⟩
  by_cases g4 : c.sd = d.sd
  rotate_left
  · have b4 : (c.sd == d.sd) = false := by simpa using g4
    have b0 : (c.bt == d.bt) = true := by simpa using g0
    have b1 : (c.rw == d.rw) = true := by simpa using g1
    have b2 : (c.wd == d.wd) = true := by simpa using g2
    have b3 : (c.md == d.md) = true := by simpa using g3
    clear g0 g1 g2 g3 g4
    as_aux_lemma =>
      obtain ⟨n, hn⟩ : ∃ n : Nat, keys c l = (n : Int) := ⟨(keys c l).toNat, by have := exact_len HXL.out; omega⟩
      have hn1 : 1 ≤ n := by have := exact_len HXL.out; omega
      have hn8 : n ≤ 128 := by have := exact_len HXL.out; omega
      have hlb := (keys_pos.1 (exact_len HXL.out).1).2
      have hbt := (keys_pos.1 (exact_len HXL.out).1).1.2.1
      have CN := Lib.hid (fun w => enew_yes c l w HCO.out (by omega) (by omega) HXL.out)
      rw [hn, Int.toNat_natCast] at CN
      have u5 := one_up (md := c.md) (d := 5) hn1 (by omega) (by omega)
      have CU := Lib.hid (fun p F w h => (eupd_any p F c l (List.replicate n 0) 0 5 w h (by omega) (by omega) (by omega) (by omega)))
      rw [u5.1, u5.2] at CU
      have hL : ((List.replicate n (0 : Int)).set 0 5).length = n := by simp
      obtain ⟨n2, hn2⟩ : ∃ n : Nat, keys d k = (n : Int) := ⟨(keys d k).toNat, by have := exact_len HXK.out; omega⟩
      have hn3 : 1 ≤ n2 := by have := exact_len HXK.out; omega
      have hlb2 := (keys_pos.1 (exact_len HXK.out).1).2
      have hbt2 := (keys_pos.1 (exact_len HXK.out).1).1.2.1
      have DN := Lib.hid (fun w => enew_yes d k w HDO.out (by omega) (by omega) HXK.out)
      rw [hn2, Int.toNat_natCast] at DN
      have u3 := one_up (md := d.md) (d := 3) hn3 (by omega) (by omega)
      have DU := Lib.hid (fun p F w h => (eupd_any p F d k (List.replicate n2 0) 0 3 w h (by omega) (by omega) (by omega) (by omega)))
      rw [u3.1, u3.2] at DU
      obtain ⟨L, hLL⟩ : ∃ L, (List.replicate n (0 : Int)).set 0 5 = L := ⟨_, rfl⟩
      obtain ⟨M, hMM⟩ : ∃ M, (List.replicate n2 (0 : Int)).set 0 3 = M := ⟨_, rfl⟩
      rw [hLL] at CU hL
      rw [hMM] at DU
      have hno : ¬ (cfgE c d = true ∧ l = k) := by
        intro h
        have h1 := of_decide_eq_true h.1
        have h2 := h.2
        obtain ⟨g1, g2, g3, g4, g5⟩ := h1
        simp [g1, g2, g3, g4, g5, h2] at b4
      have CM := Lib.hid (fun p F q G w h g => emerge_no p F c l L q G d k M w h g hno)
      have CS := Lib.hid (fun p F q G w h g => esub_no p F c l L q G d k M w h g hno)
      have CC := Lib.hid (fun p F w h => ecells_mid p F c l L w h)
      rw [hL] at CC
      have FL := Lib.hid hL
      have e0 := exact_len HXL.out
      clear e0 u5 u3 hLL hMM hL hn hlb hbt hn2 hlb2 hbt2 hno
      go_wp2_with (first
        | (go_at_call 26; (with_reducible refine (rsame_any _ _ _ _ _ _ L L _ (midI HVj.out.i0).rd (midI HVj.out.i1).rd FL.out FL.out (by omega) (by omega)).mono ?_); rintro e wk ⟨rfl, hb⟩; have HVe := Lib.hid (HVj.out.up hb); clear hb)
        | (go_at_call 24; (with_reducible refine (CC.out p F1 _ (exI HVi.out.i2)).mono ?_); rintro e wj ⟨g2, cap2, rfl, h1, h2, -, -, hb⟩; have HVj := Lib.hid (HVi.out.push (midT g2 L) hb h1 (fun k hk => by subst hk; exact h2)); clear h1 h2 hb)
        | (go_at_call 21; (with_reducible refine (CS.out p F1 q G1 _ (exI HVh.out.i2) (exI HVh.out.i1)).mono ?_); rintro e wi ⟨rfl, hb⟩; have HVi := Lib.hid (HVh.out.up hb); clear hb; clear c0 c1 c2 c3 c4 d0 d1 d2 d3 d4; obtain ⟨c0, c1, c2, c3, c4⟩ := box5 HVi.out.i4; obtain ⟨d0, d1, d2, d3, d4⟩ := box5 HVi.out.i3)
        | (go_at_call 19; (with_reducible refine (CM.out p F1 q G1 _ (exI HVg.out.i2) (exI HVg.out.i1)).mono ?_); rintro e wh ⟨rfl, hb⟩; have HVh := Lib.hid (HVg.out.up hb); clear hb; clear c0 c1 c2 c3 c4 d0 d1 d2 d3 d4; obtain ⟨c0, c1, c2, c3, c4⟩ := box5 HVh.out.i4; obtain ⟨d0, d1, d2, d3, d4⟩ := box5 HVh.out.i3)
        | (go_at_call 24; (with_reducible refine (CC.out p F1 _ (exI HVf.out.i1)).mono ?_); rintro e wg ⟨g1, cap1, rfl, h1, h2, -, -, hb⟩; have HVg := Lib.hid (HVf.out.push (midT g1 L) hb h1 (fun k hk => by subst hk; exact h2)); clear h1 h2 hb; clear c0 c1 c2 c3 c4 d0 d1 d2 d3 d4; obtain ⟨c0, c1, c2, c3, c4⟩ := box5 HVg.out.i4; obtain ⟨d0, d1, d2, d3, d4⟩ := box5 HVg.out.i3)
        | (go_at_call 21; (with_reducible refine (esub_nil p F1 c l L _ (exI HVee.out.i1)).mono ?_); rintro e wf ⟨rfl, hb⟩; have HVf := Lib.hid (HVee.out.up hb); clear hb; clear c0 c1 c2 c3 c4 d0 d1 d2 d3 d4; obtain ⟨c0, c1, c2, c3, c4⟩ := box5 HVf.out.i3; obtain ⟨d0, d1, d2, d3, d4⟩ := box5 HVf.out.i2)
        | (go_at_call 19; (with_reducible refine (emerge_nil p F1 c l L _ (exI HVd.out.i1)).mono ?_); rintro e we ⟨rfl, hb⟩; have HVee := Lib.hid (HVd.out.up hb); clear hb; clear c0 c1 c2 c3 c4 d0 d1 d2 d3 d4; obtain ⟨c0, c1, c2, c3, c4⟩ := box5 HVee.out.i3; obtain ⟨d0, d1, d2, d3, d4⟩ := box5 HVee.out.i2)
        | (go_at_call 25; (with_reducible refine (DU.out q G _ (exI HVc.out.i0)).mono ?_); rintro e wd ⟨rfl, G1, h1, h2, h3⟩; have HVd := Lib.hid (HVc.out.turn_0 (exT q G1 d k M) h1 h2 h3); clear h1 h2 h3; clear c0 c1 c2 c3 c4 d0 d1 d2 d3 d4; obtain ⟨c0, c1, c2, c3, c4⟩ := box5 HVd.out.i3; obtain ⟨d0, d1, d2, d3, d4⟩ := box5 HVd.out.i2)
        | (go_at_call 25; (with_reducible refine (CU.out p F _ (exI HVb.out.i1)).mono ?_); rintro e wc ⟨rfl, F1, h1, h2, h3⟩; have HVc := Lib.hid (HVb.out.turn_1 (exT p F1 c l L) h1 h2 h3); clear h1 h2 h3; clear c0 c1 c2 c3 c4 d0 d1 d2 d3 d4; obtain ⟨c0, c1, c2, c3, c4⟩ := box5 HVc.out.i3; obtain ⟨d0, d1, d2, d3, d4⟩ := box5 HVc.out.i2)
        | (go_at_call 11; (with_reducible refine (DN.out _).mono ?_); rintro e wb ⟨q, G, rfl, h1, h2, hb⟩; have HVb := Lib.hid (HVa.out.push (exT q G d k (List.replicate n2 0)) hb h1 h2); clear h1 h2 hb; clear c0 c1 c2 c3 c4 d0 d1 d2 d3 d4; obtain ⟨c0, c1, c2, c3, c4⟩ := box5 HVb.out.i3; obtain ⟨d0, d1, d2, d3, d4⟩ := box5 HVb.out.i2)
        | (go_at_call 11; (with_reducible refine (CN.out _).mono ?_); rintro e wa ⟨p, F, rfl, h1, h2, hb⟩; have HVa := Lib.hid (HV9.out.push (exT p F c l (List.replicate n 0)) hb h1 h2); clear h1 h2 hb; clear c0 c1 c2 c3 c4 d0 d1 d2 d3 d4; obtain ⟨c0, c1, c2, c3, c4⟩ := box5 HVa.out.i2; obtain ⟨d0, d1, d2, d3, d4⟩ := box5 HVa.out.i1))
      all_goals go_ret
      all_goals exact ⟨ret_bs (by first | rfl | (simp [*]; done)), HVe.out.below⟩
  by_cases g5 : l = k
  rotate_left
  · have b5 : (l == k) = false := by simpa using g5
    have b0 : (c.bt == d.bt) = true := by simpa using g0
    have b1 : (c.rw == d.rw) = true := by simpa using g1
    have b2 : (c.wd == d.wd) = true := by simpa using g2
    have b3 : (c.md == d.md) = true := by simpa using g3
    have b4 : (c.sd == d.sd) = true := by simpa using g4
    clear g0 g1 g2 g3 g4 g5
    as_aux_lemma =>
      obtain ⟨n, hn⟩ : ∃ n : Nat, keys c l = (n : Int) := ⟨(keys c l).toNat, by have := exact_len HXL.out; omega⟩
      have hn1 : 1 ≤ n := by have := exact_len HXL.out; omega
      have hn8 : n ≤ 128 := by have := exact_len HXL.out; omega
      have hlb := (keys_pos.1 (exact_len HXL.out).1).2
      have hbt := (keys_pos.1 (exact_len HXL.out).1).1.2.1
      have CN := Lib.hid (fun w => enew_yes c l w HCO.out (by omega) (by omega) HXL.out)
      rw [hn, Int.toNat_natCast] at CN
      have u5 := one_up (md := c.md) (d := 5) hn1 (by omega) (by omega)
      have CU := Lib.hid (fun p F w h => (eupd_any p F c l (List.replicate n 0) 0 5 w h (by omega) (by omega) (by omega) (by omega)))
      rw [u5.1, u5.2] at CU
      have hL : ((List.replicate n (0 : Int)).set 0 5).length = n := by simp
      obtain ⟨n2, hn2⟩ : ∃ n : Nat, keys d k = (n : Int) := ⟨(keys d k).toNat, by have := exact_len HXK.out; omega⟩
      have hn3 : 1 ≤ n2 := by have := exact_len HXK.out; omega
      have hlb2 := (keys_pos.1 (exact_len HXK.out).1).2
      have hbt2 := (keys_pos.1 (exact_len HXK.out).1).1.2.1
      have DN := Lib.hid (fun w => enew_yes d k w HDO.out (by omega) (by omega) HXK.out)
      rw [hn2, Int.toNat_natCast] at DN
      have u3 := one_up (md := d.md) (d := 3) hn3 (by omega) (by omega)
      have DU := Lib.hid (fun p F w h => (eupd_any p F d k (List.replicate n2 0) 0 3 w h (by omega) (by omega) (by omega) (by omega)))
      rw [u3.1, u3.2] at DU
      obtain ⟨L, hLL⟩ : ∃ L, (List.replicate n (0 : Int)).set 0 5 = L := ⟨_, rfl⟩
      obtain ⟨M, hMM⟩ : ∃ M, (List.replicate n2 (0 : Int)).set 0 3 = M := ⟨_, rfl⟩
      rw [hLL] at CU hL
      rw [hMM] at DU
      have hno : ¬ (cfgE c d = true ∧ l = k) := by
        intro h
        have h1 := of_decide_eq_true h.1
        have h2 := h.2
        obtain ⟨g1, g2, g3, g4, g5⟩ := h1
        simp [g1, g2, g3, g4, g5, h2] at b5
      have CM := Lib.hid (fun p F q G w h g => emerge_no p F c l L q G d k M w h g hno)
      have CS := Lib.hid (fun p F q G w h g => esub_no p F c l L q G d k M w h g hno)
      have CC := Lib.hid (fun p F w h => ecells_mid p F c l L w h)
      rw [hL] at CC
      have FL := Lib.hid hL
      have e0 := exact_len HXL.out
      clear e0 u5 u3 hLL hMM hL hn hlb hbt hn2 hlb2 hbt2 hno
      go_wp2_with (first
        | (go_at_call 26; (with_reducible refine (rsame_any _ _ _ _ _ _ L L _ (midI HVj.out.i0).rd (midI HVj.out.i1).rd FL.out FL.out (by omega) (by omega)).mono ?_); rintro e wk ⟨rfl, hb⟩; have HVe := Lib.hid (HVj.out.up hb); clear hb)
        | (go_at_call 24; (with_reducible refine (CC.out p F1 _ (exI HVi.out.i2)).mono ?_); rintro e wj ⟨g2, cap2, rfl, h1, h2, -, -, hb⟩; have HVj := Lib.hid (HVi.out.push (midT g2 L) hb h1 (fun k hk => by subst hk; exact h2)); clear h1 h2 hb)
        | (go_at_call 21; (with_reducible refine (CS.out p F1 q G1 _ (exI HVh.out.i2) (exI HVh.out.i1)).mono ?_); rintro e wi ⟨rfl, hb⟩; have HVi := Lib.hid (HVh.out.up hb); clear hb; clear c0 c1 c2 c3 c4 d0 d1 d2 d3 d4; obtain ⟨c0, c1, c2, c3, c4⟩ := box5 HVi.out.i4; obtain ⟨d0, d1, d2, d3, d4⟩ := box5 HVi.out.i3)
        | (go_at_call 19; (with_reducible refine (CM.out p F1 q G1 _ (exI HVg.out.i2) (exI HVg.out.i1)).mono ?_); rintro e wh ⟨rfl, hb⟩; have HVh := Lib.hid (HVg.out.up hb); clear hb; clear c0 c1 c2 c3 c4 d0 d1 d2 d3 d4; obtain ⟨c0, c1, c2, c3, c4⟩ := box5 HVh.out.i4; obtain ⟨d0, d1, d2, d3, d4⟩ := box5 HVh.out.i3)
        | (go_at_call 24; (with_reducible refine (CC.out p F1 _ (exI HVf.out.i1)).mono ?_); rintro e wg ⟨g1, cap1, rfl, h1, h2, -, -, hb⟩; have HVg := Lib.hid (HVf.out.push (midT g1 L) hb h1 (fun k hk => by subst hk; exact h2)); clear h1 h2 hb; clear c0 c1 c2 c3 c4 d0 d1 d2 d3 d4; obtain ⟨c0, c1, c2, c3, c4⟩ := box5 HVg.out.i4; obtain ⟨d0, d1, d2, d3, d4⟩ := box5 HVg.out.i3)
        | (go_at_call 21; (with_reducible refine (esub_nil p F1 c l L _ (exI HVee.out.i1)).mono ?_); rintro e wf ⟨rfl, hb⟩; have HVf := Lib.hid (HVee.out.up hb); clear hb; clear c0 c1 c2 c3 c4 d0 d1 d2 d3 d4; obtain ⟨c0, c1, c2, c3, c4⟩ := box5 HVf.out.i3; obtain ⟨d0, d1, d2, d3, d4⟩ := box5 HVf.out.i2)
        | (go_at_call 19; (with_reducible refine (emerge_nil p F1 c l L _ (exI HVd.out.i1)).mono ?_); rintro e we ⟨rfl, hb⟩; have HVee := Lib.hid (HVd.out.up hb); clear hb; clear c0 c1 c2 c3 c4 d0 d1 d2 d3 d4; obtain ⟨c0, c1, c2, c3, c4⟩ := box5 HVee.out.i3; obtain ⟨d0, d1, d2, d3, d4⟩ := box5 HVee.out.i2)
        | (go_at_call 25; (with_reducible refine (DU.out q G _ (exI HVc.out.i0)).mono ?_); rintro e wd ⟨rfl, G1, h1, h2, h3⟩; have HVd := Lib.hid (HVc.out.turn_0 (exT q G1 d k M) h1 h2 h3); clear h1 h2 h3; clear c0 c1 c2 c3 c4 d0 d1 d2 d3 d4; obtain ⟨c0, c1, c2, c3, c4⟩ := box5 HVd.out.i3; obtain ⟨d0, d1, d2, d3, d4⟩ := box5 HVd.out.i2)
        | (go_at_call 25; (with_reducible refine (CU.out p F _ (exI HVb.out.i1)).mono ?_); rintro e wc ⟨rfl, F1, h1, h2, h3⟩; have HVc := Lib.hid (HVb.out.turn_1 (exT p F1 c l L) h1 h2 h3); clear h1 h2 h3; clear c0 c1 c2 c3 c4 d0 d1 d2 d3 d4; obtain ⟨c0, c1, c2, c3, c4⟩ := box5 HVc.out.i3; obtain ⟨d0, d1, d2, d3, d4⟩ := box5 HVc.out.i2)
        | (go_at_call 11; (with_reducible refine (DN.out _).mono ?_); rintro e wb ⟨q, G, rfl, h1, h2, hb⟩; have HVb := Lib.hid (HVa.out.push (exT q G d k (List.replicate n2 0)) hb h1 h2); clear h1 h2 hb; clear c0 c1 c2 c3 c4 d0 d1 d2 d3 d4; obtain ⟨c0, c1, c2, c3, c4⟩ := box5 HVb.out.i3; obtain ⟨d0, d1, d2, d3, d4⟩ := box5 HVb.out.i2)
        | (go_at_call 11; (with_reducible refine (CN.out _).mono ?_); rintro e wa ⟨p, F, rfl, h1, h2, hb⟩; have HVa := Lib.hid (HV9.out.push (exT p F c l (List.replicate n 0)) hb h1 h2); clear h1 h2 hb; clear c0 c1 c2 c3 c4 d0 d1 d2 d3 d4; obtain ⟨c0, c1, c2, c3, c4⟩ := box5 HVa.out.i2; obtain ⟨d0, d1, d2, d3, d4⟩ := box5 HVa.out.i1))
      all_goals go_ret
      all_goals exact ⟨ret_bs (by first | rfl | (simp [*]; done)), HVe.out.below⟩
  have hcd : d = c := by
    cases c; cases d
    simp only at g0 g1 g2 g3 g4
    subst g0 g1 g2 g3 g4
    rfl
  subst hcd
  subst g5
  clear g0 g1 g2 g3 g4
  obtain ⟨n, hn⟩ : ∃ n : Nat, keys d l = (n : Int) := ⟨(keys d l).toNat, by have := exact_len HXL.out; omega⟩
  have hn1 : 1 ≤ n := by have := exact_len HXL.out; omega
  have hn8 : n ≤ 128 := by have := exact_len HXL.out; omega
  have hlb := (keys_pos.1 (exact_len HXL.out).1).2
  have hbt := (keys_pos.1 (exact_len HXL.out).1).1.2.1
  have CN := Lib.hid (fun w => enew_yes d l w HCO.out (by omega) (by omega) HXL.out)
  rw [hn, Int.toNat_natCast] at CN
  have u5 := one_up (md := d.md) (d := 5) hn1 (by omega) (by omega)
  have CU := Lib.hid (fun p F w h => (eupd_any p F d l (List.replicate n 0) 0 5 w h (by omega) (by omega) (by omega) (by omega)))
  rw [u5.1, u5.2] at CU
  have hL : ((List.replicate n (0 : Int)).set 0 5).length = n := by simp
  have DN := CN
  have u3 := one_up (md := d.md) (d := 3) hn1 (by omega) (by omega)
  have DU := Lib.hid (fun p F w h => (eupd_any p F d l (List.replicate n 0) 0 3 w h (by omega) (by omega) (by omega) (by omega)))
  rw [u3.1, u3.2] at DU
  have hj := one_join (n := n) (a := 5) (b := 3) hn1 (by omega) (by omega) (by omega) (by omega)
  obtain ⟨L, hLL⟩ : ∃ L, (List.replicate n (0 : Int)).set 0 5 = L := ⟨_, rfl⟩
  obtain ⟨M, hMM⟩ : ∃ M, (List.replicate n (0 : Int)).set 0 3 = M := ⟨_, rfl⟩
  rw [hLL] at CU hj hL
  rw [hMM] at DU hj
  have CM := Lib.hid (fun p F q G w h g => emerge_yes p F d l L q G M w h g)
  rw [hj.1] at CM
  obtain ⟨R1, hR1⟩ : ∃ R1, exM 1 L M = R1 := ⟨_, rfl⟩
  rw [hR1] at CM hj
  have CP := Lib.hid (fun p F w h => epoint_yes p F d l R1 0 w h (by omega) (by omega) (by rw [hj.2.2]; omega))
  rw [hj.2.1] at CP
  have CC := Lib.hid (fun p F w h => ecells_mid p F d l L w h)
  rw [hL] at CC
  have FL := Lib.hid hL
  have e0 := exact_len HXL.out
  clear e0 u5 u3 hLL hMM hL hn hlb hbt hj hR1
  go_wp2_with (first
    | (go_at_call 14; (with_reducible refine (CP.out p F2 _ (exI HVh.out.i2)).mono ?_); rintro e wi ⟨rfl, hb⟩; have HVe := Lib.hid (HVh.out.up hb); clear hb)
    | (go_at_call 19; (with_reducible refine (CM.out p F1 q G1 _ (exI HVg.out.i2) (exI HVg.out.i1)).mono ?_); rintro e wh ⟨rfl, F2, h1, h2, h3⟩; have HVh := Lib.hid (HVg.out.turn_2 (exT p F2 d l R1) h1 h2 h3); clear h1 h2 h3; clear c0 c1 c2 c3 c4 d0 d1 d2 d3 d4; obtain ⟨c0, c1, c2, c3, c4⟩ := box5 HVh.out.i4; obtain ⟨d0, d1, d2, d3, d4⟩ := box5 HVh.out.i3)
    | (go_at_call 24; (with_reducible refine (CC.out p F1 _ (exI HVf.out.i1)).mono ?_); rintro e wg ⟨g1, cap1, rfl, h1, h2, -, -, hb⟩; have HVg := Lib.hid (HVf.out.push (midT g1 L) hb h1 (fun k hk => by subst hk; exact h2)); clear h1 h2 hb; clear c0 c1 c2 c3 c4 d0 d1 d2 d3 d4; obtain ⟨c0, c1, c2, c3, c4⟩ := box5 HVg.out.i4; obtain ⟨d0, d1, d2, d3, d4⟩ := box5 HVg.out.i3)
    | (go_at_call 21; (with_reducible refine (esub_nil p F1 d l L _ (exI HVee.out.i1)).mono ?_); rintro e wf ⟨rfl, hb⟩; have HVf := Lib.hid (HVee.out.up hb); clear hb; clear c0 c1 c2 c3 c4 d0 d1 d2 d3 d4; obtain ⟨c0, c1, c2, c3, c4⟩ := box5 HVf.out.i3; obtain ⟨d0, d1, d2, d3, d4⟩ := box5 HVf.out.i2)
    | (go_at_call 19; (with_reducible refine (emerge_nil p F1 d l L _ (exI HVd.out.i1)).mono ?_); rintro e we ⟨rfl, hb⟩; have HVee := Lib.hid (HVd.out.up hb); clear hb; clear c0 c1 c2 c3 c4 d0 d1 d2 d3 d4; obtain ⟨c0, c1, c2, c3, c4⟩ := box5 HVee.out.i3; obtain ⟨d0, d1, d2, d3, d4⟩ := box5 HVee.out.i2)
    | (go_at_call 25; (with_reducible refine (DU.out q G _ (exI HVc.out.i0)).mono ?_); rintro e wd ⟨rfl, G1, h1, h2, h3⟩; have HVd := Lib.hid (HVc.out.turn_0 (exT q G1 d l M) h1 h2 h3); clear h1 h2 h3; clear c0 c1 c2 c3 c4 d0 d1 d2 d3 d4; obtain ⟨c0, c1, c2, c3, c4⟩ := box5 HVd.out.i3; obtain ⟨d0, d1, d2, d3, d4⟩ := box5 HVd.out.i2)
    | (go_at_call 25; (with_reducible refine (CU.out p F _ (exI HVb.out.i1)).mono ?_); rintro e wc ⟨rfl, F1, h1, h2, h3⟩; have HVc := Lib.hid (HVb.out.turn_1 (exT p F1 d l L) h1 h2 h3); clear h1 h2 h3; clear c0 c1 c2 c3 c4 d0 d1 d2 d3 d4; obtain ⟨c0, c1, c2, c3, c4⟩ := box5 HVc.out.i3; obtain ⟨d0, d1, d2, d3, d4⟩ := box5 HVc.out.i2)
    | (go_at_call 11; (with_reducible refine (DN.out _).mono ?_); rintro e wb ⟨q, G, rfl, h1, h2, hb⟩; have HVb := Lib.hid (HVa.out.push (exT q G d l (List.replicate n 0)) hb h1 h2); clear h1 h2 hb; clear c0 c1 c2 c3 c4 d0 d1 d2 d3 d4; obtain ⟨c0, c1, c2, c3, c4⟩ := box5 HVb.out.i3; obtain ⟨d0, d1, d2, d3, d4⟩ := box5 HVb.out.i2)
    | (go_at_call 11; (with_reducible refine (CN.out _).mono ?_); rintro e wa ⟨p, F, rfl, h1, h2, hb⟩; have HVa := Lib.hid (HV9.out.push (exT p F d l (List.replicate n 0)) hb h1 h2); clear h1 h2 hb; clear c0 c1 c2 c3 c4 d0 d1 d2 d3 d4; obtain ⟨c0, c1, c2, c3, c4⟩ := box5 HVa.out.i2; obtain ⟨d0, d1, d2, d3, d4⟩ := box5 HVa.out.i1))
  all_goals go_ret
  all_goals exact ⟨ret_bs (by first | rfl | (simp [*]; done)), HVe.out.below⟩
namespace exactUnlike
open Go.ChangeShapes Go.WideShapes Go.ChangeAt Go.Joins
set_option maxRecDepth 100000 in
theorem lifted (os : Os) (started : os.Started) (H : Type) (enc : TypeId × Value → H) :
    ReturnsInHanded {} Try.checked os 6 .any (Rows.exactUnlikeSpec.pre6 enc Try.prog Try.f6 Rows.exactUnlikeRow.domain false) (Rows.exactUnlikeSpec.post enc Try.prog Try.f6 false true false false) := by
  refine Lw.lifted (C := Try.checked) (B := 4) (by kernel_rfl) os started (by kernel_rfl) Try.func6
    (ChangeSpec.witness6 (enc := enc) (C := Try.checked) false ⟨#[], #[.agg #[.int .i64 0, .int .i64 0, .int .i64 0, .int .i64 0, .int .u64 0], .agg #[.int .i64 0, .int .i64 0, .int .i64 0, .int .i64 0, .int .u64 0], .agg #[.int .i64 0, .int .i64 0]], []⟩ 8 (by kernel_rfl) (by kernel_rfl) (by kernel_rfl) (by kernel_rfl)) rfl Try.underlying4 (by kernel_rfl) (by kernel_rfl) (by kernel_rfl) ?_ ?_
  · intro ds h
    rw [Try.params6] at h
    match ds, h with
    | [_, _, _], _ => rfl
  · intro W base args ds p hval hA
    rw [Try.params6] at hA hval
    obtain ⟨v0, vs0, d0, ds0, p0, q0, hargs, rfl, rfl, h0, r0⟩ := trodAll_cons hA
    obtain ⟨v1, vs1, d1, ds1, p1, q1, rfl, rfl, rfl, h1, r1⟩ := trodAll_cons r0
    obtain ⟨v2, vs2, d2, ds2, p2, q2, rfl, rfl, rfl, h2, r2⟩ := trodAll_cons r1
    obtain ⟨rfl, rfl, rfl⟩ := trodAll_nil r2
    obtain rfl : args = #[v0, v1, v2] := by cases args; simp_all
    obtain ⟨x0_0, x0_1, x0_2, x0_3, x0_4, rfl, z0_0, z0_1, z0_2, z0_3, z0_4⟩ := open_cfg (hval 0 24 v0 rfl rfl) h0
    obtain ⟨x1_0, x1_1, x1_2, x1_3, x1_4, rfl, z1_0, z1_1, z1_2, z1_3, z1_4⟩ := open_cfg (hval 1 24 v1 rfl rfl) h1
    obtain ⟨x2_0, x2_1, rfl, z2_0, z2_1⟩ := open_arr2_int (hval 2 61 v2 rfl rfl) h2
    exact unl_law ⟨x0_0, x0_1, x0_2, x0_3, x0_4⟩ ⟨x1_0, x1_1, x1_2, x1_3, x1_4⟩ x2_0 x2_1 W ⟨z0_0.1, z0_0.2, z0_1.1, z0_1.2, z0_2.1, z0_2.2, z0_3.1, z0_3.2, z0_4.1, z0_4.2⟩ ⟨z1_0.1, z1_0.2, z1_1.1, z1_1.2, z1_2.1, z1_2.2, z1_3.1, z1_3.2, z1_4.1, z1_4.2⟩ z2_0 z2_1
theorem over : Rows.exactUnlikeRow.holds Try.pinned (OpenSpec.ofChange Rows.exactUnlikeSpec) :=
  OpenClaim.holds_of_wide 6 Try.f6 rfl rfl rfl rfl rfl rfl rfl ⟨rfl, rfl, rfl, rfl, rfl⟩ rfl rfl rfl rfl rfl (by kernel_rfl) Try.func6 (by kernel_rfl)
    (of_decide_eq_true (by kernel_rfl)) (by unfold Func.isWrapper; first | (rw [if_pos (by decide +kernel)]; kernel_rfl) | (rw [if_neg (by decide +kernel)]; exact ⟨rfl, rfl⟩))
    (fun os started H enc _ => lifted os started H enc)
theorem proved : Rows.ExactUnlikeSaid :=
  over
#print axioms proved
end exactUnlike
end Go.Proofs.Ytnhknachabephaa.Exa
