/- The statement ExactSums of layer 12 holds: each key has just what was added to it, in whatever order; any config (eight bits, 128 columns), exact level, and updates (sixty, by less than 2 to the power of 40; none below 0 in the mode Conservative). Printed by wip/gen/exalaws.py. -/
import Derived.Test.YtnhknachabephaaMg
import Derived.Deep.LoopGhost
import Derived.Deep.RegionHeld3
import Derived.Deep.DeepCutAuto
import Derived.Deep.QuietTactic
import Derived.BigQuiet
namespace Go.Proofs.Ytnhknachabephaa.Exa
open Go Go.RowKit Lw Grd Lin Con Shp Sk
set_option linter.unusedVariables false
set_option linter.unusedSimpArgs false
set_option maxRecDepth 100000 in
set_option maxHeartbeats 16000000 in
theorem sums_law (x : Cfg) (lv : Int) (A : Option Addr) (n0 k0 : Nat) (qs : Ups) (w : World) (hx : x.Ok) (hlv : -9223372036854775808 ≤ lv ∧ lv ≤ 9223372036854775807) (hq : UpdV w A n0 k0 qs) :
    Calls Try.prog 5 #[.agg #[.int .i64 x.bt, .int .i64 x.rw, .int .i64 x.wd, .int .i64 x.md, .int .u64 x.sd, .int .i64 lv, .slice A n0 k0]] w fun e w' => e = .returned (.bool true) ∧ Below w.heap.size w w' := by
  obtain ⟨i0, hi, hz0, hz1, hz2⟩ := info_parts i64_info
  have hnc := hq.nc
  have hcm := hq.cm
  unfold maxLen at hcm
  obtain ⟨N, hmin⟩ : ∃ N : Nat, (if (60 : Int) < n0 then 60 else (n0 : Int)) = N := ⟨min n0 60, by split <;> omega⟩
  have hN1 : N ≤ 60 := by split at hmin <;> omega
  have hN2 : N ≤ n0 := by split at hmin <;> omega
  have HQ := Lib.hid hq
  have HLQ := Lib.hid hq.len
  obtain ⟨c, hc⟩ : ∃ c, anyC x 8 128 = c := ⟨_, rfl⟩
  have cr := any_right x 8 128 (by omega) (by omega) (by omega) (by omega)
  have co := any_ok x hx 8 128 (by omega) (by omega) (by omega) (by omega)
  rw [hc] at cr co
  have CA := Lib.hid (fun w => rany_at x 8 128 c w hx (by omega) (by omega) (by omega) (by omega) hc)
  have CT := Lib.hid (fun w => top_any c lv w co cr hlv.1 hlv.2)
  have HCO := Lib.hid co
  have HBX : Hid (Have w (w.alloc (.cells #[.int .i64 x.bt, .int .i64 x.rw, .int .i64 x.wd, .int .i64 x.md, .int .u64 x.sd, .int .i64 lv, .slice A n0 k0] 57)) [boxT w.heap.size 57 #[.int .i64 x.bt, .int .i64 x.rw, .int .i64 x.wd, .int .i64 x.md, .int .u64 x.sd, .int .i64 lv, .slice A n0 k0]]) := Lib.hid (box_new w _ _)
  clear hc hx cr co hlv hq
  go_enter Try.func5, Try.ntmps5
  go_upto_region 4 with (first
    | (go_at_call 10; (with_reducible refine (CT.out _).mono ?_); rintro e w3 ⟨l, rfl, hxl, hb⟩; have HXL := Lib.hid hxl; have HV3 := Lib.hid (HV2.out.up hb); clear hb hxl; clear c0 c1 c2 c3 c4 x0 x1 x2 x3 x4 x5 x6; obtain ⟨c0, c1, c2, c3, c4⟩ := box5 HV3.out.i0; obtain ⟨x0, x1, x2, x3, x4, x5, x6⟩ := box7 HV3.out.i1)
    | (go_at_call 9; (with_reducible refine (CA.out _).mono ?_); rintro e w2 ⟨rfl, hb⟩; have HV2 := Lib.hid ((HV1.out.up hb).push (boxT w2.heap.size 24 #[.int .i64 c.bt, .int .i64 c.rw, .int .i64 c.wd, .int .i64 c.md, .int .u64 c.sd]) (Lw.below_alloc (Below.refl _ _) _) (heap_alloc_new w2 _) (fun k hk => Nat.le_of_eq hk.symm)); clear hb; clear x0 x1 x2 x3 x4 x5 x6; obtain ⟨c0, c1, c2, c3, c4⟩ := box5 HV2.out.i0; obtain ⟨x0, x1, x2, x3, x4, x5, x6⟩ := box7 HV2.out.i1)
    | (go_at_call 8; (with_reducible refine (shown_any _).mono ?_); rintro e w1 ⟨rfl, hb⟩; have HV1 := Lib.hid (HBX.out.up hb); clear hb; obtain ⟨x0, x1, x2, x3, x4, x5, x6⟩ := box7 HV1.out.i0))
  obtain ⟨n, hn0⟩ : ∃ n : Nat, keys c l = (n : Int) := ⟨(keys c l).toNat, by have := exact_len HXL.out; omega⟩
  have hn1 : 1 ≤ n := by have := exact_len HXL.out; omega
  have hn8 : n ≤ 128 := by have := exact_len HXL.out; omega
  have hlb := (keys_pos.1 (exact_len HXL.out).1).2
  have hbt := (keys_pos.1 (exact_len HXL.out).1).1.2.1
  have CN := Lib.hid (fun w => enew_yes c l w HCO.out (by omega) (by omega) HXL.out)
  have CK := Lib.hid (fun w => rkeys_any c l w HCO.out (by omega) (by omega))
  rw [hn0, Int.toNat_natCast] at CN
  rw [hn0] at CK
  have HK := Lib.hid hn0
  obtain ⟨us, hus⟩ : ∃ us, (qs.take N).map (cutU c l) = us := ⟨_, rfl⟩
  have HUS := Lib.hid hus
  have HUE : Hid (UpsE c.md n us) := Lib.hid (by rw [← hus]; exact cut_UpsE hn0 hn1 _)
  have HUL : Hid (us.length = N) := Lib.hid (by rw [← hus, List.length_map, List.length_take, HLQ.out]; omega)
  have hmk : ∀ w, (Instr.makeSlice 46 (.int .u64 (n : Int)) (.int .u64 (n : Int))).run Try.prog w = .ok (.slice (some ⟨w.heap.size, 0, none⟩) n n) (w.alloc (.cells (madeCells #[.int .i64 0] n) 2)) := by
    intro w
    have h := run_make (P := Try.prog) w 46 2 i0 (.int .i64 0) i64s_u hi hz0 .u64 .u64 n n (by omega) (Int.le_refl _) (by rw [hz2]; omega) (by omega)
    rw [hz1] at h
    simpa [Value.cells] using h
  have e128 : ¬ (128 : Int) < (n : Int) := by omega
  have hmn : (if (128 : Int) < (n : Int) then (128 : Int) else (n : Int)) = (n : Int) := if_neg e128
  clear hn0 hus hlb hbt CA CT hi hz0 hz1 hz2
  go_upto_region 10 with (first
    | (go_at_call 13; (with_reducible refine (CK.out _).mono ?_); rintro e w6 ⟨rfl, hb⟩; have HV6 := Lib.hid (HV5.out.up hb); clear hb; clear c0 c1 c2 c3 c4 x0 x1 x2 x3 x4 x5 x6; obtain ⟨c0, c1, c2, c3, c4⟩ := box5 HV6.out.i2; obtain ⟨x0, x1, x2, x3, x4, x5, x6⟩ := box7 HV6.out.i3)
    | (go_at_call 11; (with_reducible refine (CN.out _).mono ?_); rintro e w5 ⟨q, G, rfl, h1, h2, hb⟩; have HV5 := Lib.hid (HV4.out.push (exT q G c l (List.replicate n 0)) hb h1 h2); clear h1 h2 hb; clear c0 c1 c2 c3 c4 x0 x1 x2 x3 x4 x5 x6; obtain ⟨c0, c1, c2, c3, c4⟩ := box5 HV5.out.i2; obtain ⟨x0, x1, x2, x3, x4, x5, x6⟩ := box7 HV5.out.i3)
    | (go_at_call 11; (with_reducible refine (CN.out _).mono ?_); rintro e w4 ⟨p, F, rfl, h1, h2, hb⟩; have HV4 := Lib.hid (HV3.out.push (exT p F c l (List.replicate n 0)) hb h1 h2); clear h1 h2 hb; clear c0 c1 c2 c3 c4 x0 x1 x2 x3 x4 x5 x6; obtain ⟨c0, c1, c2, c3, c4⟩ := box5 HV4.out.i1; obtain ⟨x0, x1, x2, x3, x4, x5, x6⟩ := box7 HV4.out.i2))
  obtain ⟨gw, hgw⟩ : ∃ gw, w6.heap.size = gw := ⟨_, rfl⟩
  obtain ⟨w7, hw7⟩ : ∃ w7, w7 = w6.alloc (.cells (madeCells #[.int .i64 0] n) 2) := ⟨_, rfl⟩
  obtain ⟨gc, hgc⟩ : ∃ gc, w2.heap.size = gc := ⟨_, rfl⟩
  have HV7 : Hid (Have w w7 [midT gw (sums n (us.take 0)), exT q G c l (sums n (us.reverse.take 0)), exT p F c l (sums n (us.take 0)), boxT gc 24 #[.int .i64 c.bt, .int .i64 c.rw, .int .i64 c.wd, .int .i64 c.md, .int .u64 c.sd], boxT w.heap.size 57 #[.int .i64 x.bt, .int .i64 x.rw, .int .i64 x.wd, .int .i64 x.md, .int .u64 x.sd, .int .i64 lv, .slice A n0 k0]]) := Lib.hid (by
    rw [hw7, ← hgw, ← hgc, List.take_zero, List.take_zero, sums_nil]
    exact HV6.out.push (midT w6.heap.size (List.replicate n 0)) (Lw.below_alloc (Below.refl _ _) _) (Grd.mid_made w6 n 2) (fun k hk => by subst hk; exact Nat.le_refl _))
  rw [hgw, hgc, ← hw7]
  clear HV6 HV5 HV4 HV3 HV2 HV1 hw7 hgw hgc x0 x1 x2 x3 x4 x5 x6 c0 c1 c2 c3 c4 hmk e128 hmn
  have x6 := box_cell (i := 6) HV7.out.i4 rfl
  go_upto_region 12 with fail
  clear hmin x6
  go_loopw [13] (fun iv wr => ∃ (i : Nat) (G F : Nat → Prop), i ≤ N ∧ iv = .int .i64 i ∧ Have w wr [midT gw (sums n (us.take i)), exT q G c l (sums n (us.reverse.take i)), exT p F c l (sums n (us.take i)), boxT gc 24 #[.int .i64 c.bt, .int .i64 c.rw, .int .i64 c.wd, .int .i64 c.md, .int .u64 c.sd], boxT w.heap.size 57 #[.int .i64 x.bt, .int .i64 x.rw, .int .i64 x.wd, .int .i64 x.md, .int .u64 x.sd, .int .i64 lv, .slice A n0 k0]]) (fun iv _ => N - (intOf iv).toNat)
  case atStart => exact ⟨0, G, F, Nat.zero_le _, rfl, HV7.out⟩
  case round =>
    clear HV7
    obtain ⟨i, G, F, hi9, rfl, hv⟩ := hrel
    have HVr := Lib.hid hv
    have hwb := hv.below
    obtain ⟨c0, c1, c2, c3, c4⟩ := box5 hv.i3
    obtain ⟨x0, x1, x2, x3, x4, x5, x6⟩ := box7 hv.i4
    clear hv
    by_cases hlt : i < N
    · obtain ⟨u, hu⟩ : ∃ u, qs[i]? = some u := ⟨_, List.getElem?_eq_getElem (by rw [HLQ.out]; omega)⟩
      obtain ⟨v, hv⟩ : ∃ u, qs[N - 1 - i]? = some u := ⟨_, List.getElem?_eq_getElem (by rw [HLQ.out]; omega)⟩
      obtain ⟨a, g1, o1, rfl, hadd1, d1w, d2w, kb, db⟩ := HQ.out.at hu
      obtain ⟨a2, g2, o2, ha2, hadd2, d3w, d4w, kb2, db2⟩ := HQ.out.at hv
      injection ha2 with ha2
      subst ha2
      have d1 := cell_up d1w hwb
      have d2 := cell_up d2w hwb
      have d3 := cell_up d3w hwb
      have d4 := cell_up d4w hwb
      obtain ⟨uk, ud⟩ := u
      obtain ⟨vk, vd⟩ := v
      simp only at d1 d2 d3 d4 kb kb2 db db2
      have P1 := cut_parts c l n HK.out (by omega) (uk, ud) kb.1 kb.2
      have P2 := cut_parts c l n HK.out (by omega) (vk, vd) kb2.1 kb2.2
      have g1u : us[i]? = some (cutU c l (uk, ud)) := by rw [← HUS.out]; exact cut_get hlt hu
      have g2u : us.reverse[i]? = some (cutU c l (vk, vd)) := rev_get HUL.out hlt (by rw [← HUS.out]; exact cut_get (by omega) hv)
      have s1 := sums_next HUE.out (by rw [HUL.out]; exact hN1) g1u
      have s2 := sums_next HUE.out.rev (by rw [List.length_reverse, HUL.out]; exact hN1) g2u
      have u1b := cutU_ok (c := c) (l := l) (by rw [HK.out]; omega) (uk, ud)
      have u2b := cutU_ok (c := c) (l := l) (by rw [HK.out]; omega) (vk, vd)
      have HUB := Lib.hid (And.intro P1 P2)
      have CU1 := Lib.hid (fun w h => eupd_any p F c l (sums n (us.take i)) (cutU c l (uk, ud)).1 (cutU c l (uk, ud)).2 w h u1b.1 (by have := P1.2.2.1; omega) (by omega) (by omega))
      have CU2 := Lib.hid (fun w h => eupd_any q G c l (sums n (us.reverse.take i)) (cutU c l (vk, vd)).1 (cutU c l (vk, vd)).2 w h u2b.1 (by have := P2.2.2.1; omega) (by omega) (by omega))
      rw [s1.1, s1.2.1] at CU1
      rw [s2.1, s2.2.1] at CU2
      have HS1 := Lib.hid (And.intro s1.2.2.1 s1.2.2.2)
      have hnn : ¬ (n : Int) = 0 := by omega
      have hi8 : i + 1 ≤ N := hlt
      have hl1 : (i : Int) < (N : Int) := by omega
      have w1a : wrap64 ((N : Int) - 1) = (N : Int) - 1 := IntWalk.wrap64_in _ ⟨by omega, by omega⟩
      have w1b : wrap64 ((N : Int) - 1 - (i : Int)) = ((N - 1 - i : Nat) : Int) := by rw [IntWalk.wrap64_in _ ⟨by omega, by omega⟩]; omega
      have HD3 := Lib.hid d3w
      have HD4 := Lib.hid d4w
      have hs1 : (i : Int) < (n0 : Int) := by omega
      have hs2 : ((N - 1 - i : Nat) : Int) < (n0 : Int) := by omega
      have hs3 : N - 1 - i < n0 := by omega
      have hs4 : i < n0 := by omega
      clear hu hv d1w d2w d3w d4w kb db kb2 db2 g1u g2u s1 s2 u1b u2b HUB hwb hnc hcm
      by_cases hm : c.md = 2
      · as_aux_lemma =>
          have hmb : (c.md == 2) = true := by simp [hm]
          have q4 := P1.2.2.2.2 hm
          have r4 := P2.2.2.2.2 hm
          have B1 := tmod_bd ud
          have B2 := tmod_bd vd
          obtain ⟨t1, ht1⟩ : ∃ t, Int.tmod ud 1099511627776 = t := ⟨_, rfl⟩
          obtain ⟨t2, ht2⟩ : ∃ t, Int.tmod vd 1099511627776 = t := ⟨_, rfl⟩
          rw [ht1] at q4 B1
          rw [ht2] at r4 B2
          have q1 := P1.1
          have r1 := P2.1
          have HU1 := Lib.hid (And.intro P1.2.1 P1.2.2.1)
          have HU2 := Lib.hid (And.intro P2.2.1 P2.2.2.1)
          clear P1 P2 hm
          obtain ⟨D1, hD1⟩ : ∃ t, (cutU c l (uk, ud)).2 = t := ⟨_, rfl⟩
          obtain ⟨D2, hD2⟩ : ∃ t, (cutU c l (vk, vd)).2 = t := ⟨_, rfl⟩
          obtain ⟨U1, hU1⟩ : ∃ t, (cutU c l (uk, ud)).1 = t := ⟨_, rfl⟩
          obtain ⟨U2, hU2⟩ : ∃ t, (cutU c l (vk, vd)).1 = t := ⟨_, rfl⟩
          rw [hD1] at q4 CU1 HS1
          rw [hD2] at r4 CU2
          rw [hU1] at q1 HU1 CU1 HS1
          rw [hU2] at r1 HU2 CU2
          clear hD1 hD2 hU1 hU2
          have m1 : (if t1 < -t1 then -t1 else t1) = D1 := q4.symm
          have m2 : (if t2 < -t2 then -t2 else t2) = D2 := r4.symm
          have n1 : wrap64 (-t1) = -t1 := IntWalk.wrap64_in _ ⟨by omega, by omega⟩
          have n2 : wrap64 (-t2) = -t2 := IntWalk.wrap64_in _ ⟨by omega, by omega⟩
          clear q4 r4 B1 B2
          obtain ⟨gad, hgad⟩ : ∃ gad : Addr, (⟨gw, 0, none⟩ : Addr) = gad := ⟨_, rfl⟩
          rw [hgad]
          have HGAD := Lib.hid hgad
          clear hgad
          go_upto_region 15 with fail
          obtain ⟨w6, hw6⟩ : ∃ w6, w6 = wr.alloc (.cells #[.int .u64 uk, .int .i64 ud] 59) := ⟨_, rfl⟩
          have HV6 : Hid (Have w w6 (boxT wr.heap.size 59 #[.int .u64 uk, .int .i64 ud] :: [midT gw (sums n (us.take i)), exT q G c l (sums n (us.reverse.take i)), exT p F c l (sums n (us.take i)), boxT gc 24 #[.int .i64 c.bt, .int .i64 c.rw, .int .i64 c.wd, .int .i64 c.md, .int .u64 c.sd], boxT w.heap.size 57 #[.int .i64 x.bt, .int .i64 x.rw, .int .i64 x.wd, .int .i64 x.md, .int .u64 x.sd, .int .i64 lv, .slice (some a) n0 k0]])) := Lib.hid (by
            rw [hw6]
            exact HVr.out.push (boxT wr.heap.size 59 #[.int .u64 uk, .int .i64 ud]) (Lw.below_alloc (Below.refl _ _) _) (heap_alloc_new wr _) (fun k hk => Nat.le_of_eq hk.symm))
          obtain ⟨gu, hgu⟩ : ∃ gu, wr.heap.size = gu := ⟨_, rfl⟩
          rw [hgu] at HV6
          rw [← hw6, hgu]
          clear hw6 hgu x0 x1 x2 x3 x4 x5 x6 c0 c1 c2 c3 c4 d1 d2 d3 d4 hadd1 hs1 hs4
          have x6 := box_cell (i := 6) HV6.out.i5 rfl
          have e0 := box_cell (i := 0) HV6.out.i0 rfl
          have e1 := box_cell (i := 1) HV6.out.i0 rfl
          have d3 := cell_up HD3.out HV6.out.below
          have d4 := cell_up HD4.out HV6.out.below
          go_upto_region 17 with fail
          obtain ⟨w7, hw7⟩ : ∃ w7, w7 = w6.alloc (.cells #[.int .u64 vk, .int .i64 vd] 59) := ⟨_, rfl⟩
          have HV7 : Hid (Have w w7 (boxT w6.heap.size 59 #[.int .u64 vk, .int .i64 vd] :: boxT gu 59 #[.int .u64 uk, .int .i64 ud] :: [midT gw (sums n (us.take i)), exT q G c l (sums n (us.reverse.take i)), exT p F c l (sums n (us.take i)), boxT gc 24 #[.int .i64 c.bt, .int .i64 c.rw, .int .i64 c.wd, .int .i64 c.md, .int .u64 c.sd], boxT w.heap.size 57 #[.int .i64 x.bt, .int .i64 x.rw, .int .i64 x.wd, .int .i64 x.md, .int .u64 x.sd, .int .i64 lv, .slice (some a) n0 k0]])) := Lib.hid (by
            rw [hw7]
            exact HV6.out.push (boxT w6.heap.size 59 #[.int .u64 vk, .int .i64 vd]) (Lw.below_alloc (Below.refl _ _) _) (heap_alloc_new w6 _) (fun k hk => Nat.le_of_eq hk.symm))
          obtain ⟨gv, hgv⟩ : ∃ gv, w6.heap.size = gv := ⟨_, rfl⟩
          rw [hgv] at HV7
          rw [← hw7, hgv]
          clear hw7 hgv x6 e0 e1 d3 d4 hadd2 hs2 hs3
          have c3 := box_cell (i := 3) HV7.out.i5 rfl; have b0 := box_cell (i := 0) HV7.out.i0 rfl; have b1 := box_cell (i := 1) HV7.out.i0 rfl; have e0 := box_cell (i := 0) HV7.out.i1 rfl; have e1 := box_cell (i := 1) HV7.out.i1 rfl
          go_upto_region 25 with (first
            | (go_at_call 25; (with_reducible refine (CU2.out _ (exI HV8.out.i3)).mono ?_); rintro e w9 ⟨rfl, G9, h1, h2, h3⟩; have HV9 := Lib.hid (HV8.out.turn_3 (exT q G9 c l (sums n (us.reverse.take (i + 1)))) h1 h2 h3); clear h1 h2 h3; clear c3 b0 b1 e0 e1; have c3 := box_cell (i := 3) HV9.out.i5 rfl; have b0 := box_cell (i := 0) HV9.out.i0 rfl; have b1 := box_cell (i := 1) HV9.out.i0 rfl; have e0 := box_cell (i := 0) HV9.out.i1 rfl; have e1 := box_cell (i := 1) HV9.out.i1 rfl)
            | (go_at_call 25; (with_reducible refine (CU1.out _ (exI HV7.out.i4)).mono ?_); rintro e w8 ⟨rfl, F9, h1, h2, h3⟩; have HV8 := Lib.hid (HV7.out.turn_4 (exT p F9 c l (sums n (us.take (i + 1)))) h1 h2 h3); clear h1 h2 h3; clear c3 b0 b1 e0 e1; have c3 := box_cell (i := 3) HV8.out.i5 rfl; have b0 := box_cell (i := 0) HV8.out.i0 rfl; have b1 := box_cell (i := 1) HV8.out.i0 rfl; have e0 := box_cell (i := 0) HV8.out.i1 rfl; have e1 := box_cell (i := 1) HV8.out.i1 rfl))
          obtain ⟨AT, hAT⟩ : ∃ AT : Nat, U1 = AT := ⟨U1.toNat, by have := HU1.out; omega⟩
          subst hAT
          have hlt9 : AT < n := by have := HU1.out; omega
          obtain ⟨x9, hx9⟩ : ∃ v, (sums n (us.take i))[AT]? = some v := ⟨_, List.getElem?_eq_getElem (by rw [sums_len]; exact hlt9)⟩
          have hnum : num (sums n (us.take i)) (AT : Int) = x9 := by unfold num; rw [Int.toNat_natCast, hx9]; rfl
          rw [hnum, Int.toNat_natCast] at HS1
          have hcl := (midI HV9.out.i2).cell hx9
          have hfz := (midI HV9.out.i2).frozen (0 + AT)
          have hm6 := (midI HV9.out.i2).set AT (x9 + D1)
          have hk6 : Kept (fun k => k = gw) w9 (w9.setCell ⟨gw, 0 + AT, none⟩ (.int .i64 (x9 + D1))) := (Kept.refl (fun k => k = gw) w9).set (.inl rfl) _ _
          rw [HS1.out.1] at hm6
          rw [← Ord.add_at, HGAD.out] at hcl hfz hm6 hk6
          obtain ⟨S, hS⟩ : ∃ S, x9 + D1 = S := ⟨_, rfl⟩
          rw [hS] at hm6 hk6 HS1
          have HM6 := Lib.hid hm6
          have HK6 := Lib.hid hk6
          have hat1 : (AT : Int) < (n : Int) := by omega
          have a5 : IntKind.i64.wrap (x9 + D1) = S := by rw [hS]; exact IntWalk.i64_in _ HS1.out.2
          have z9 : IntKind.u64.wrap (AT : Int) = (AT : Int) := by rw [IntKind.wrap_u64]; omega
          clear hm6 hk6 hx9 hnum hS c3 b0 b1 e1 m1 m2 n1 n2
          go_region
          clear hcl hfz a5 z9
          go_wp2
          go_roundw
          case rel => exact ⟨i + 1, G9, F9, by omega, by go_num, ((((HV9.out.turn_2 (midT gw _) HM6.out HK6.out (fun k hk => .inl hk)).up (by repeat' (first | (with_reducible exact Below.refl _ _) | (with_reducible assumption) | (with_reducible refine below_over ?_ _ _) | (with_reducible refine Lw.below_alloc ?_ _) | (with_reducible refine Below.drew ?_) | (with_reducible refine below_drewN ?_ _) | (with_reducible refine Below.setCell ?_ ?_ _) | go_size))).drop_0).drop_0)⟩
          case measure => simp [intOf]; omega
      · as_aux_lemma =>
          have hmb : (c.md == 2) = false := by simpa using hm
          have q4 := P1.2.2.2.1 hm
          have r4 := P2.2.2.2.1 hm
          have B1 := tmod_bd ud
          have B2 := tmod_bd vd
          obtain ⟨t1, ht1⟩ : ∃ t, Int.tmod ud 1099511627776 = t := ⟨_, rfl⟩
          obtain ⟨t2, ht2⟩ : ∃ t, Int.tmod vd 1099511627776 = t := ⟨_, rfl⟩
          rw [ht1] at q4 B1
          rw [ht2] at r4 B2
          have q1 := P1.1
          have r1 := P2.1
          have HU1 := Lib.hid (And.intro P1.2.1 P1.2.2.1)
          have HU2 := Lib.hid (And.intro P2.2.1 P2.2.2.1)
          clear P1 P2 hm
          obtain ⟨D1, hD1⟩ : ∃ t, (cutU c l (uk, ud)).2 = t := ⟨_, rfl⟩
          obtain ⟨D2, hD2⟩ : ∃ t, (cutU c l (vk, vd)).2 = t := ⟨_, rfl⟩
          obtain ⟨U1, hU1⟩ : ∃ t, (cutU c l (uk, ud)).1 = t := ⟨_, rfl⟩
          obtain ⟨U2, hU2⟩ : ∃ t, (cutU c l (vk, vd)).1 = t := ⟨_, rfl⟩
          rw [hD1] at q4 CU1 HS1
          rw [hD2] at r4 CU2
          rw [hU1] at q1 HU1 CU1 HS1
          rw [hU2] at r1 HU2 CU2
          clear hD1 hD2 hU1 hU2
          have q5 := q4.symm
          have r5 := r4.symm
          subst q5
          subst r5
          clear B1 B2
          obtain ⟨gad, hgad⟩ : ∃ gad : Addr, (⟨gw, 0, none⟩ : Addr) = gad := ⟨_, rfl⟩
          rw [hgad]
          have HGAD := Lib.hid hgad
          clear hgad
          go_upto_region 15 with fail
          obtain ⟨w6, hw6⟩ : ∃ w6, w6 = wr.alloc (.cells #[.int .u64 uk, .int .i64 ud] 59) := ⟨_, rfl⟩
          have HV6 : Hid (Have w w6 (boxT wr.heap.size 59 #[.int .u64 uk, .int .i64 ud] :: [midT gw (sums n (us.take i)), exT q G c l (sums n (us.reverse.take i)), exT p F c l (sums n (us.take i)), boxT gc 24 #[.int .i64 c.bt, .int .i64 c.rw, .int .i64 c.wd, .int .i64 c.md, .int .u64 c.sd], boxT w.heap.size 57 #[.int .i64 x.bt, .int .i64 x.rw, .int .i64 x.wd, .int .i64 x.md, .int .u64 x.sd, .int .i64 lv, .slice (some a) n0 k0]])) := Lib.hid (by
            rw [hw6]
            exact HVr.out.push (boxT wr.heap.size 59 #[.int .u64 uk, .int .i64 ud]) (Lw.below_alloc (Below.refl _ _) _) (heap_alloc_new wr _) (fun k hk => Nat.le_of_eq hk.symm))
          obtain ⟨gu, hgu⟩ : ∃ gu, wr.heap.size = gu := ⟨_, rfl⟩
          rw [hgu] at HV6
          rw [← hw6, hgu]
          clear hw6 hgu x0 x1 x2 x3 x4 x5 x6 c0 c1 c2 c3 c4 d1 d2 d3 d4 hadd1 hs1 hs4
          have x6 := box_cell (i := 6) HV6.out.i5 rfl
          have e0 := box_cell (i := 0) HV6.out.i0 rfl
          have e1 := box_cell (i := 1) HV6.out.i0 rfl
          have d3 := cell_up HD3.out HV6.out.below
          have d4 := cell_up HD4.out HV6.out.below
          go_upto_region 17 with fail
          obtain ⟨w7, hw7⟩ : ∃ w7, w7 = w6.alloc (.cells #[.int .u64 vk, .int .i64 vd] 59) := ⟨_, rfl⟩
          have HV7 : Hid (Have w w7 (boxT w6.heap.size 59 #[.int .u64 vk, .int .i64 vd] :: boxT gu 59 #[.int .u64 uk, .int .i64 ud] :: [midT gw (sums n (us.take i)), exT q G c l (sums n (us.reverse.take i)), exT p F c l (sums n (us.take i)), boxT gc 24 #[.int .i64 c.bt, .int .i64 c.rw, .int .i64 c.wd, .int .i64 c.md, .int .u64 c.sd], boxT w.heap.size 57 #[.int .i64 x.bt, .int .i64 x.rw, .int .i64 x.wd, .int .i64 x.md, .int .u64 x.sd, .int .i64 lv, .slice (some a) n0 k0]])) := Lib.hid (by
            rw [hw7]
            exact HV6.out.push (boxT w6.heap.size 59 #[.int .u64 vk, .int .i64 vd]) (Lw.below_alloc (Below.refl _ _) _) (heap_alloc_new w6 _) (fun k hk => Nat.le_of_eq hk.symm))
          obtain ⟨gv, hgv⟩ : ∃ gv, w6.heap.size = gv := ⟨_, rfl⟩
          rw [hgv] at HV7
          rw [← hw7, hgv]
          clear hw7 hgv x6 e0 e1 d3 d4 hadd2 hs2 hs3
          have c3 := box_cell (i := 3) HV7.out.i5 rfl; have b0 := box_cell (i := 0) HV7.out.i0 rfl; have b1 := box_cell (i := 1) HV7.out.i0 rfl; have e0 := box_cell (i := 0) HV7.out.i1 rfl; have e1 := box_cell (i := 1) HV7.out.i1 rfl
          go_upto_region 25 with (first
            | (go_at_call 25; (with_reducible refine (CU2.out _ (exI HV8.out.i3)).mono ?_); rintro e w9 ⟨rfl, G9, h1, h2, h3⟩; have HV9 := Lib.hid (HV8.out.turn_3 (exT q G9 c l (sums n (us.reverse.take (i + 1)))) h1 h2 h3); clear h1 h2 h3; clear c3 b0 b1 e0 e1; have c3 := box_cell (i := 3) HV9.out.i5 rfl; have b0 := box_cell (i := 0) HV9.out.i0 rfl; have b1 := box_cell (i := 1) HV9.out.i0 rfl; have e0 := box_cell (i := 0) HV9.out.i1 rfl; have e1 := box_cell (i := 1) HV9.out.i1 rfl)
            | (go_at_call 25; (with_reducible refine (CU1.out _ (exI HV7.out.i4)).mono ?_); rintro e w8 ⟨rfl, F9, h1, h2, h3⟩; have HV8 := Lib.hid (HV7.out.turn_4 (exT p F9 c l (sums n (us.take (i + 1)))) h1 h2 h3); clear h1 h2 h3; clear c3 b0 b1 e0 e1; have c3 := box_cell (i := 3) HV8.out.i5 rfl; have b0 := box_cell (i := 0) HV8.out.i0 rfl; have b1 := box_cell (i := 1) HV8.out.i0 rfl; have e0 := box_cell (i := 0) HV8.out.i1 rfl; have e1 := box_cell (i := 1) HV8.out.i1 rfl))
          obtain ⟨AT, hAT⟩ : ∃ AT : Nat, U1 = AT := ⟨U1.toNat, by have := HU1.out; omega⟩
          subst hAT
          have hlt9 : AT < n := by have := HU1.out; omega
          obtain ⟨x9, hx9⟩ : ∃ v, (sums n (us.take i))[AT]? = some v := ⟨_, List.getElem?_eq_getElem (by rw [sums_len]; exact hlt9)⟩
          have hnum : num (sums n (us.take i)) (AT : Int) = x9 := by unfold num; rw [Int.toNat_natCast, hx9]; rfl
          rw [hnum, Int.toNat_natCast] at HS1
          have hcl := (midI HV9.out.i2).cell hx9
          have hfz := (midI HV9.out.i2).frozen (0 + AT)
          have hm6 := (midI HV9.out.i2).set AT (x9 + D1)
          have hk6 : Kept (fun k => k = gw) w9 (w9.setCell ⟨gw, 0 + AT, none⟩ (.int .i64 (x9 + D1))) := (Kept.refl (fun k => k = gw) w9).set (.inl rfl) _ _
          rw [HS1.out.1] at hm6
          rw [← Ord.add_at, HGAD.out] at hcl hfz hm6 hk6
          obtain ⟨S, hS⟩ : ∃ S, x9 + D1 = S := ⟨_, rfl⟩
          rw [hS] at hm6 hk6 HS1
          have HM6 := Lib.hid hm6
          have HK6 := Lib.hid hk6
          have hat1 : (AT : Int) < (n : Int) := by omega
          have a5 : IntKind.i64.wrap (x9 + D1) = S := by rw [hS]; exact IntWalk.i64_in _ HS1.out.2
          have z9 : IntKind.u64.wrap (AT : Int) = (AT : Int) := by rw [IntKind.wrap_u64]; omega
          clear hm6 hk6 hx9 hnum hS c3 b0 b1 e1 
          go_region
          clear hcl hfz a5 z9
          go_wp2
          go_roundw
          case rel => exact ⟨i + 1, G9, F9, by omega, by go_num, ((((HV9.out.turn_2 (midT gw _) HM6.out HK6.out (fun k hk => .inl hk)).up (by repeat' (first | (with_reducible exact Below.refl _ _) | (with_reducible assumption) | (with_reducible refine below_over ?_ _ _) | (with_reducible refine Lw.below_alloc ?_ _) | (with_reducible refine Below.drew ?_) | (with_reducible refine below_drewN ?_ _) | (with_reducible refine Below.setCell ?_ ?_ _) | go_size))).drop_0).drop_0)⟩
          case measure => simp [intOf]; omega
    · have e : N = i := by omega
      subst e
      have hall : us.take N = us := List.take_of_length_le (by rw [HUL.out]; exact Nat.le_refl _)
      have hrev : sums n (us.reverse.take N) = sums n us := by rw [List.take_of_length_le (by rw [List.length_reverse, HUL.out]; exact Nat.le_refl _), sums_rev]
      have hv9 := HVr.out
      rw [hall, hrev] at hv9
      have HVs := Lib.hid hv9
      have LS : Hid ((sums n us).length = n) := Lib.hid (sums_len n us)
      have CC := Lib.hid (fun p F w h => ecells_mid p F c l (sums n us) w h)
      rw [LS.out] at CC
      obtain ⟨wo, rfl⟩ : ∃ wo, wo = wr := ⟨_, rfl⟩
      clear hv9 hall hrev c0 c1 c2 c3 c4 x0 x1 x2 x3 x4 x5 x6 HVr hwb
      go_wp2
      go_loopw [20] (fun iv wr => ∃ (j : Nat), j ≤ n ∧ iv = .int .i64 j ∧ Have w wr [midT gw (sums n us), exT q G c l (sums n us), exT p F c l (sums n us), boxT gc 24 #[.int .i64 c.bt, .int .i64 c.rw, .int .i64 c.wd, .int .i64 c.md, .int .u64 c.sd], boxT w.heap.size 57 #[.int .i64 x.bt, .int .i64 x.rw, .int .i64 x.wd, .int .i64 x.md, .int .u64 x.sd, .int .i64 lv, .slice A n0 k0]]) (fun iv _ => n - (intOf iv).toNat)
      case atStart => exact ⟨0, Nat.zero_le _, rfl, HVs.out⟩
      case round =>
        obtain ⟨j, hj, rfl, hv⟩ := hrel
        have HVj := Lib.hid hv
        clear hv
        by_cases hlt2 : j < n
        · obtain ⟨v, hv⟩ : ∃ v, (sums n us)[j]? = some v := ⟨_, List.getElem?_eq_getElem (by rw [LS.out]; exact hlt2)⟩
          have hnum : num (sums n us) (j : Int) = v := by unfold num; rw [Int.toNat_natCast, hv]; rfl
          have CP := Lib.hid (fun w h => epoint_yes p F c l (sums n us) (j : Int) w h (by omega) (by omega) (by rw [LS.out]; omega))
          rw [hnum] at CP
          have hcl : ∀ w', Below wr.heap.size wr w' → w'.cell? ⟨gw, 0 + j, none⟩ = some (.int .i64 v) := fun w' h => cell_up ((midI HVj.out.i0).cell hv) h
          obtain ⟨gad, hgad⟩ : ∃ gad : Addr, (⟨gw, 0, none⟩ : Addr) = gad := ⟨_, rfl⟩
          rw [← Ord.add_at, hgad] at hcl
          have HCL := Lib.hid hcl
          have uw : IntKind.u64.wrap (j : Int) = (j : Int) := by rw [IntKind.wrap_u64]; omega
          rw [hgad]
          clear hv hnum hcl
          go_wp2_with (go_at_call 14; (with_reducible refine (CP.out _ (exI HVj.out.i2)).mono ?_); rintro e w8 ⟨rfl, hb⟩; have hcl := HCL.out _ hb; have HV8 := Lib.hid (HVj.out.up hb); clear hb)
          clear hcl uw
          go_roundw
          case rel => exact ⟨j + 1, by omega, by go_num, HV8.out⟩
          case measure => simp [intOf]; omega
        · have e : n = j := by omega
          subst e
          go_wp2_with (first
            | (go_at_call 26; (with_reducible refine (rsame_any _ _ _ _ _ _ (sums n us) (sums n us) _ (midI HVc.out.i0).rd (midI HVc.out.i1).rd LS.out LS.out (by omega) (by omega)).mono ?_); rintro e wd ⟨rfl, hb⟩; have HVd := Lib.hid (HVc.out.up hb); clear hb)
            | (go_at_call 24; (with_reducible refine (CC.out q G _ (exI HVb.out.i1)).mono ?_); rintro e wc ⟨g5, cap5, rfl, h1, h2, -, -, hb⟩; have HVc := Lib.hid (HVb.out.push (midT g5 (sums n us)) hb h1 (fun k hk => by subst hk; exact h2)); clear h1 h2 hb)
            | (go_at_call 26; (with_reducible refine (rsame_any _ _ _ _ _ _ (sums n us) (sums n us) _ (midI HVa.out.i0).rd (midI HVa.out.i1).rd LS.out LS.out (by omega) (by omega)).mono ?_); rintro e wb ⟨rfl, hb⟩; have HVb := Lib.hid ((HVa.out.up hb).drop_0); clear hb)
            | (go_at_call 24; (with_reducible refine (CC.out p F _ (exI HVj.out.i2)).mono ?_); rintro e wa ⟨g4, cap4, rfl, h1, h2, -, -, hb⟩; have HVa := Lib.hid (HVj.out.push (midT g4 (sums n us)) hb h1 (fun k hk => by subst hk; exact h2)); clear h1 h2 hb))
          all_goals go_ret
          all_goals exact ⟨ret_bs (by first | rfl | (simp [*]; done)), HVd.out.below⟩
namespace exactSums
open Go.ChangeShapes Go.WideShapes Go.ChangeAt Go.Joins
set_option maxRecDepth 100000 in
theorem lifted (os : Os) (started : os.Started) (H : Type) (enc : TypeId × Value → H) :
    ReturnsInHanded {} Try.checked os 5 .any (Rows.exactSumsSpec.pre6 enc Try.prog Try.f5 Rows.exactSumsRow.domain false) (Rows.exactSumsSpec.post enc Try.prog Try.f5 false true false false) := by
  refine Lw.lifted (C := Try.checked) (B := 4) (by kernel_rfl) os started (by kernel_rfl) Try.func5
    (ChangeSpec.witness6 (enc := enc) (C := Try.checked) false ⟨#[], #[.agg #[.int .i64 0, .int .i64 0, .int .i64 0, .int .i64 0, .int .u64 0, .int .i64 0, .slice none 0 0]], []⟩ 8 (by kernel_rfl) (by kernel_rfl) (by kernel_rfl) (by kernel_rfl)) rfl Try.underlying4 (by kernel_rfl) (by kernel_rfl) (by kernel_rfl) ?_ ?_
  · intro ds h
    rw [Try.params5] at h
    match ds, h with
    | [_], _ => rfl
  · intro W base args ds p hval hA
    rw [Try.params5] at hA hval
    obtain ⟨v0, vs0, d0, ds0, p0, q0, hargs, rfl, rfl, h0, r0⟩ := trodAll_cons hA
    obtain ⟨rfl, rfl, rfl⟩ := trodAll_nil r0
    obtain rfl : args = #[v0] := by cases args; simp_all
    obtain ⟨x0, lv0, A0, n0, k0, qs0, rfl, hx0, hlv0, hq0⟩ := open_playE (hval 0 57 v0 rfl rfl) h0
    exact sums_law x0 lv0 A0 n0 k0 qs0 W hx0 hlv0 hq0
theorem over : Rows.exactSumsRow.holds Try.pinned (OpenSpec.ofChange Rows.exactSumsSpec) :=
  OpenClaim.holds_of_wide 5 Try.f5 rfl rfl rfl rfl rfl rfl rfl ⟨rfl, rfl, rfl, rfl, rfl⟩ rfl rfl rfl rfl rfl (by kernel_rfl) Try.func5 (by kernel_rfl)
    (of_decide_eq_true (by kernel_rfl)) (by unfold Func.isWrapper; first | (rw [if_pos (by decide +kernel)]; kernel_rfl) | (rw [if_neg (by decide +kernel)]; exact ⟨rfl, rfl⟩))
    (fun os started H enc _ => lifted os started H enc)
theorem proved : Rows.ExactSumsSaid :=
  over
#print axioms proved
end exactSums
end Go.Proofs.Ytnhknachabephaa.Exa
