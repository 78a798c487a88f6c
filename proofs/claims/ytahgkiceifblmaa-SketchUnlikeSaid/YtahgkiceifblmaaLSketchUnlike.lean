/- The statement SketchUnlike of layer 10 holds. Printed by wip/gen/skunl.py. -/
import Derived.Test.YtahgkiceifblmaaMg
import Derived.Deep.LoopGhost
import Derived.Deep.RegionHeld3
import Derived.Deep.DeepCutAuto
import Derived.Deep.QuietTactic
import Derived.BigQuiet
namespace Go.Proofs.Ytahgkiceifblmaa.Sk
open Go Go.RowKit Lw Grd Lin Con Shp
set_option linter.unusedVariables false
set_option linter.unusedSimpArgs false
theorem sz_flat {m n : Nat} {L : List (List Int)} (h : Sz m n L) : L.flatten.length = m * n := by
  have h2 : ∀ {L : List (List Int)}, (∀ r ∈ L, r.length = n) → L.flatten.length = L.length * n := by
    intro L
    induction L with
    | nil => intro _; simp
    | cons r L ih =>
      intro hr
      rw [List.flatten_cons, List.length_append, ih (fun q hq => hr q (by simp [hq])), hr r (by simp), List.length_cons, Nat.succ_mul]
      omega
  rw [h2 h.2, h.1]
theorem one_flat {c : Cfg} {l a b : Int} (hk : 1 ≤ keys c l) (a0 : 0 ≤ a) (a1 : a ≤ 1099511627776) (b0 : 1 ≤ b) (b1 : b ≤ 1099511627776) :
    (mgRes 1 c c l l (cells c l [(0, a)]) (cells c l [(0, b)])).flatten.length = rws c * wds c := by
  have hs1 := cells_sz (one_in (c := c) (l := l) hk a0 a1)
  have hs2 := cells_sz (one_in (c := c) (l := l) (d := b) hk (by omega) b1)
  apply sz_flat
  unfold mgRes
  split
  · split
    · exact hs1
    · unfold jres
      split
      · refine ⟨by unfold gridS; rw [List.length_zipWith, hs1.1, hs2.1]; omega, fun r hr => ?_⟩
        obtain ⟨x, g1, y, g2, rfl⟩ := mem_zip hr
        unfold rowS
        rw [List.length_zipWith, hs1.2 x g1, hs2.2 y g2]
        omega
      · exact hs1
  · exact hs1
set_option maxRecDepth 100000 in
set_option maxHeartbeats 8000000 in
theorem unl_no0 (x y : Cfg) (lv lv2 : Int) (A A2 : Option Addr) (n0 k0 n2 k2 : Nat) (w : World) (hx : x.Ok) (hy : y.Ok) (hlv : -9223372036854775808 ≤ lv ∧ lv ≤ 9223372036854775807) (hlv2 : -9223372036854775808 ≤ lv2 ∧ lv2 ≤ 9223372036854775807) (c : Cfg) (l : Int) (d : Cfg) (k : Int) (cr : IsRight c) (co : c.Ok) (cb : c.bt ≤ 8) (ck : 1 ≤ keys c l) (dr : IsRight d) (dO : d.Ok) (db : d.bt ≤ 8) (dk : 1 ≤ keys d k) (X Y : Int) (ca1 : bits .and .i64 lv 65535 = X) (ca4 : Int.tmod X (c.bt + 1) = l) (da1 : bits .and .i64 lv2 65535 = Y) (da4 : Int.tmod Y (d.bt + 1) = k) (hc : anyC x 8 9 = c) (hd : anyC y 8 9 = d)  (b0 : (c.bt == d.bt) = false) :
    Calls Try.prog 8 #[.agg #[.int .i64 x.bt, .int .i64 x.rw, .int .i64 x.wd, .int .i64 x.md, .int .u64 x.sd, .int .i64 lv, .slice A n0 k0], .agg #[.int .i64 y.bt, .int .i64 y.rw, .int .i64 y.wd, .int .i64 y.md, .int .u64 y.sd, .int .i64 lv2, .slice A2 n2 k2]] w fun e w' => e = .returned (.bool true) ∧ Below w.heap.size w w' := by
  have cl := (keys_pos.1 ck).2
  have c1 := cr.1
  have CA := Lib.hid (fun w => rany_at x 8 9 c w hx (by omega) (by omega) (by omega) (by omega) hc)
  have DA := Lib.hid (fun w => rany_at y 8 9 d w hy (by omega) (by omega) (by omega) (by omega) hd)
  have CN := Lib.hid (fun w => snew_yes c l w co (by omega) (by omega) ck)
  have dl := (keys_pos.1 dk).2
  have d1 := dr.1
  have DN := Lib.hid (fun w => snew_yes d k w dO (by omega) (by omega) dk)
  have dw1 : IntKind.i64.wrap (d.bt + 1) = d.bt + 1 := IntWalk.i64_in _ ⟨by omega, by omega⟩
  have dw2 : wrap64 (d.bt + 1) = d.bt + 1 := IntWalk.wrap64_in _ ⟨by omega, by omega⟩
  have dn : ¬ d.bt + 1 = 0 := by omega
  have cw1 : IntKind.i64.wrap (c.bt + 1) = c.bt + 1 := IntWalk.i64_in _ ⟨by omega, by omega⟩
  have cw2 : wrap64 (c.bt + 1) = c.bt + 1 := IntWalk.wrap64_in _ ⟨by omega, by omega⟩
  have cn : ¬ c.bt + 1 = 0 := by omega
  obtain ⟨L, hL⟩ : ∃ L, cells c l [(0, 5)] = L := ⟨_, rfl⟩
  obtain ⟨M, hM⟩ : ∃ M, cells d k [(0, 3)] = M := ⟨_, rfl⟩
  have u5 := one_up (d := 5) cr ck (by omega) (by omega)
  have u3 := one_up (d := 3) dr dk (by omega) (by omega)
  rw [hL] at u5
  rw [hM] at u3
  have CU := Lib.hid (fun p F w h => (supd_any p F c l (zerosL (rws c) (wds c)) 0 5 w h (by omega) (by omega) (by omega) (by omega)))
  rw [u5.1, u5.2] at CU
  have DU := Lib.hid (fun p F w h => (supd_any p F d k (zerosL (rws d) (wds d)) 0 3 w h (by omega) (by omega) (by omega) (by omega)))
  rw [u3.1, u3.2] at DU
  have CC := Lib.hid (fun p F w h => scells_mid p F c l L w h)
  have CM := Lib.hid (fun p F q G w h g => smerge_any p F c l L q G d k M w h g)
  have hno : ¬ (cfgE c d = true ∧ l = k) := by
    intro h
    have h1 := of_decide_eq_true h.1
    have h2 := h.2
    obtain ⟨g1, g2, g3, g4, g5⟩ := h1
    simp [g1, g2, g3, g4, g5, h2] at b0
  have CS := Lib.hid (fun p F q G w h g => ssub_any p F c l L q G d k M w h g)
  have m1 : mgCode 1 c d l k L M = 5 ∧ mgRes 1 c d l k L M = L := ⟨if_neg hno, if_neg hno⟩
  have m2 : mgCode (-1) c d l k L M = 5 ∧ mgRes (-1) c d l k L M = L := ⟨if_neg hno, if_neg hno⟩
  rw [m1.1, m1.2] at CM
  rw [m2.1, m2.2] at CS
  have FL1 : Hid (L.flatten.length = rws c * wds c) := Lib.hid (by
    rw [← hL]
    exact sz_flat (cells_sz (one_in ck (by omega) (by omega))))
  have FL2 := FL1
  have HBX : Hid (Have w ((w.alloc (.cells #[.int .i64 x.bt, .int .i64 x.rw, .int .i64 x.wd, .int .i64 x.md, .int .u64 x.sd, .int .i64 lv, .slice A n0 k0] 27)).alloc (.cells #[.int .i64 y.bt, .int .i64 y.rw, .int .i64 y.wd, .int .i64 y.md, .int .u64 y.sd, .int .i64 lv2, .slice A2 n2 k2] 27)) [boxT (w.heap.size + 1) 27 #[.int .i64 y.bt, .int .i64 y.rw, .int .i64 y.wd, .int .i64 y.md, .int .u64 y.sd, .int .i64 lv2, .slice A2 n2 k2], boxT w.heap.size 27 #[.int .i64 x.bt, .int .i64 x.rw, .int .i64 x.wd, .int .i64 x.md, .int .u64 x.sd, .int .i64 lv, .slice A n0 k0]]) := Lib.hid (two_boxs w _ _ _ _)
  have hq9 : rws c * wds c ≤ 1024 := Nat.mul_le_mul (rws_bd cr).2.1 (wds_bd cr).2.1
  obtain ⟨Q, hQ⟩ : ∃ Q, rws c * wds c = Q := ⟨_, rfl⟩
  rw [hQ] at CC FL1 FL2 hq9
  clear hL hM u5 u3 hc hd hx hy cr co ck dr dO dk hno m1 m2 hQ
  go_enter Try.func8, Try.ntmps8
  go_wp2_with (first
    | (go_at_call 14; (with_reducible refine (rsame_any _ _ _ _ _ _ _ _ _ (midI HVd.out.i0).rd (midI HVd.out.i1).rd FL2.out FL1.out (by omega) (by omega)).mono ?_); rintro e we ⟨rfl, hb⟩; have HVe := Lib.hid (HVd.out.up hb); clear hb)
    | (go_at_call 15; (with_reducible refine (CC.out _ F3 _ (skI HVc.out.i2)).mono ?_); rintro e wd ⟨g2, cap2, rfl, h1, h2, -, -, hb⟩; have HVd := Lib.hid (HVc.out.push (midT g2 L.flatten) hb h1 (fun k hk => by subst hk; exact h2)); clear h1 h2 hb)
    | (go_at_call 21; (with_reducible refine (CS.out _ _ _ _ _ (skI HVb.out.i2) (skI HVb.out.i1)).mono ?_); rintro e wc ⟨rfl, F3, h1, h2, h3⟩; have HVc := Lib.hid (HVb.out.turn_2 (skT p F3 c l L) h1 h2 h3); clear h1 h2 h3; clear x0 x1 x2 x3 x4 x5 x6 y0 y1 y2 y3 y4 y5 y6 c0 c1 c2 c3 c4 d0 d1 d2 d3 d4; obtain ⟨x0, x1, x2, x3, x4, x5, x6⟩ := box7 HVc.out.i6; obtain ⟨y0, y1, y2, y3, y4, y5, y6⟩ := box7 HVc.out.i5; obtain ⟨c0, c1, c2, c3, c4⟩ := box5 HVc.out.i4; obtain ⟨d0, d1, d2, d3, d4⟩ := box5 HVc.out.i3)
    | (go_at_call 20; (with_reducible refine (CM.out _ _ _ _ _ (skI HVa.out.i2) (skI HVa.out.i1)).mono ?_); rintro e wb ⟨rfl, F2, h1, h2, h3⟩; have HVb := Lib.hid (HVa.out.turn_2 (skT p F2 c l L) h1 h2 h3); clear h1 h2 h3; clear x0 x1 x2 x3 x4 x5 x6 y0 y1 y2 y3 y4 y5 y6 c0 c1 c2 c3 c4 d0 d1 d2 d3 d4; obtain ⟨x0, x1, x2, x3, x4, x5, x6⟩ := box7 HVb.out.i6; obtain ⟨y0, y1, y2, y3, y4, y5, y6⟩ := box7 HVb.out.i5; obtain ⟨c0, c1, c2, c3, c4⟩ := box5 HVb.out.i4; obtain ⟨d0, d1, d2, d3, d4⟩ := box5 HVb.out.i3)
    | (go_at_call 15; (with_reducible refine (CC.out _ _ _ (skI HV9.out.i1)).mono ?_); rintro e wa ⟨g1, cap1, rfl, h1, h2, -, -, hb⟩; have HVa := Lib.hid (HV9.out.push (midT g1 L.flatten) hb h1 (fun k hk => by subst hk; exact h2)); clear h1 h2 hb; clear x0 x1 x2 x3 x4 x5 x6 y0 y1 y2 y3 y4 y5 y6 c0 c1 c2 c3 c4 d0 d1 d2 d3 d4; obtain ⟨x0, x1, x2, x3, x4, x5, x6⟩ := box7 HVa.out.i6; obtain ⟨y0, y1, y2, y3, y4, y5, y6⟩ := box7 HVa.out.i5; obtain ⟨c0, c1, c2, c3, c4⟩ := box5 HVa.out.i4; obtain ⟨d0, d1, d2, d3, d4⟩ := box5 HVa.out.i3)
    | (go_at_call 21; (with_reducible refine (ssub_nil p F1 c l L _ (skI HV8.out.i1)).mono ?_); rintro e w9 ⟨rfl, hb⟩; have HV9 := Lib.hid (HV8.out.up hb); clear hb; clear x0 x1 x2 x3 x4 x5 x6 y0 y1 y2 y3 y4 y5 y6 c0 c1 c2 c3 c4 d0 d1 d2 d3 d4; obtain ⟨x0, x1, x2, x3, x4, x5, x6⟩ := box7 HV9.out.i5; obtain ⟨y0, y1, y2, y3, y4, y5, y6⟩ := box7 HV9.out.i4; obtain ⟨c0, c1, c2, c3, c4⟩ := box5 HV9.out.i3; obtain ⟨d0, d1, d2, d3, d4⟩ := box5 HV9.out.i2)
    | (go_at_call 20; (with_reducible refine (smerge_nil p F1 c l L _ (skI HV7.out.i1)).mono ?_); rintro e w8 ⟨rfl, hb⟩; have HV8 := Lib.hid (HV7.out.up hb); clear hb; clear x0 x1 x2 x3 x4 x5 x6 y0 y1 y2 y3 y4 y5 y6 c0 c1 c2 c3 c4 d0 d1 d2 d3 d4; obtain ⟨x0, x1, x2, x3, x4, x5, x6⟩ := box7 HV8.out.i5; obtain ⟨y0, y1, y2, y3, y4, y5, y6⟩ := box7 HV8.out.i4; obtain ⟨c0, c1, c2, c3, c4⟩ := box5 HV8.out.i3; obtain ⟨d0, d1, d2, d3, d4⟩ := box5 HV8.out.i2)
    | (go_at_call 24; (with_reducible refine (DU.out _ _ _ (skI HV6.out.i0)).mono ?_); rintro e w7 ⟨rfl, G1, h1, h2, h3⟩; have HV7 := Lib.hid (HV6.out.turn_0 (skT q G1 d k M) h1 h2 h3); clear h1 h2 h3; clear x0 x1 x2 x3 x4 x5 x6 y0 y1 y2 y3 y4 y5 y6 c0 c1 c2 c3 c4 d0 d1 d2 d3 d4; obtain ⟨x0, x1, x2, x3, x4, x5, x6⟩ := box7 HV7.out.i5; obtain ⟨y0, y1, y2, y3, y4, y5, y6⟩ := box7 HV7.out.i4; obtain ⟨c0, c1, c2, c3, c4⟩ := box5 HV7.out.i3; obtain ⟨d0, d1, d2, d3, d4⟩ := box5 HV7.out.i2)
    | (go_at_call 24; (with_reducible refine (CU.out _ _ _ (skI HV5.out.i1)).mono ?_); rintro e w6 ⟨rfl, F1, h1, h2, h3⟩; have HV6 := Lib.hid (HV5.out.turn_1 (skT p F1 c l L) h1 h2 h3); clear h1 h2 h3; clear x0 x1 x2 x3 x4 x5 x6 y0 y1 y2 y3 y4 y5 y6 c0 c1 c2 c3 c4 d0 d1 d2 d3 d4; obtain ⟨x0, x1, x2, x3, x4, x5, x6⟩ := box7 HV6.out.i5; obtain ⟨y0, y1, y2, y3, y4, y5, y6⟩ := box7 HV6.out.i4; obtain ⟨c0, c1, c2, c3, c4⟩ := box5 HV6.out.i3; obtain ⟨d0, d1, d2, d3, d4⟩ := box5 HV6.out.i2)
    | (go_at_call 23; (with_reducible refine (DN.out _).mono ?_); rintro e w5 ⟨q, G, rfl, h1, h2, hb⟩; have HV5 := Lib.hid (HV4.out.push (skT q G d k (zerosL (rws d) (wds d))) hb h1 h2); clear h1 h2 hb; clear x0 x1 x2 x3 x4 x5 x6 y0 y1 y2 y3 y4 y5 y6 c0 c1 c2 c3 c4 d0 d1 d2 d3 d4; obtain ⟨x0, x1, x2, x3, x4, x5, x6⟩ := box7 HV5.out.i5; obtain ⟨y0, y1, y2, y3, y4, y5, y6⟩ := box7 HV5.out.i4; obtain ⟨c0, c1, c2, c3, c4⟩ := box5 HV5.out.i3; obtain ⟨d0, d1, d2, d3, d4⟩ := box5 HV5.out.i2)
    | (go_at_call 23; (with_reducible refine (CN.out _).mono ?_); rintro e w4 ⟨p, F, rfl, h1, h2, hb⟩; have HV4 := Lib.hid (HV3.out.push (skT p F c l (zerosL (rws c) (wds c))) hb h1 h2); clear h1 h2 hb; clear x0 x1 x2 x3 x4 x5 x6 y0 y1 y2 y3 y4 y5 y6 c0 c1 c2 c3 c4 d0 d1 d2 d3 d4; obtain ⟨x0, x1, x2, x3, x4, x5, x6⟩ := box7 HV4.out.i4; obtain ⟨y0, y1, y2, y3, y4, y5, y6⟩ := box7 HV4.out.i3; obtain ⟨c0, c1, c2, c3, c4⟩ := box5 HV4.out.i2; obtain ⟨d0, d1, d2, d3, d4⟩ := box5 HV4.out.i1)
    | (go_at_call 22; (with_reducible refine (DA.out _).mono ?_); rintro e w3 ⟨rfl, hb⟩; have HV3 := Lib.hid ((HV2.out.up hb).push (boxT w3.heap.size 24 #[.int .i64 d.bt, .int .i64 d.rw, .int .i64 d.wd, .int .i64 d.md, .int .u64 d.sd]) (Lw.below_alloc (Below.refl _ _) _) (heap_alloc_new w3 _) (fun k hk => Nat.le_of_eq hk.symm)); clear hb; clear x0 x1 x2 x3 x4 x5 x6 y0 y1 y2 y3 y4 y5 y6 c0 c1 c2 c3 c4; obtain ⟨x0, x1, x2, x3, x4, x5, x6⟩ := box7 HV3.out.i3; obtain ⟨y0, y1, y2, y3, y4, y5, y6⟩ := box7 HV3.out.i2; obtain ⟨c0, c1, c2, c3, c4⟩ := box5 HV3.out.i1; obtain ⟨d0, d1, d2, d3, d4⟩ := box5 HV3.out.i0)
    | (go_at_call 22; (with_reducible refine (CA.out _).mono ?_); rintro e w2 ⟨rfl, hb⟩; have HV2 := Lib.hid ((HV1.out.up hb).push (boxT w2.heap.size 24 #[.int .i64 c.bt, .int .i64 c.rw, .int .i64 c.wd, .int .i64 c.md, .int .u64 c.sd]) (Lw.below_alloc (Below.refl _ _) _) (heap_alloc_new w2 _) (fun k hk => Nat.le_of_eq hk.symm)); clear hb; clear x0 x1 x2 x3 x4 x5 x6 y0 y1 y2 y3 y4 y5 y6; obtain ⟨x0, x1, x2, x3, x4, x5, x6⟩ := box7 HV2.out.i2; obtain ⟨y0, y1, y2, y3, y4, y5, y6⟩ := box7 HV2.out.i1; obtain ⟨c0, c1, c2, c3, c4⟩ := box5 HV2.out.i0)
    | (go_at_call 10; (with_reducible refine (shown_any _).mono ?_); rintro e w1 ⟨rfl, hb⟩; have HV1 := Lib.hid (HBX.out.up hb); clear hb; obtain ⟨x0, x1, x2, x3, x4, x5, x6⟩ := box7 HV1.out.i1; obtain ⟨y0, y1, y2, y3, y4, y5, y6⟩ := box7 HV1.out.i0))
  all_goals go_ret
  all_goals exact ⟨ret_bs (by first | rfl | (simp [*]; done)), HVe.out.below⟩
set_option maxRecDepth 100000 in
set_option maxHeartbeats 8000000 in
theorem unl_no1 (x y : Cfg) (lv lv2 : Int) (A A2 : Option Addr) (n0 k0 n2 k2 : Nat) (w : World) (hx : x.Ok) (hy : y.Ok) (hlv : -9223372036854775808 ≤ lv ∧ lv ≤ 9223372036854775807) (hlv2 : -9223372036854775808 ≤ lv2 ∧ lv2 ≤ 9223372036854775807) (c : Cfg) (l : Int) (d : Cfg) (k : Int) (cr : IsRight c) (co : c.Ok) (cb : c.bt ≤ 8) (ck : 1 ≤ keys c l) (dr : IsRight d) (dO : d.Ok) (db : d.bt ≤ 8) (dk : 1 ≤ keys d k) (X Y : Int) (ca1 : bits .and .i64 lv 65535 = X) (ca4 : Int.tmod X (c.bt + 1) = l) (da1 : bits .and .i64 lv2 65535 = Y) (da4 : Int.tmod Y (d.bt + 1) = k) (hc : anyC x 8 9 = c) (hd : anyC y 8 9 = d) (b0 : (c.bt == d.bt) = true) (b1 : (c.rw == d.rw) = false) :
    Calls Try.prog 8 #[.agg #[.int .i64 x.bt, .int .i64 x.rw, .int .i64 x.wd, .int .i64 x.md, .int .u64 x.sd, .int .i64 lv, .slice A n0 k0], .agg #[.int .i64 y.bt, .int .i64 y.rw, .int .i64 y.wd, .int .i64 y.md, .int .u64 y.sd, .int .i64 lv2, .slice A2 n2 k2]] w fun e w' => e = .returned (.bool true) ∧ Below w.heap.size w w' := by
  have cl := (keys_pos.1 ck).2
  have c1 := cr.1
  have CA := Lib.hid (fun w => rany_at x 8 9 c w hx (by omega) (by omega) (by omega) (by omega) hc)
  have DA := Lib.hid (fun w => rany_at y 8 9 d w hy (by omega) (by omega) (by omega) (by omega) hd)
  have CN := Lib.hid (fun w => snew_yes c l w co (by omega) (by omega) ck)
  have dl := (keys_pos.1 dk).2
  have d1 := dr.1
  have DN := Lib.hid (fun w => snew_yes d k w dO (by omega) (by omega) dk)
  have dw1 : IntKind.i64.wrap (d.bt + 1) = d.bt + 1 := IntWalk.i64_in _ ⟨by omega, by omega⟩
  have dw2 : wrap64 (d.bt + 1) = d.bt + 1 := IntWalk.wrap64_in _ ⟨by omega, by omega⟩
  have dn : ¬ d.bt + 1 = 0 := by omega
  have cw1 : IntKind.i64.wrap (c.bt + 1) = c.bt + 1 := IntWalk.i64_in _ ⟨by omega, by omega⟩
  have cw2 : wrap64 (c.bt + 1) = c.bt + 1 := IntWalk.wrap64_in _ ⟨by omega, by omega⟩
  have cn : ¬ c.bt + 1 = 0 := by omega
  obtain ⟨L, hL⟩ : ∃ L, cells c l [(0, 5)] = L := ⟨_, rfl⟩
  obtain ⟨M, hM⟩ : ∃ M, cells d k [(0, 3)] = M := ⟨_, rfl⟩
  have u5 := one_up (d := 5) cr ck (by omega) (by omega)
  have u3 := one_up (d := 3) dr dk (by omega) (by omega)
  rw [hL] at u5
  rw [hM] at u3
  have CU := Lib.hid (fun p F w h => (supd_any p F c l (zerosL (rws c) (wds c)) 0 5 w h (by omega) (by omega) (by omega) (by omega)))
  rw [u5.1, u5.2] at CU
  have DU := Lib.hid (fun p F w h => (supd_any p F d k (zerosL (rws d) (wds d)) 0 3 w h (by omega) (by omega) (by omega) (by omega)))
  rw [u3.1, u3.2] at DU
  have CC := Lib.hid (fun p F w h => scells_mid p F c l L w h)
  have CM := Lib.hid (fun p F q G w h g => smerge_any p F c l L q G d k M w h g)
  have hno : ¬ (cfgE c d = true ∧ l = k) := by
    intro h
    have h1 := of_decide_eq_true h.1
    have h2 := h.2
    obtain ⟨g1, g2, g3, g4, g5⟩ := h1
    simp [g1, g2, g3, g4, g5, h2] at b1
  have CS := Lib.hid (fun p F q G w h g => ssub_any p F c l L q G d k M w h g)
  have m1 : mgCode 1 c d l k L M = 5 ∧ mgRes 1 c d l k L M = L := ⟨if_neg hno, if_neg hno⟩
  have m2 : mgCode (-1) c d l k L M = 5 ∧ mgRes (-1) c d l k L M = L := ⟨if_neg hno, if_neg hno⟩
  rw [m1.1, m1.2] at CM
  rw [m2.1, m2.2] at CS
  have FL1 : Hid (L.flatten.length = rws c * wds c) := Lib.hid (by
    rw [← hL]
    exact sz_flat (cells_sz (one_in ck (by omega) (by omega))))
  have FL2 := FL1
  have HBX : Hid (Have w ((w.alloc (.cells #[.int .i64 x.bt, .int .i64 x.rw, .int .i64 x.wd, .int .i64 x.md, .int .u64 x.sd, .int .i64 lv, .slice A n0 k0] 27)).alloc (.cells #[.int .i64 y.bt, .int .i64 y.rw, .int .i64 y.wd, .int .i64 y.md, .int .u64 y.sd, .int .i64 lv2, .slice A2 n2 k2] 27)) [boxT (w.heap.size + 1) 27 #[.int .i64 y.bt, .int .i64 y.rw, .int .i64 y.wd, .int .i64 y.md, .int .u64 y.sd, .int .i64 lv2, .slice A2 n2 k2], boxT w.heap.size 27 #[.int .i64 x.bt, .int .i64 x.rw, .int .i64 x.wd, .int .i64 x.md, .int .u64 x.sd, .int .i64 lv, .slice A n0 k0]]) := Lib.hid (two_boxs w _ _ _ _)
  have hq9 : rws c * wds c ≤ 1024 := Nat.mul_le_mul (rws_bd cr).2.1 (wds_bd cr).2.1
  obtain ⟨Q, hQ⟩ : ∃ Q, rws c * wds c = Q := ⟨_, rfl⟩
  rw [hQ] at CC FL1 FL2 hq9
  clear hL hM u5 u3 hc hd hx hy cr co ck dr dO dk hno m1 m2 hQ
  go_enter Try.func8, Try.ntmps8
  go_wp2_with (first
    | (go_at_call 14; (with_reducible refine (rsame_any _ _ _ _ _ _ _ _ _ (midI HVd.out.i0).rd (midI HVd.out.i1).rd FL2.out FL1.out (by omega) (by omega)).mono ?_); rintro e we ⟨rfl, hb⟩; have HVe := Lib.hid (HVd.out.up hb); clear hb)
    | (go_at_call 15; (with_reducible refine (CC.out _ F3 _ (skI HVc.out.i2)).mono ?_); rintro e wd ⟨g2, cap2, rfl, h1, h2, -, -, hb⟩; have HVd := Lib.hid (HVc.out.push (midT g2 L.flatten) hb h1 (fun k hk => by subst hk; exact h2)); clear h1 h2 hb)
    | (go_at_call 21; (with_reducible refine (CS.out _ _ _ _ _ (skI HVb.out.i2) (skI HVb.out.i1)).mono ?_); rintro e wc ⟨rfl, F3, h1, h2, h3⟩; have HVc := Lib.hid (HVb.out.turn_2 (skT p F3 c l L) h1 h2 h3); clear h1 h2 h3; clear x0 x1 x2 x3 x4 x5 x6 y0 y1 y2 y3 y4 y5 y6 c0 c1 c2 c3 c4 d0 d1 d2 d3 d4; obtain ⟨x0, x1, x2, x3, x4, x5, x6⟩ := box7 HVc.out.i6; obtain ⟨y0, y1, y2, y3, y4, y5, y6⟩ := box7 HVc.out.i5; obtain ⟨c0, c1, c2, c3, c4⟩ := box5 HVc.out.i4; obtain ⟨d0, d1, d2, d3, d4⟩ := box5 HVc.out.i3)
    | (go_at_call 20; (with_reducible refine (CM.out _ _ _ _ _ (skI HVa.out.i2) (skI HVa.out.i1)).mono ?_); rintro e wb ⟨rfl, F2, h1, h2, h3⟩; have HVb := Lib.hid (HVa.out.turn_2 (skT p F2 c l L) h1 h2 h3); clear h1 h2 h3; clear x0 x1 x2 x3 x4 x5 x6 y0 y1 y2 y3 y4 y5 y6 c0 c1 c2 c3 c4 d0 d1 d2 d3 d4; obtain ⟨x0, x1, x2, x3, x4, x5, x6⟩ := box7 HVb.out.i6; obtain ⟨y0, y1, y2, y3, y4, y5, y6⟩ := box7 HVb.out.i5; obtain ⟨c0, c1, c2, c3, c4⟩ := box5 HVb.out.i4; obtain ⟨d0, d1, d2, d3, d4⟩ := box5 HVb.out.i3)
    | (go_at_call 15; (with_reducible refine (CC.out _ _ _ (skI HV9.out.i1)).mono ?_); rintro e wa ⟨g1, cap1, rfl, h1, h2, -, -, hb⟩; have HVa := Lib.hid (HV9.out.push (midT g1 L.flatten) hb h1 (fun k hk => by subst hk; exact h2)); clear h1 h2 hb; clear x0 x1 x2 x3 x4 x5 x6 y0 y1 y2 y3 y4 y5 y6 c0 c1 c2 c3 c4 d0 d1 d2 d3 d4; obtain ⟨x0, x1, x2, x3, x4, x5, x6⟩ := box7 HVa.out.i6; obtain ⟨y0, y1, y2, y3, y4, y5, y6⟩ := box7 HVa.out.i5; obtain ⟨c0, c1, c2, c3, c4⟩ := box5 HVa.out.i4; obtain ⟨d0, d1, d2, d3, d4⟩ := box5 HVa.out.i3)
    | (go_at_call 21; (with_reducible refine (ssub_nil p F1 c l L _ (skI HV8.out.i1)).mono ?_); rintro e w9 ⟨rfl, hb⟩; have HV9 := Lib.hid (HV8.out.up hb); clear hb; clear x0 x1 x2 x3 x4 x5 x6 y0 y1 y2 y3 y4 y5 y6 c0 c1 c2 c3 c4 d0 d1 d2 d3 d4; obtain ⟨x0, x1, x2, x3, x4, x5, x6⟩ := box7 HV9.out.i5; obtain ⟨y0, y1, y2, y3, y4, y5, y6⟩ := box7 HV9.out.i4; obtain ⟨c0, c1, c2, c3, c4⟩ := box5 HV9.out.i3; obtain ⟨d0, d1, d2, d3, d4⟩ := box5 HV9.out.i2)
    | (go_at_call 20; (with_reducible refine (smerge_nil p F1 c l L _ (skI HV7.out.i1)).mono ?_); rintro e w8 ⟨rfl, hb⟩; have HV8 := Lib.hid (HV7.out.up hb); clear hb; clear x0 x1 x2 x3 x4 x5 x6 y0 y1 y2 y3 y4 y5 y6 c0 c1 c2 c3 c4 d0 d1 d2 d3 d4; obtain ⟨x0, x1, x2, x3, x4, x5, x6⟩ := box7 HV8.out.i5; obtain ⟨y0, y1, y2, y3, y4, y5, y6⟩ := box7 HV8.out.i4; obtain ⟨c0, c1, c2, c3, c4⟩ := box5 HV8.out.i3; obtain ⟨d0, d1, d2, d3, d4⟩ := box5 HV8.out.i2)
    | (go_at_call 24; (with_reducible refine (DU.out _ _ _ (skI HV6.out.i0)).mono ?_); rintro e w7 ⟨rfl, G1, h1, h2, h3⟩; have HV7 := Lib.hid (HV6.out.turn_0 (skT q G1 d k M) h1 h2 h3); clear h1 h2 h3; clear x0 x1 x2 x3 x4 x5 x6 y0 y1 y2 y3 y4 y5 y6 c0 c1 c2 c3 c4 d0 d1 d2 d3 d4; obtain ⟨x0, x1, x2, x3, x4, x5, x6⟩ := box7 HV7.out.i5; obtain ⟨y0, y1, y2, y3, y4, y5, y6⟩ := box7 HV7.out.i4; obtain ⟨c0, c1, c2, c3, c4⟩ := box5 HV7.out.i3; obtain ⟨d0, d1, d2, d3, d4⟩ := box5 HV7.out.i2)
    | (go_at_call 24; (with_reducible refine (CU.out _ _ _ (skI HV5.out.i1)).mono ?_); rintro e w6 ⟨rfl, F1, h1, h2, h3⟩; have HV6 := Lib.hid (HV5.out.turn_1 (skT p F1 c l L) h1 h2 h3); clear h1 h2 h3; clear x0 x1 x2 x3 x4 x5 x6 y0 y1 y2 y3 y4 y5 y6 c0 c1 c2 c3 c4 d0 d1 d2 d3 d4; obtain ⟨x0, x1, x2, x3, x4, x5, x6⟩ := box7 HV6.out.i5; obtain ⟨y0, y1, y2, y3, y4, y5, y6⟩ := box7 HV6.out.i4; obtain ⟨c0, c1, c2, c3, c4⟩ := box5 HV6.out.i3; obtain ⟨d0, d1, d2, d3, d4⟩ := box5 HV6.out.i2)
    | (go_at_call 23; (with_reducible refine (DN.out _).mono ?_); rintro e w5 ⟨q, G, rfl, h1, h2, hb⟩; have HV5 := Lib.hid (HV4.out.push (skT q G d k (zerosL (rws d) (wds d))) hb h1 h2); clear h1 h2 hb; clear x0 x1 x2 x3 x4 x5 x6 y0 y1 y2 y3 y4 y5 y6 c0 c1 c2 c3 c4 d0 d1 d2 d3 d4; obtain ⟨x0, x1, x2, x3, x4, x5, x6⟩ := box7 HV5.out.i5; obtain ⟨y0, y1, y2, y3, y4, y5, y6⟩ := box7 HV5.out.i4; obtain ⟨c0, c1, c2, c3, c4⟩ := box5 HV5.out.i3; obtain ⟨d0, d1, d2, d3, d4⟩ := box5 HV5.out.i2)
    | (go_at_call 23; (with_reducible refine (CN.out _).mono ?_); rintro e w4 ⟨p, F, rfl, h1, h2, hb⟩; have HV4 := Lib.hid (HV3.out.push (skT p F c l (zerosL (rws c) (wds c))) hb h1 h2); clear h1 h2 hb; clear x0 x1 x2 x3 x4 x5 x6 y0 y1 y2 y3 y4 y5 y6 c0 c1 c2 c3 c4 d0 d1 d2 d3 d4; obtain ⟨x0, x1, x2, x3, x4, x5, x6⟩ := box7 HV4.out.i4; obtain ⟨y0, y1, y2, y3, y4, y5, y6⟩ := box7 HV4.out.i3; obtain ⟨c0, c1, c2, c3, c4⟩ := box5 HV4.out.i2; obtain ⟨d0, d1, d2, d3, d4⟩ := box5 HV4.out.i1)
    | (go_at_call 22; (with_reducible refine (DA.out _).mono ?_); rintro e w3 ⟨rfl, hb⟩; have HV3 := Lib.hid ((HV2.out.up hb).push (boxT w3.heap.size 24 #[.int .i64 d.bt, .int .i64 d.rw, .int .i64 d.wd, .int .i64 d.md, .int .u64 d.sd]) (Lw.below_alloc (Below.refl _ _) _) (heap_alloc_new w3 _) (fun k hk => Nat.le_of_eq hk.symm)); clear hb; clear x0 x1 x2 x3 x4 x5 x6 y0 y1 y2 y3 y4 y5 y6 c0 c1 c2 c3 c4; obtain ⟨x0, x1, x2, x3, x4, x5, x6⟩ := box7 HV3.out.i3; obtain ⟨y0, y1, y2, y3, y4, y5, y6⟩ := box7 HV3.out.i2; obtain ⟨c0, c1, c2, c3, c4⟩ := box5 HV3.out.i1; obtain ⟨d0, d1, d2, d3, d4⟩ := box5 HV3.out.i0)
    | (go_at_call 22; (with_reducible refine (CA.out _).mono ?_); rintro e w2 ⟨rfl, hb⟩; have HV2 := Lib.hid ((HV1.out.up hb).push (boxT w2.heap.size 24 #[.int .i64 c.bt, .int .i64 c.rw, .int .i64 c.wd, .int .i64 c.md, .int .u64 c.sd]) (Lw.below_alloc (Below.refl _ _) _) (heap_alloc_new w2 _) (fun k hk => Nat.le_of_eq hk.symm)); clear hb; clear x0 x1 x2 x3 x4 x5 x6 y0 y1 y2 y3 y4 y5 y6; obtain ⟨x0, x1, x2, x3, x4, x5, x6⟩ := box7 HV2.out.i2; obtain ⟨y0, y1, y2, y3, y4, y5, y6⟩ := box7 HV2.out.i1; obtain ⟨c0, c1, c2, c3, c4⟩ := box5 HV2.out.i0)
    | (go_at_call 10; (with_reducible refine (shown_any _).mono ?_); rintro e w1 ⟨rfl, hb⟩; have HV1 := Lib.hid (HBX.out.up hb); clear hb; obtain ⟨x0, x1, x2, x3, x4, x5, x6⟩ := box7 HV1.out.i1; obtain ⟨y0, y1, y2, y3, y4, y5, y6⟩ := box7 HV1.out.i0))
  all_goals go_ret
  all_goals exact ⟨ret_bs (by first | rfl | (simp [*]; done)), HVe.out.below⟩
set_option maxRecDepth 100000 in
set_option maxHeartbeats 8000000 in
theorem unl_no2 (x y : Cfg) (lv lv2 : Int) (A A2 : Option Addr) (n0 k0 n2 k2 : Nat) (w : World) (hx : x.Ok) (hy : y.Ok) (hlv : -9223372036854775808 ≤ lv ∧ lv ≤ 9223372036854775807) (hlv2 : -9223372036854775808 ≤ lv2 ∧ lv2 ≤ 9223372036854775807) (c : Cfg) (l : Int) (d : Cfg) (k : Int) (cr : IsRight c) (co : c.Ok) (cb : c.bt ≤ 8) (ck : 1 ≤ keys c l) (dr : IsRight d) (dO : d.Ok) (db : d.bt ≤ 8) (dk : 1 ≤ keys d k) (X Y : Int) (ca1 : bits .and .i64 lv 65535 = X) (ca4 : Int.tmod X (c.bt + 1) = l) (da1 : bits .and .i64 lv2 65535 = Y) (da4 : Int.tmod Y (d.bt + 1) = k) (hc : anyC x 8 9 = c) (hd : anyC y 8 9 = d) (b0 : (c.bt == d.bt) = true) (b1 : (c.rw == d.rw) = true) (b2 : (c.wd == d.wd) = false) :
    Calls Try.prog 8 #[.agg #[.int .i64 x.bt, .int .i64 x.rw, .int .i64 x.wd, .int .i64 x.md, .int .u64 x.sd, .int .i64 lv, .slice A n0 k0], .agg #[.int .i64 y.bt, .int .i64 y.rw, .int .i64 y.wd, .int .i64 y.md, .int .u64 y.sd, .int .i64 lv2, .slice A2 n2 k2]] w fun e w' => e = .returned (.bool true) ∧ Below w.heap.size w w' := by
  have cl := (keys_pos.1 ck).2
  have c1 := cr.1
  have CA := Lib.hid (fun w => rany_at x 8 9 c w hx (by omega) (by omega) (by omega) (by omega) hc)
  have DA := Lib.hid (fun w => rany_at y 8 9 d w hy (by omega) (by omega) (by omega) (by omega) hd)
  have CN := Lib.hid (fun w => snew_yes c l w co (by omega) (by omega) ck)
  have dl := (keys_pos.1 dk).2
  have d1 := dr.1
  have DN := Lib.hid (fun w => snew_yes d k w dO (by omega) (by omega) dk)
  have dw1 : IntKind.i64.wrap (d.bt + 1) = d.bt + 1 := IntWalk.i64_in _ ⟨by omega, by omega⟩
  have dw2 : wrap64 (d.bt + 1) = d.bt + 1 := IntWalk.wrap64_in _ ⟨by omega, by omega⟩
  have dn : ¬ d.bt + 1 = 0 := by omega
  have cw1 : IntKind.i64.wrap (c.bt + 1) = c.bt + 1 := IntWalk.i64_in _ ⟨by omega, by omega⟩
  have cw2 : wrap64 (c.bt + 1) = c.bt + 1 := IntWalk.wrap64_in _ ⟨by omega, by omega⟩
  have cn : ¬ c.bt + 1 = 0 := by omega
  obtain ⟨L, hL⟩ : ∃ L, cells c l [(0, 5)] = L := ⟨_, rfl⟩
  obtain ⟨M, hM⟩ : ∃ M, cells d k [(0, 3)] = M := ⟨_, rfl⟩
  have u5 := one_up (d := 5) cr ck (by omega) (by omega)
  have u3 := one_up (d := 3) dr dk (by omega) (by omega)
  rw [hL] at u5
  rw [hM] at u3
  have CU := Lib.hid (fun p F w h => (supd_any p F c l (zerosL (rws c) (wds c)) 0 5 w h (by omega) (by omega) (by omega) (by omega)))
  rw [u5.1, u5.2] at CU
  have DU := Lib.hid (fun p F w h => (supd_any p F d k (zerosL (rws d) (wds d)) 0 3 w h (by omega) (by omega) (by omega) (by omega)))
  rw [u3.1, u3.2] at DU
  have CC := Lib.hid (fun p F w h => scells_mid p F c l L w h)
  have CM := Lib.hid (fun p F q G w h g => smerge_any p F c l L q G d k M w h g)
  have hno : ¬ (cfgE c d = true ∧ l = k) := by
    intro h
    have h1 := of_decide_eq_true h.1
    have h2 := h.2
    obtain ⟨g1, g2, g3, g4, g5⟩ := h1
    simp [g1, g2, g3, g4, g5, h2] at b2
  have CS := Lib.hid (fun p F q G w h g => ssub_any p F c l L q G d k M w h g)
  have m1 : mgCode 1 c d l k L M = 5 ∧ mgRes 1 c d l k L M = L := ⟨if_neg hno, if_neg hno⟩
  have m2 : mgCode (-1) c d l k L M = 5 ∧ mgRes (-1) c d l k L M = L := ⟨if_neg hno, if_neg hno⟩
  rw [m1.1, m1.2] at CM
  rw [m2.1, m2.2] at CS
  have FL1 : Hid (L.flatten.length = rws c * wds c) := Lib.hid (by
    rw [← hL]
    exact sz_flat (cells_sz (one_in ck (by omega) (by omega))))
  have FL2 := FL1
  have HBX : Hid (Have w ((w.alloc (.cells #[.int .i64 x.bt, .int .i64 x.rw, .int .i64 x.wd, .int .i64 x.md, .int .u64 x.sd, .int .i64 lv, .slice A n0 k0] 27)).alloc (.cells #[.int .i64 y.bt, .int .i64 y.rw, .int .i64 y.wd, .int .i64 y.md, .int .u64 y.sd, .int .i64 lv2, .slice A2 n2 k2] 27)) [boxT (w.heap.size + 1) 27 #[.int .i64 y.bt, .int .i64 y.rw, .int .i64 y.wd, .int .i64 y.md, .int .u64 y.sd, .int .i64 lv2, .slice A2 n2 k2], boxT w.heap.size 27 #[.int .i64 x.bt, .int .i64 x.rw, .int .i64 x.wd, .int .i64 x.md, .int .u64 x.sd, .int .i64 lv, .slice A n0 k0]]) := Lib.hid (two_boxs w _ _ _ _)
  have hq9 : rws c * wds c ≤ 1024 := Nat.mul_le_mul (rws_bd cr).2.1 (wds_bd cr).2.1
  obtain ⟨Q, hQ⟩ : ∃ Q, rws c * wds c = Q := ⟨_, rfl⟩
  rw [hQ] at CC FL1 FL2 hq9
  clear hL hM u5 u3 hc hd hx hy cr co ck dr dO dk hno m1 m2 hQ
  go_enter Try.func8, Try.ntmps8
  go_wp2_with (first
    | (go_at_call 14; (with_reducible refine (rsame_any _ _ _ _ _ _ _ _ _ (midI HVd.out.i0).rd (midI HVd.out.i1).rd FL2.out FL1.out (by omega) (by omega)).mono ?_); rintro e we ⟨rfl, hb⟩; have HVe := Lib.hid (HVd.out.up hb); clear hb)
    | (go_at_call 15; (with_reducible refine (CC.out _ F3 _ (skI HVc.out.i2)).mono ?_); rintro e wd ⟨g2, cap2, rfl, h1, h2, -, -, hb⟩; have HVd := Lib.hid (HVc.out.push (midT g2 L.flatten) hb h1 (fun k hk => by subst hk; exact h2)); clear h1 h2 hb)
    | (go_at_call 21; (with_reducible refine (CS.out _ _ _ _ _ (skI HVb.out.i2) (skI HVb.out.i1)).mono ?_); rintro e wc ⟨rfl, F3, h1, h2, h3⟩; have HVc := Lib.hid (HVb.out.turn_2 (skT p F3 c l L) h1 h2 h3); clear h1 h2 h3; clear x0 x1 x2 x3 x4 x5 x6 y0 y1 y2 y3 y4 y5 y6 c0 c1 c2 c3 c4 d0 d1 d2 d3 d4; obtain ⟨x0, x1, x2, x3, x4, x5, x6⟩ := box7 HVc.out.i6; obtain ⟨y0, y1, y2, y3, y4, y5, y6⟩ := box7 HVc.out.i5; obtain ⟨c0, c1, c2, c3, c4⟩ := box5 HVc.out.i4; obtain ⟨d0, d1, d2, d3, d4⟩ := box5 HVc.out.i3)
    | (go_at_call 20; (with_reducible refine (CM.out _ _ _ _ _ (skI HVa.out.i2) (skI HVa.out.i1)).mono ?_); rintro e wb ⟨rfl, F2, h1, h2, h3⟩; have HVb := Lib.hid (HVa.out.turn_2 (skT p F2 c l L) h1 h2 h3); clear h1 h2 h3; clear x0 x1 x2 x3 x4 x5 x6 y0 y1 y2 y3 y4 y5 y6 c0 c1 c2 c3 c4 d0 d1 d2 d3 d4; obtain ⟨x0, x1, x2, x3, x4, x5, x6⟩ := box7 HVb.out.i6; obtain ⟨y0, y1, y2, y3, y4, y5, y6⟩ := box7 HVb.out.i5; obtain ⟨c0, c1, c2, c3, c4⟩ := box5 HVb.out.i4; obtain ⟨d0, d1, d2, d3, d4⟩ := box5 HVb.out.i3)
    | (go_at_call 15; (with_reducible refine (CC.out _ _ _ (skI HV9.out.i1)).mono ?_); rintro e wa ⟨g1, cap1, rfl, h1, h2, -, -, hb⟩; have HVa := Lib.hid (HV9.out.push (midT g1 L.flatten) hb h1 (fun k hk => by subst hk; exact h2)); clear h1 h2 hb; clear x0 x1 x2 x3 x4 x5 x6 y0 y1 y2 y3 y4 y5 y6 c0 c1 c2 c3 c4 d0 d1 d2 d3 d4; obtain ⟨x0, x1, x2, x3, x4, x5, x6⟩ := box7 HVa.out.i6; obtain ⟨y0, y1, y2, y3, y4, y5, y6⟩ := box7 HVa.out.i5; obtain ⟨c0, c1, c2, c3, c4⟩ := box5 HVa.out.i4; obtain ⟨d0, d1, d2, d3, d4⟩ := box5 HVa.out.i3)
    | (go_at_call 21; (with_reducible refine (ssub_nil p F1 c l L _ (skI HV8.out.i1)).mono ?_); rintro e w9 ⟨rfl, hb⟩; have HV9 := Lib.hid (HV8.out.up hb); clear hb; clear x0 x1 x2 x3 x4 x5 x6 y0 y1 y2 y3 y4 y5 y6 c0 c1 c2 c3 c4 d0 d1 d2 d3 d4; obtain ⟨x0, x1, x2, x3, x4, x5, x6⟩ := box7 HV9.out.i5; obtain ⟨y0, y1, y2, y3, y4, y5, y6⟩ := box7 HV9.out.i4; obtain ⟨c0, c1, c2, c3, c4⟩ := box5 HV9.out.i3; obtain ⟨d0, d1, d2, d3, d4⟩ := box5 HV9.out.i2)
    | (go_at_call 20; (with_reducible refine (smerge_nil p F1 c l L _ (skI HV7.out.i1)).mono ?_); rintro e w8 ⟨rfl, hb⟩; have HV8 := Lib.hid (HV7.out.up hb); clear hb; clear x0 x1 x2 x3 x4 x5 x6 y0 y1 y2 y3 y4 y5 y6 c0 c1 c2 c3 c4 d0 d1 d2 d3 d4; obtain ⟨x0, x1, x2, x3, x4, x5, x6⟩ := box7 HV8.out.i5; obtain ⟨y0, y1, y2, y3, y4, y5, y6⟩ := box7 HV8.out.i4; obtain ⟨c0, c1, c2, c3, c4⟩ := box5 HV8.out.i3; obtain ⟨d0, d1, d2, d3, d4⟩ := box5 HV8.out.i2)
    | (go_at_call 24; (with_reducible refine (DU.out _ _ _ (skI HV6.out.i0)).mono ?_); rintro e w7 ⟨rfl, G1, h1, h2, h3⟩; have HV7 := Lib.hid (HV6.out.turn_0 (skT q G1 d k M) h1 h2 h3); clear h1 h2 h3; clear x0 x1 x2 x3 x4 x5 x6 y0 y1 y2 y3 y4 y5 y6 c0 c1 c2 c3 c4 d0 d1 d2 d3 d4; obtain ⟨x0, x1, x2, x3, x4, x5, x6⟩ := box7 HV7.out.i5; obtain ⟨y0, y1, y2, y3, y4, y5, y6⟩ := box7 HV7.out.i4; obtain ⟨c0, c1, c2, c3, c4⟩ := box5 HV7.out.i3; obtain ⟨d0, d1, d2, d3, d4⟩ := box5 HV7.out.i2)
    | (go_at_call 24; (with_reducible refine (CU.out _ _ _ (skI HV5.out.i1)).mono ?_); rintro e w6 ⟨rfl, F1, h1, h2, h3⟩; have HV6 := Lib.hid (HV5.out.turn_1 (skT p F1 c l L) h1 h2 h3); clear h1 h2 h3; clear x0 x1 x2 x3 x4 x5 x6 y0 y1 y2 y3 y4 y5 y6 c0 c1 c2 c3 c4 d0 d1 d2 d3 d4; obtain ⟨x0, x1, x2, x3, x4, x5, x6⟩ := box7 HV6.out.i5; obtain ⟨y0, y1, y2, y3, y4, y5, y6⟩ := box7 HV6.out.i4; obtain ⟨c0, c1, c2, c3, c4⟩ := box5 HV6.out.i3; obtain ⟨d0, d1, d2, d3, d4⟩ := box5 HV6.out.i2)
    | (go_at_call 23; (with_reducible refine (DN.out _).mono ?_); rintro e w5 ⟨q, G, rfl, h1, h2, hb⟩; have HV5 := Lib.hid (HV4.out.push (skT q G d k (zerosL (rws d) (wds d))) hb h1 h2); clear h1 h2 hb; clear x0 x1 x2 x3 x4 x5 x6 y0 y1 y2 y3 y4 y5 y6 c0 c1 c2 c3 c4 d0 d1 d2 d3 d4; obtain ⟨x0, x1, x2, x3, x4, x5, x6⟩ := box7 HV5.out.i5; obtain ⟨y0, y1, y2, y3, y4, y5, y6⟩ := box7 HV5.out.i4; obtain ⟨c0, c1, c2, c3, c4⟩ := box5 HV5.out.i3; obtain ⟨d0, d1, d2, d3, d4⟩ := box5 HV5.out.i2)
    | (go_at_call 23; (with_reducible refine (CN.out _).mono ?_); rintro e w4 ⟨p, F, rfl, h1, h2, hb⟩; have HV4 := Lib.hid (HV3.out.push (skT p F c l (zerosL (rws c) (wds c))) hb h1 h2); clear h1 h2 hb; clear x0 x1 x2 x3 x4 x5 x6 y0 y1 y2 y3 y4 y5 y6 c0 c1 c2 c3 c4 d0 d1 d2 d3 d4; obtain ⟨x0, x1, x2, x3, x4, x5, x6⟩ := box7 HV4.out.i4; obtain ⟨y0, y1, y2, y3, y4, y5, y6⟩ := box7 HV4.out.i3; obtain ⟨c0, c1, c2, c3, c4⟩ := box5 HV4.out.i2; obtain ⟨d0, d1, d2, d3, d4⟩ := box5 HV4.out.i1)
    | (go_at_call 22; (with_reducible refine (DA.out _).mono ?_); rintro e w3 ⟨rfl, hb⟩; have HV3 := Lib.hid ((HV2.out.up hb).push (boxT w3.heap.size 24 #[.int .i64 d.bt, .int .i64 d.rw, .int .i64 d.wd, .int .i64 d.md, .int .u64 d.sd]) (Lw.below_alloc (Below.refl _ _) _) (heap_alloc_new w3 _) (fun k hk => Nat.le_of_eq hk.symm)); clear hb; clear x0 x1 x2 x3 x4 x5 x6 y0 y1 y2 y3 y4 y5 y6 c0 c1 c2 c3 c4; obtain ⟨x0, x1, x2, x3, x4, x5, x6⟩ := box7 HV3.out.i3; obtain ⟨y0, y1, y2, y3, y4, y5, y6⟩ := box7 HV3.out.i2; obtain ⟨c0, c1, c2, c3, c4⟩ := box5 HV3.out.i1; obtain ⟨d0, d1, d2, d3, d4⟩ := box5 HV3.out.i0)
    | (go_at_call 22; (with_reducible refine (CA.out _).mono ?_); rintro e w2 ⟨rfl, hb⟩; have HV2 := Lib.hid ((HV1.out.up hb).push (boxT w2.heap.size 24 #[.int .i64 c.bt, .int .i64 c.rw, .int .i64 c.wd, .int .i64 c.md, .int .u64 c.sd]) (Lw.below_alloc (Below.refl _ _) _) (heap_alloc_new w2 _) (fun k hk => Nat.le_of_eq hk.symm)); clear hb; clear x0 x1 x2 x3 x4 x5 x6 y0 y1 y2 y3 y4 y5 y6; obtain ⟨x0, x1, x2, x3, x4, x5, x6⟩ := box7 HV2.out.i2; obtain ⟨y0, y1, y2, y3, y4, y5, y6⟩ := box7 HV2.out.i1; obtain ⟨c0, c1, c2, c3, c4⟩ := box5 HV2.out.i0)
    | (go_at_call 10; (with_reducible refine (shown_any _).mono ?_); rintro e w1 ⟨rfl, hb⟩; have HV1 := Lib.hid (HBX.out.up hb); clear hb; obtain ⟨x0, x1, x2, x3, x4, x5, x6⟩ := box7 HV1.out.i1; obtain ⟨y0, y1, y2, y3, y4, y5, y6⟩ := box7 HV1.out.i0))
  all_goals go_ret
  all_goals exact ⟨ret_bs (by first | rfl | (simp [*]; done)), HVe.out.below⟩
set_option maxRecDepth 100000 in
set_option maxHeartbeats 8000000 in
theorem unl_no3 (x y : Cfg) (lv lv2 : Int) (A A2 : Option Addr) (n0 k0 n2 k2 : Nat) (w : World) (hx : x.Ok) (hy : y.Ok) (hlv : -9223372036854775808 ≤ lv ∧ lv ≤ 9223372036854775807) (hlv2 : -9223372036854775808 ≤ lv2 ∧ lv2 ≤ 9223372036854775807) (c : Cfg) (l : Int) (d : Cfg) (k : Int) (cr : IsRight c) (co : c.Ok) (cb : c.bt ≤ 8) (ck : 1 ≤ keys c l) (dr : IsRight d) (dO : d.Ok) (db : d.bt ≤ 8) (dk : 1 ≤ keys d k) (X Y : Int) (ca1 : bits .and .i64 lv 65535 = X) (ca4 : Int.tmod X (c.bt + 1) = l) (da1 : bits .and .i64 lv2 65535 = Y) (da4 : Int.tmod Y (d.bt + 1) = k) (hc : anyC x 8 9 = c) (hd : anyC y 8 9 = d) (b0 : (c.bt == d.bt) = true) (b1 : (c.rw == d.rw) = true) (b2 : (c.wd == d.wd) = true) (b3 : (c.md == d.md) = false) :
    Calls Try.prog 8 #[.agg #[.int .i64 x.bt, .int .i64 x.rw, .int .i64 x.wd, .int .i64 x.md, .int .u64 x.sd, .int .i64 lv, .slice A n0 k0], .agg #[.int .i64 y.bt, .int .i64 y.rw, .int .i64 y.wd, .int .i64 y.md, .int .u64 y.sd, .int .i64 lv2, .slice A2 n2 k2]] w fun e w' => e = .returned (.bool true) ∧ Below w.heap.size w w' := by
  have cl := (keys_pos.1 ck).2
  have c1 := cr.1
  have CA := Lib.hid (fun w => rany_at x 8 9 c w hx (by omega) (by omega) (by omega) (by omega) hc)
  have DA := Lib.hid (fun w => rany_at y 8 9 d w hy (by omega) (by omega) (by omega) (by omega) hd)
  have CN := Lib.hid (fun w => snew_yes c l w co (by omega) (by omega) ck)
  have dl := (keys_pos.1 dk).2
  have d1 := dr.1
  have DN := Lib.hid (fun w => snew_yes d k w dO (by omega) (by omega) dk)
  have dw1 : IntKind.i64.wrap (d.bt + 1) = d.bt + 1 := IntWalk.i64_in _ ⟨by omega, by omega⟩
  have dw2 : wrap64 (d.bt + 1) = d.bt + 1 := IntWalk.wrap64_in _ ⟨by omega, by omega⟩
  have dn : ¬ d.bt + 1 = 0 := by omega
  have cw1 : IntKind.i64.wrap (c.bt + 1) = c.bt + 1 := IntWalk.i64_in _ ⟨by omega, by omega⟩
  have cw2 : wrap64 (c.bt + 1) = c.bt + 1 := IntWalk.wrap64_in _ ⟨by omega, by omega⟩
  have cn : ¬ c.bt + 1 = 0 := by omega
  obtain ⟨L, hL⟩ : ∃ L, cells c l [(0, 5)] = L := ⟨_, rfl⟩
  obtain ⟨M, hM⟩ : ∃ M, cells d k [(0, 3)] = M := ⟨_, rfl⟩
  have u5 := one_up (d := 5) cr ck (by omega) (by omega)
  have u3 := one_up (d := 3) dr dk (by omega) (by omega)
  rw [hL] at u5
  rw [hM] at u3
  have CU := Lib.hid (fun p F w h => (supd_any p F c l (zerosL (rws c) (wds c)) 0 5 w h (by omega) (by omega) (by omega) (by omega)))
  rw [u5.1, u5.2] at CU
  have DU := Lib.hid (fun p F w h => (supd_any p F d k (zerosL (rws d) (wds d)) 0 3 w h (by omega) (by omega) (by omega) (by omega)))
  rw [u3.1, u3.2] at DU
  have CC := Lib.hid (fun p F w h => scells_mid p F c l L w h)
  have CM := Lib.hid (fun p F q G w h g => smerge_any p F c l L q G d k M w h g)
  have hno : ¬ (cfgE c d = true ∧ l = k) := by
    intro h
    have h1 := of_decide_eq_true h.1
    have h2 := h.2
    obtain ⟨g1, g2, g3, g4, g5⟩ := h1
    simp [g1, g2, g3, g4, g5, h2] at b3
  have CS := Lib.hid (fun p F q G w h g => ssub_any p F c l L q G d k M w h g)
  have m1 : mgCode 1 c d l k L M = 5 ∧ mgRes 1 c d l k L M = L := ⟨if_neg hno, if_neg hno⟩
  have m2 : mgCode (-1) c d l k L M = 5 ∧ mgRes (-1) c d l k L M = L := ⟨if_neg hno, if_neg hno⟩
  rw [m1.1, m1.2] at CM
  rw [m2.1, m2.2] at CS
  have FL1 : Hid (L.flatten.length = rws c * wds c) := Lib.hid (by
    rw [← hL]
    exact sz_flat (cells_sz (one_in ck (by omega) (by omega))))
  have FL2 := FL1
  have HBX : Hid (Have w ((w.alloc (.cells #[.int .i64 x.bt, .int .i64 x.rw, .int .i64 x.wd, .int .i64 x.md, .int .u64 x.sd, .int .i64 lv, .slice A n0 k0] 27)).alloc (.cells #[.int .i64 y.bt, .int .i64 y.rw, .int .i64 y.wd, .int .i64 y.md, .int .u64 y.sd, .int .i64 lv2, .slice A2 n2 k2] 27)) [boxT (w.heap.size + 1) 27 #[.int .i64 y.bt, .int .i64 y.rw, .int .i64 y.wd, .int .i64 y.md, .int .u64 y.sd, .int .i64 lv2, .slice A2 n2 k2], boxT w.heap.size 27 #[.int .i64 x.bt, .int .i64 x.rw, .int .i64 x.wd, .int .i64 x.md, .int .u64 x.sd, .int .i64 lv, .slice A n0 k0]]) := Lib.hid (two_boxs w _ _ _ _)
  have hq9 : rws c * wds c ≤ 1024 := Nat.mul_le_mul (rws_bd cr).2.1 (wds_bd cr).2.1
  obtain ⟨Q, hQ⟩ : ∃ Q, rws c * wds c = Q := ⟨_, rfl⟩
  rw [hQ] at CC FL1 FL2 hq9
  clear hL hM u5 u3 hc hd hx hy cr co ck dr dO dk hno m1 m2 hQ
  go_enter Try.func8, Try.ntmps8
  go_wp2_with (first
    | (go_at_call 14; (with_reducible refine (rsame_any _ _ _ _ _ _ _ _ _ (midI HVd.out.i0).rd (midI HVd.out.i1).rd FL2.out FL1.out (by omega) (by omega)).mono ?_); rintro e we ⟨rfl, hb⟩; have HVe := Lib.hid (HVd.out.up hb); clear hb)
    | (go_at_call 15; (with_reducible refine (CC.out _ F3 _ (skI HVc.out.i2)).mono ?_); rintro e wd ⟨g2, cap2, rfl, h1, h2, -, -, hb⟩; have HVd := Lib.hid (HVc.out.push (midT g2 L.flatten) hb h1 (fun k hk => by subst hk; exact h2)); clear h1 h2 hb)
    | (go_at_call 21; (with_reducible refine (CS.out _ _ _ _ _ (skI HVb.out.i2) (skI HVb.out.i1)).mono ?_); rintro e wc ⟨rfl, F3, h1, h2, h3⟩; have HVc := Lib.hid (HVb.out.turn_2 (skT p F3 c l L) h1 h2 h3); clear h1 h2 h3; clear x0 x1 x2 x3 x4 x5 x6 y0 y1 y2 y3 y4 y5 y6 c0 c1 c2 c3 c4 d0 d1 d2 d3 d4; obtain ⟨x0, x1, x2, x3, x4, x5, x6⟩ := box7 HVc.out.i6; obtain ⟨y0, y1, y2, y3, y4, y5, y6⟩ := box7 HVc.out.i5; obtain ⟨c0, c1, c2, c3, c4⟩ := box5 HVc.out.i4; obtain ⟨d0, d1, d2, d3, d4⟩ := box5 HVc.out.i3)
    | (go_at_call 20; (with_reducible refine (CM.out _ _ _ _ _ (skI HVa.out.i2) (skI HVa.out.i1)).mono ?_); rintro e wb ⟨rfl, F2, h1, h2, h3⟩; have HVb := Lib.hid (HVa.out.turn_2 (skT p F2 c l L) h1 h2 h3); clear h1 h2 h3; clear x0 x1 x2 x3 x4 x5 x6 y0 y1 y2 y3 y4 y5 y6 c0 c1 c2 c3 c4 d0 d1 d2 d3 d4; obtain ⟨x0, x1, x2, x3, x4, x5, x6⟩ := box7 HVb.out.i6; obtain ⟨y0, y1, y2, y3, y4, y5, y6⟩ := box7 HVb.out.i5; obtain ⟨c0, c1, c2, c3, c4⟩ := box5 HVb.out.i4; obtain ⟨d0, d1, d2, d3, d4⟩ := box5 HVb.out.i3)
    | (go_at_call 15; (with_reducible refine (CC.out _ _ _ (skI HV9.out.i1)).mono ?_); rintro e wa ⟨g1, cap1, rfl, h1, h2, -, -, hb⟩; have HVa := Lib.hid (HV9.out.push (midT g1 L.flatten) hb h1 (fun k hk => by subst hk; exact h2)); clear h1 h2 hb; clear x0 x1 x2 x3 x4 x5 x6 y0 y1 y2 y3 y4 y5 y6 c0 c1 c2 c3 c4 d0 d1 d2 d3 d4; obtain ⟨x0, x1, x2, x3, x4, x5, x6⟩ := box7 HVa.out.i6; obtain ⟨y0, y1, y2, y3, y4, y5, y6⟩ := box7 HVa.out.i5; obtain ⟨c0, c1, c2, c3, c4⟩ := box5 HVa.out.i4; obtain ⟨d0, d1, d2, d3, d4⟩ := box5 HVa.out.i3)
    | (go_at_call 21; (with_reducible refine (ssub_nil p F1 c l L _ (skI HV8.out.i1)).mono ?_); rintro e w9 ⟨rfl, hb⟩; have HV9 := Lib.hid (HV8.out.up hb); clear hb; clear x0 x1 x2 x3 x4 x5 x6 y0 y1 y2 y3 y4 y5 y6 c0 c1 c2 c3 c4 d0 d1 d2 d3 d4; obtain ⟨x0, x1, x2, x3, x4, x5, x6⟩ := box7 HV9.out.i5; obtain ⟨y0, y1, y2, y3, y4, y5, y6⟩ := box7 HV9.out.i4; obtain ⟨c0, c1, c2, c3, c4⟩ := box5 HV9.out.i3; obtain ⟨d0, d1, d2, d3, d4⟩ := box5 HV9.out.i2)
    | (go_at_call 20; (with_reducible refine (smerge_nil p F1 c l L _ (skI HV7.out.i1)).mono ?_); rintro e w8 ⟨rfl, hb⟩; have HV8 := Lib.hid (HV7.out.up hb); clear hb; clear x0 x1 x2 x3 x4 x5 x6 y0 y1 y2 y3 y4 y5 y6 c0 c1 c2 c3 c4 d0 d1 d2 d3 d4; obtain ⟨x0, x1, x2, x3, x4, x5, x6⟩ := box7 HV8.out.i5; obtain ⟨y0, y1, y2, y3, y4, y5, y6⟩ := box7 HV8.out.i4; obtain ⟨c0, c1, c2, c3, c4⟩ := box5 HV8.out.i3; obtain ⟨d0, d1, d2, d3, d4⟩ := box5 HV8.out.i2)
    | (go_at_call 24; (with_reducible refine (DU.out _ _ _ (skI HV6.out.i0)).mono ?_); rintro e w7 ⟨rfl, G1, h1, h2, h3⟩; have HV7 := Lib.hid (HV6.out.turn_0 (skT q G1 d k M) h1 h2 h3); clear h1 h2 h3; clear x0 x1 x2 x3 x4 x5 x6 y0 y1 y2 y3 y4 y5 y6 c0 c1 c2 c3 c4 d0 d1 d2 d3 d4; obtain ⟨x0, x1, x2, x3, x4, x5, x6⟩ := box7 HV7.out.i5; obtain ⟨y0, y1, y2, y3, y4, y5, y6⟩ := box7 HV7.out.i4; obtain ⟨c0, c1, c2, c3, c4⟩ := box5 HV7.out.i3; obtain ⟨d0, d1, d2, d3, d4⟩ := box5 HV7.out.i2)
    | (go_at_call 24; (with_reducible refine (CU.out _ _ _ (skI HV5.out.i1)).mono ?_); rintro e w6 ⟨rfl, F1, h1, h2, h3⟩; have HV6 := Lib.hid (HV5.out.turn_1 (skT p F1 c l L) h1 h2 h3); clear h1 h2 h3; clear x0 x1 x2 x3 x4 x5 x6 y0 y1 y2 y3 y4 y5 y6 c0 c1 c2 c3 c4 d0 d1 d2 d3 d4; obtain ⟨x0, x1, x2, x3, x4, x5, x6⟩ := box7 HV6.out.i5; obtain ⟨y0, y1, y2, y3, y4, y5, y6⟩ := box7 HV6.out.i4; obtain ⟨c0, c1, c2, c3, c4⟩ := box5 HV6.out.i3; obtain ⟨d0, d1, d2, d3, d4⟩ := box5 HV6.out.i2)
    | (go_at_call 23; (with_reducible refine (DN.out _).mono ?_); rintro e w5 ⟨q, G, rfl, h1, h2, hb⟩; have HV5 := Lib.hid (HV4.out.push (skT q G d k (zerosL (rws d) (wds d))) hb h1 h2); clear h1 h2 hb; clear x0 x1 x2 x3 x4 x5 x6 y0 y1 y2 y3 y4 y5 y6 c0 c1 c2 c3 c4 d0 d1 d2 d3 d4; obtain ⟨x0, x1, x2, x3, x4, x5, x6⟩ := box7 HV5.out.i5; obtain ⟨y0, y1, y2, y3, y4, y5, y6⟩ := box7 HV5.out.i4; obtain ⟨c0, c1, c2, c3, c4⟩ := box5 HV5.out.i3; obtain ⟨d0, d1, d2, d3, d4⟩ := box5 HV5.out.i2)
    | (go_at_call 23; (with_reducible refine (CN.out _).mono ?_); rintro e w4 ⟨p, F, rfl, h1, h2, hb⟩; have HV4 := Lib.hid (HV3.out.push (skT p F c l (zerosL (rws c) (wds c))) hb h1 h2); clear h1 h2 hb; clear x0 x1 x2 x3 x4 x5 x6 y0 y1 y2 y3 y4 y5 y6 c0 c1 c2 c3 c4 d0 d1 d2 d3 d4; obtain ⟨x0, x1, x2, x3, x4, x5, x6⟩ := box7 HV4.out.i4; obtain ⟨y0, y1, y2, y3, y4, y5, y6⟩ := box7 HV4.out.i3; obtain ⟨c0, c1, c2, c3, c4⟩ := box5 HV4.out.i2; obtain ⟨d0, d1, d2, d3, d4⟩ := box5 HV4.out.i1)
    | (go_at_call 22; (with_reducible refine (DA.out _).mono ?_); rintro e w3 ⟨rfl, hb⟩; have HV3 := Lib.hid ((HV2.out.up hb).push (boxT w3.heap.size 24 #[.int .i64 d.bt, .int .i64 d.rw, .int .i64 d.wd, .int .i64 d.md, .int .u64 d.sd]) (Lw.below_alloc (Below.refl _ _) _) (heap_alloc_new w3 _) (fun k hk => Nat.le_of_eq hk.symm)); clear hb; clear x0 x1 x2 x3 x4 x5 x6 y0 y1 y2 y3 y4 y5 y6 c0 c1 c2 c3 c4; obtain ⟨x0, x1, x2, x3, x4, x5, x6⟩ := box7 HV3.out.i3; obtain ⟨y0, y1, y2, y3, y4, y5, y6⟩ := box7 HV3.out.i2; obtain ⟨c0, c1, c2, c3, c4⟩ := box5 HV3.out.i1; obtain ⟨d0, d1, d2, d3, d4⟩ := box5 HV3.out.i0)
    | (go_at_call 22; (with_reducible refine (CA.out _).mono ?_); rintro e w2 ⟨rfl, hb⟩; have HV2 := Lib.hid ((HV1.out.up hb).push (boxT w2.heap.size 24 #[.int .i64 c.bt, .int .i64 c.rw, .int .i64 c.wd, .int .i64 c.md, .int .u64 c.sd]) (Lw.below_alloc (Below.refl _ _) _) (heap_alloc_new w2 _) (fun k hk => Nat.le_of_eq hk.symm)); clear hb; clear x0 x1 x2 x3 x4 x5 x6 y0 y1 y2 y3 y4 y5 y6; obtain ⟨x0, x1, x2, x3, x4, x5, x6⟩ := box7 HV2.out.i2; obtain ⟨y0, y1, y2, y3, y4, y5, y6⟩ := box7 HV2.out.i1; obtain ⟨c0, c1, c2, c3, c4⟩ := box5 HV2.out.i0)
    | (go_at_call 10; (with_reducible refine (shown_any _).mono ?_); rintro e w1 ⟨rfl, hb⟩; have HV1 := Lib.hid (HBX.out.up hb); clear hb; obtain ⟨x0, x1, x2, x3, x4, x5, x6⟩ := box7 HV1.out.i1; obtain ⟨y0, y1, y2, y3, y4, y5, y6⟩ := box7 HV1.out.i0))
  all_goals go_ret
  all_goals exact ⟨ret_bs (by first | rfl | (simp [*]; done)), HVe.out.below⟩
set_option maxRecDepth 100000 in
set_option maxHeartbeats 8000000 in
theorem unl_no4 (x y : Cfg) (lv lv2 : Int) (A A2 : Option Addr) (n0 k0 n2 k2 : Nat) (w : World) (hx : x.Ok) (hy : y.Ok) (hlv : -9223372036854775808 ≤ lv ∧ lv ≤ 9223372036854775807) (hlv2 : -9223372036854775808 ≤ lv2 ∧ lv2 ≤ 9223372036854775807) (c : Cfg) (l : Int) (d : Cfg) (k : Int) (cr : IsRight c) (co : c.Ok) (cb : c.bt ≤ 8) (ck : 1 ≤ keys c l) (dr : IsRight d) (dO : d.Ok) (db : d.bt ≤ 8) (dk : 1 ≤ keys d k) (X Y : Int) (ca1 : bits .and .i64 lv 65535 = X) (ca4 : Int.tmod X (c.bt + 1) = l) (da1 : bits .and .i64 lv2 65535 = Y) (da4 : Int.tmod Y (d.bt + 1) = k) (hc : anyC x 8 9 = c) (hd : anyC y 8 9 = d) (b0 : (c.bt == d.bt) = true) (b1 : (c.rw == d.rw) = true) (b2 : (c.wd == d.wd) = true) (b3 : (c.md == d.md) = true) (b4 : (c.sd == d.sd) = false) :
    Calls Try.prog 8 #[.agg #[.int .i64 x.bt, .int .i64 x.rw, .int .i64 x.wd, .int .i64 x.md, .int .u64 x.sd, .int .i64 lv, .slice A n0 k0], .agg #[.int .i64 y.bt, .int .i64 y.rw, .int .i64 y.wd, .int .i64 y.md, .int .u64 y.sd, .int .i64 lv2, .slice A2 n2 k2]] w fun e w' => e = .returned (.bool true) ∧ Below w.heap.size w w' := by
  have cl := (keys_pos.1 ck).2
  have c1 := cr.1
  have CA := Lib.hid (fun w => rany_at x 8 9 c w hx (by omega) (by omega) (by omega) (by omega) hc)
  have DA := Lib.hid (fun w => rany_at y 8 9 d w hy (by omega) (by omega) (by omega) (by omega) hd)
  have CN := Lib.hid (fun w => snew_yes c l w co (by omega) (by omega) ck)
  have dl := (keys_pos.1 dk).2
  have d1 := dr.1
  have DN := Lib.hid (fun w => snew_yes d k w dO (by omega) (by omega) dk)
  have dw1 : IntKind.i64.wrap (d.bt + 1) = d.bt + 1 := IntWalk.i64_in _ ⟨by omega, by omega⟩
  have dw2 : wrap64 (d.bt + 1) = d.bt + 1 := IntWalk.wrap64_in _ ⟨by omega, by omega⟩
  have dn : ¬ d.bt + 1 = 0 := by omega
  have cw1 : IntKind.i64.wrap (c.bt + 1) = c.bt + 1 := IntWalk.i64_in _ ⟨by omega, by omega⟩
  have cw2 : wrap64 (c.bt + 1) = c.bt + 1 := IntWalk.wrap64_in _ ⟨by omega, by omega⟩
  have cn : ¬ c.bt + 1 = 0 := by omega
  obtain ⟨L, hL⟩ : ∃ L, cells c l [(0, 5)] = L := ⟨_, rfl⟩
  obtain ⟨M, hM⟩ : ∃ M, cells d k [(0, 3)] = M := ⟨_, rfl⟩
  have u5 := one_up (d := 5) cr ck (by omega) (by omega)
  have u3 := one_up (d := 3) dr dk (by omega) (by omega)
  rw [hL] at u5
  rw [hM] at u3
  have CU := Lib.hid (fun p F w h => (supd_any p F c l (zerosL (rws c) (wds c)) 0 5 w h (by omega) (by omega) (by omega) (by omega)))
  rw [u5.1, u5.2] at CU
  have DU := Lib.hid (fun p F w h => (supd_any p F d k (zerosL (rws d) (wds d)) 0 3 w h (by omega) (by omega) (by omega) (by omega)))
  rw [u3.1, u3.2] at DU
  have CC := Lib.hid (fun p F w h => scells_mid p F c l L w h)
  have CM := Lib.hid (fun p F q G w h g => smerge_any p F c l L q G d k M w h g)
  have hno : ¬ (cfgE c d = true ∧ l = k) := by
    intro h
    have h1 := of_decide_eq_true h.1
    have h2 := h.2
    obtain ⟨g1, g2, g3, g4, g5⟩ := h1
    simp [g1, g2, g3, g4, g5, h2] at b4
  have CS := Lib.hid (fun p F q G w h g => ssub_any p F c l L q G d k M w h g)
  have m1 : mgCode 1 c d l k L M = 5 ∧ mgRes 1 c d l k L M = L := ⟨if_neg hno, if_neg hno⟩
  have m2 : mgCode (-1) c d l k L M = 5 ∧ mgRes (-1) c d l k L M = L := ⟨if_neg hno, if_neg hno⟩
  rw [m1.1, m1.2] at CM
  rw [m2.1, m2.2] at CS
  have FL1 : Hid (L.flatten.length = rws c * wds c) := Lib.hid (by
    rw [← hL]
    exact sz_flat (cells_sz (one_in ck (by omega) (by omega))))
  have FL2 := FL1
  have HBX : Hid (Have w ((w.alloc (.cells #[.int .i64 x.bt, .int .i64 x.rw, .int .i64 x.wd, .int .i64 x.md, .int .u64 x.sd, .int .i64 lv, .slice A n0 k0] 27)).alloc (.cells #[.int .i64 y.bt, .int .i64 y.rw, .int .i64 y.wd, .int .i64 y.md, .int .u64 y.sd, .int .i64 lv2, .slice A2 n2 k2] 27)) [boxT (w.heap.size + 1) 27 #[.int .i64 y.bt, .int .i64 y.rw, .int .i64 y.wd, .int .i64 y.md, .int .u64 y.sd, .int .i64 lv2, .slice A2 n2 k2], boxT w.heap.size 27 #[.int .i64 x.bt, .int .i64 x.rw, .int .i64 x.wd, .int .i64 x.md, .int .u64 x.sd, .int .i64 lv, .slice A n0 k0]]) := Lib.hid (two_boxs w _ _ _ _)
  have hq9 : rws c * wds c ≤ 1024 := Nat.mul_le_mul (rws_bd cr).2.1 (wds_bd cr).2.1
  obtain ⟨Q, hQ⟩ : ∃ Q, rws c * wds c = Q := ⟨_, rfl⟩
  rw [hQ] at CC FL1 FL2 hq9
  clear hL hM u5 u3 hc hd hx hy cr co ck dr dO dk hno m1 m2 hQ
  go_enter Try.func8, Try.ntmps8
  go_wp2_with (first
    | (go_at_call 14; (with_reducible refine (rsame_any _ _ _ _ _ _ _ _ _ (midI HVd.out.i0).rd (midI HVd.out.i1).rd FL2.out FL1.out (by omega) (by omega)).mono ?_); rintro e we ⟨rfl, hb⟩; have HVe := Lib.hid (HVd.out.up hb); clear hb)
    | (go_at_call 15; (with_reducible refine (CC.out _ F3 _ (skI HVc.out.i2)).mono ?_); rintro e wd ⟨g2, cap2, rfl, h1, h2, -, -, hb⟩; have HVd := Lib.hid (HVc.out.push (midT g2 L.flatten) hb h1 (fun k hk => by subst hk; exact h2)); clear h1 h2 hb)
    | (go_at_call 21; (with_reducible refine (CS.out _ _ _ _ _ (skI HVb.out.i2) (skI HVb.out.i1)).mono ?_); rintro e wc ⟨rfl, F3, h1, h2, h3⟩; have HVc := Lib.hid (HVb.out.turn_2 (skT p F3 c l L) h1 h2 h3); clear h1 h2 h3; clear x0 x1 x2 x3 x4 x5 x6 y0 y1 y2 y3 y4 y5 y6 c0 c1 c2 c3 c4 d0 d1 d2 d3 d4; obtain ⟨x0, x1, x2, x3, x4, x5, x6⟩ := box7 HVc.out.i6; obtain ⟨y0, y1, y2, y3, y4, y5, y6⟩ := box7 HVc.out.i5; obtain ⟨c0, c1, c2, c3, c4⟩ := box5 HVc.out.i4; obtain ⟨d0, d1, d2, d3, d4⟩ := box5 HVc.out.i3)
    | (go_at_call 20; (with_reducible refine (CM.out _ _ _ _ _ (skI HVa.out.i2) (skI HVa.out.i1)).mono ?_); rintro e wb ⟨rfl, F2, h1, h2, h3⟩; have HVb := Lib.hid (HVa.out.turn_2 (skT p F2 c l L) h1 h2 h3); clear h1 h2 h3; clear x0 x1 x2 x3 x4 x5 x6 y0 y1 y2 y3 y4 y5 y6 c0 c1 c2 c3 c4 d0 d1 d2 d3 d4; obtain ⟨x0, x1, x2, x3, x4, x5, x6⟩ := box7 HVb.out.i6; obtain ⟨y0, y1, y2, y3, y4, y5, y6⟩ := box7 HVb.out.i5; obtain ⟨c0, c1, c2, c3, c4⟩ := box5 HVb.out.i4; obtain ⟨d0, d1, d2, d3, d4⟩ := box5 HVb.out.i3)
    | (go_at_call 15; (with_reducible refine (CC.out _ _ _ (skI HV9.out.i1)).mono ?_); rintro e wa ⟨g1, cap1, rfl, h1, h2, -, -, hb⟩; have HVa := Lib.hid (HV9.out.push (midT g1 L.flatten) hb h1 (fun k hk => by subst hk; exact h2)); clear h1 h2 hb; clear x0 x1 x2 x3 x4 x5 x6 y0 y1 y2 y3 y4 y5 y6 c0 c1 c2 c3 c4 d0 d1 d2 d3 d4; obtain ⟨x0, x1, x2, x3, x4, x5, x6⟩ := box7 HVa.out.i6; obtain ⟨y0, y1, y2, y3, y4, y5, y6⟩ := box7 HVa.out.i5; obtain ⟨c0, c1, c2, c3, c4⟩ := box5 HVa.out.i4; obtain ⟨d0, d1, d2, d3, d4⟩ := box5 HVa.out.i3)
    | (go_at_call 21; (with_reducible refine (ssub_nil p F1 c l L _ (skI HV8.out.i1)).mono ?_); rintro e w9 ⟨rfl, hb⟩; have HV9 := Lib.hid (HV8.out.up hb); clear hb; clear x0 x1 x2 x3 x4 x5 x6 y0 y1 y2 y3 y4 y5 y6 c0 c1 c2 c3 c4 d0 d1 d2 d3 d4; obtain ⟨x0, x1, x2, x3, x4, x5, x6⟩ := box7 HV9.out.i5; obtain ⟨y0, y1, y2, y3, y4, y5, y6⟩ := box7 HV9.out.i4; obtain ⟨c0, c1, c2, c3, c4⟩ := box5 HV9.out.i3; obtain ⟨d0, d1, d2, d3, d4⟩ := box5 HV9.out.i2)
    | (go_at_call 20; (with_reducible refine (smerge_nil p F1 c l L _ (skI HV7.out.i1)).mono ?_); rintro e w8 ⟨rfl, hb⟩; have HV8 := Lib.hid (HV7.out.up hb); clear hb; clear x0 x1 x2 x3 x4 x5 x6 y0 y1 y2 y3 y4 y5 y6 c0 c1 c2 c3 c4 d0 d1 d2 d3 d4; obtain ⟨x0, x1, x2, x3, x4, x5, x6⟩ := box7 HV8.out.i5; obtain ⟨y0, y1, y2, y3, y4, y5, y6⟩ := box7 HV8.out.i4; obtain ⟨c0, c1, c2, c3, c4⟩ := box5 HV8.out.i3; obtain ⟨d0, d1, d2, d3, d4⟩ := box5 HV8.out.i2)
    | (go_at_call 24; (with_reducible refine (DU.out _ _ _ (skI HV6.out.i0)).mono ?_); rintro e w7 ⟨rfl, G1, h1, h2, h3⟩; have HV7 := Lib.hid (HV6.out.turn_0 (skT q G1 d k M) h1 h2 h3); clear h1 h2 h3; clear x0 x1 x2 x3 x4 x5 x6 y0 y1 y2 y3 y4 y5 y6 c0 c1 c2 c3 c4 d0 d1 d2 d3 d4; obtain ⟨x0, x1, x2, x3, x4, x5, x6⟩ := box7 HV7.out.i5; obtain ⟨y0, y1, y2, y3, y4, y5, y6⟩ := box7 HV7.out.i4; obtain ⟨c0, c1, c2, c3, c4⟩ := box5 HV7.out.i3; obtain ⟨d0, d1, d2, d3, d4⟩ := box5 HV7.out.i2)
    | (go_at_call 24; (with_reducible refine (CU.out _ _ _ (skI HV5.out.i1)).mono ?_); rintro e w6 ⟨rfl, F1, h1, h2, h3⟩; have HV6 := Lib.hid (HV5.out.turn_1 (skT p F1 c l L) h1 h2 h3); clear h1 h2 h3; clear x0 x1 x2 x3 x4 x5 x6 y0 y1 y2 y3 y4 y5 y6 c0 c1 c2 c3 c4 d0 d1 d2 d3 d4; obtain ⟨x0, x1, x2, x3, x4, x5, x6⟩ := box7 HV6.out.i5; obtain ⟨y0, y1, y2, y3, y4, y5, y6⟩ := box7 HV6.out.i4; obtain ⟨c0, c1, c2, c3, c4⟩ := box5 HV6.out.i3; obtain ⟨d0, d1, d2, d3, d4⟩ := box5 HV6.out.i2)
    | (go_at_call 23; (with_reducible refine (DN.out _).mono ?_); rintro e w5 ⟨q, G, rfl, h1, h2, hb⟩; have HV5 := Lib.hid (HV4.out.push (skT q G d k (zerosL (rws d) (wds d))) hb h1 h2); clear h1 h2 hb; clear x0 x1 x2 x3 x4 x5 x6 y0 y1 y2 y3 y4 y5 y6 c0 c1 c2 c3 c4 d0 d1 d2 d3 d4; obtain ⟨x0, x1, x2, x3, x4, x5, x6⟩ := box7 HV5.out.i5; obtain ⟨y0, y1, y2, y3, y4, y5, y6⟩ := box7 HV5.out.i4; obtain ⟨c0, c1, c2, c3, c4⟩ := box5 HV5.out.i3; obtain ⟨d0, d1, d2, d3, d4⟩ := box5 HV5.out.i2)
    | (go_at_call 23; (with_reducible refine (CN.out _).mono ?_); rintro e w4 ⟨p, F, rfl, h1, h2, hb⟩; have HV4 := Lib.hid (HV3.out.push (skT p F c l (zerosL (rws c) (wds c))) hb h1 h2); clear h1 h2 hb; clear x0 x1 x2 x3 x4 x5 x6 y0 y1 y2 y3 y4 y5 y6 c0 c1 c2 c3 c4 d0 d1 d2 d3 d4; obtain ⟨x0, x1, x2, x3, x4, x5, x6⟩ := box7 HV4.out.i4; obtain ⟨y0, y1, y2, y3, y4, y5, y6⟩ := box7 HV4.out.i3; obtain ⟨c0, c1, c2, c3, c4⟩ := box5 HV4.out.i2; obtain ⟨d0, d1, d2, d3, d4⟩ := box5 HV4.out.i1)
    | (go_at_call 22; (with_reducible refine (DA.out _).mono ?_); rintro e w3 ⟨rfl, hb⟩; have HV3 := Lib.hid ((HV2.out.up hb).push (boxT w3.heap.size 24 #[.int .i64 d.bt, .int .i64 d.rw, .int .i64 d.wd, .int .i64 d.md, .int .u64 d.sd]) (Lw.below_alloc (Below.refl _ _) _) (heap_alloc_new w3 _) (fun k hk => Nat.le_of_eq hk.symm)); clear hb; clear x0 x1 x2 x3 x4 x5 x6 y0 y1 y2 y3 y4 y5 y6 c0 c1 c2 c3 c4; obtain ⟨x0, x1, x2, x3, x4, x5, x6⟩ := box7 HV3.out.i3; obtain ⟨y0, y1, y2, y3, y4, y5, y6⟩ := box7 HV3.out.i2; obtain ⟨c0, c1, c2, c3, c4⟩ := box5 HV3.out.i1; obtain ⟨d0, d1, d2, d3, d4⟩ := box5 HV3.out.i0)
    | (go_at_call 22; (with_reducible refine (CA.out _).mono ?_); rintro e w2 ⟨rfl, hb⟩; have HV2 := Lib.hid ((HV1.out.up hb).push (boxT w2.heap.size 24 #[.int .i64 c.bt, .int .i64 c.rw, .int .i64 c.wd, .int .i64 c.md, .int .u64 c.sd]) (Lw.below_alloc (Below.refl _ _) _) (heap_alloc_new w2 _) (fun k hk => Nat.le_of_eq hk.symm)); clear hb; clear x0 x1 x2 x3 x4 x5 x6 y0 y1 y2 y3 y4 y5 y6; obtain ⟨x0, x1, x2, x3, x4, x5, x6⟩ := box7 HV2.out.i2; obtain ⟨y0, y1, y2, y3, y4, y5, y6⟩ := box7 HV2.out.i1; obtain ⟨c0, c1, c2, c3, c4⟩ := box5 HV2.out.i0)
    | (go_at_call 10; (with_reducible refine (shown_any _).mono ?_); rintro e w1 ⟨rfl, hb⟩; have HV1 := Lib.hid (HBX.out.up hb); clear hb; obtain ⟨x0, x1, x2, x3, x4, x5, x6⟩ := box7 HV1.out.i1; obtain ⟨y0, y1, y2, y3, y4, y5, y6⟩ := box7 HV1.out.i0))
  all_goals go_ret
  all_goals exact ⟨ret_bs (by first | rfl | (simp [*]; done)), HVe.out.below⟩
set_option maxRecDepth 100000 in
set_option maxHeartbeats 8000000 in
theorem unl_no5 (x y : Cfg) (lv lv2 : Int) (A A2 : Option Addr) (n0 k0 n2 k2 : Nat) (w : World) (hx : x.Ok) (hy : y.Ok) (hlv : -9223372036854775808 ≤ lv ∧ lv ≤ 9223372036854775807) (hlv2 : -9223372036854775808 ≤ lv2 ∧ lv2 ≤ 9223372036854775807) (c : Cfg) (l : Int) (d : Cfg) (k : Int) (cr : IsRight c) (co : c.Ok) (cb : c.bt ≤ 8) (ck : 1 ≤ keys c l) (dr : IsRight d) (dO : d.Ok) (db : d.bt ≤ 8) (dk : 1 ≤ keys d k) (X Y : Int) (ca1 : bits .and .i64 lv 65535 = X) (ca4 : Int.tmod X (c.bt + 1) = l) (da1 : bits .and .i64 lv2 65535 = Y) (da4 : Int.tmod Y (d.bt + 1) = k) (hc : anyC x 8 9 = c) (hd : anyC y 8 9 = d) (b0 : (c.bt == d.bt) = true) (b1 : (c.rw == d.rw) = true) (b2 : (c.wd == d.wd) = true) (b3 : (c.md == d.md) = true) (b4 : (c.sd == d.sd) = true) (b5 : (l == k) = false) :
    Calls Try.prog 8 #[.agg #[.int .i64 x.bt, .int .i64 x.rw, .int .i64 x.wd, .int .i64 x.md, .int .u64 x.sd, .int .i64 lv, .slice A n0 k0], .agg #[.int .i64 y.bt, .int .i64 y.rw, .int .i64 y.wd, .int .i64 y.md, .int .u64 y.sd, .int .i64 lv2, .slice A2 n2 k2]] w fun e w' => e = .returned (.bool true) ∧ Below w.heap.size w w' := by
  have cl := (keys_pos.1 ck).2
  have c1 := cr.1
  have CA := Lib.hid (fun w => rany_at x 8 9 c w hx (by omega) (by omega) (by omega) (by omega) hc)
  have DA := Lib.hid (fun w => rany_at y 8 9 d w hy (by omega) (by omega) (by omega) (by omega) hd)
  have CN := Lib.hid (fun w => snew_yes c l w co (by omega) (by omega) ck)
  have dl := (keys_pos.1 dk).2
  have d1 := dr.1
  have DN := Lib.hid (fun w => snew_yes d k w dO (by omega) (by omega) dk)
  have dw1 : IntKind.i64.wrap (d.bt + 1) = d.bt + 1 := IntWalk.i64_in _ ⟨by omega, by omega⟩
  have dw2 : wrap64 (d.bt + 1) = d.bt + 1 := IntWalk.wrap64_in _ ⟨by omega, by omega⟩
  have dn : ¬ d.bt + 1 = 0 := by omega
  have cw1 : IntKind.i64.wrap (c.bt + 1) = c.bt + 1 := IntWalk.i64_in _ ⟨by omega, by omega⟩
  have cw2 : wrap64 (c.bt + 1) = c.bt + 1 := IntWalk.wrap64_in _ ⟨by omega, by omega⟩
  have cn : ¬ c.bt + 1 = 0 := by omega
  obtain ⟨L, hL⟩ : ∃ L, cells c l [(0, 5)] = L := ⟨_, rfl⟩
  obtain ⟨M, hM⟩ : ∃ M, cells d k [(0, 3)] = M := ⟨_, rfl⟩
  have u5 := one_up (d := 5) cr ck (by omega) (by omega)
  have u3 := one_up (d := 3) dr dk (by omega) (by omega)
  rw [hL] at u5
  rw [hM] at u3
  have CU := Lib.hid (fun p F w h => (supd_any p F c l (zerosL (rws c) (wds c)) 0 5 w h (by omega) (by omega) (by omega) (by omega)))
  rw [u5.1, u5.2] at CU
  have DU := Lib.hid (fun p F w h => (supd_any p F d k (zerosL (rws d) (wds d)) 0 3 w h (by omega) (by omega) (by omega) (by omega)))
  rw [u3.1, u3.2] at DU
  have CC := Lib.hid (fun p F w h => scells_mid p F c l L w h)
  have CM := Lib.hid (fun p F q G w h g => smerge_any p F c l L q G d k M w h g)
  have hno : ¬ (cfgE c d = true ∧ l = k) := by
    intro h
    have h1 := of_decide_eq_true h.1
    have h2 := h.2
    obtain ⟨g1, g2, g3, g4, g5⟩ := h1
    simp [g1, g2, g3, g4, g5, h2] at b5
  have CS := Lib.hid (fun p F q G w h g => ssub_any p F c l L q G d k M w h g)
  have m1 : mgCode 1 c d l k L M = 5 ∧ mgRes 1 c d l k L M = L := ⟨if_neg hno, if_neg hno⟩
  have m2 : mgCode (-1) c d l k L M = 5 ∧ mgRes (-1) c d l k L M = L := ⟨if_neg hno, if_neg hno⟩
  rw [m1.1, m1.2] at CM
  rw [m2.1, m2.2] at CS
  have FL1 : Hid (L.flatten.length = rws c * wds c) := Lib.hid (by
    rw [← hL]
    exact sz_flat (cells_sz (one_in ck (by omega) (by omega))))
  have FL2 := FL1
  have HBX : Hid (Have w ((w.alloc (.cells #[.int .i64 x.bt, .int .i64 x.rw, .int .i64 x.wd, .int .i64 x.md, .int .u64 x.sd, .int .i64 lv, .slice A n0 k0] 27)).alloc (.cells #[.int .i64 y.bt, .int .i64 y.rw, .int .i64 y.wd, .int .i64 y.md, .int .u64 y.sd, .int .i64 lv2, .slice A2 n2 k2] 27)) [boxT (w.heap.size + 1) 27 #[.int .i64 y.bt, .int .i64 y.rw, .int .i64 y.wd, .int .i64 y.md, .int .u64 y.sd, .int .i64 lv2, .slice A2 n2 k2], boxT w.heap.size 27 #[.int .i64 x.bt, .int .i64 x.rw, .int .i64 x.wd, .int .i64 x.md, .int .u64 x.sd, .int .i64 lv, .slice A n0 k0]]) := Lib.hid (two_boxs w _ _ _ _)
  have hq9 : rws c * wds c ≤ 1024 := Nat.mul_le_mul (rws_bd cr).2.1 (wds_bd cr).2.1
  obtain ⟨Q, hQ⟩ : ∃ Q, rws c * wds c = Q := ⟨_, rfl⟩
  rw [hQ] at CC FL1 FL2 hq9
  clear hL hM u5 u3 hc hd hx hy cr co ck dr dO dk hno m1 m2 hQ
  go_enter Try.func8, Try.ntmps8
  go_wp2_with (first
    | (go_at_call 14; (with_reducible refine (rsame_any _ _ _ _ _ _ _ _ _ (midI HVd.out.i0).rd (midI HVd.out.i1).rd FL2.out FL1.out (by omega) (by omega)).mono ?_); rintro e we ⟨rfl, hb⟩; have HVe := Lib.hid (HVd.out.up hb); clear hb)
    | (go_at_call 15; (with_reducible refine (CC.out _ F3 _ (skI HVc.out.i2)).mono ?_); rintro e wd ⟨g2, cap2, rfl, h1, h2, -, -, hb⟩; have HVd := Lib.hid (HVc.out.push (midT g2 L.flatten) hb h1 (fun k hk => by subst hk; exact h2)); clear h1 h2 hb)
    | (go_at_call 21; (with_reducible refine (CS.out _ _ _ _ _ (skI HVb.out.i2) (skI HVb.out.i1)).mono ?_); rintro e wc ⟨rfl, F3, h1, h2, h3⟩; have HVc := Lib.hid (HVb.out.turn_2 (skT p F3 c l L) h1 h2 h3); clear h1 h2 h3; clear x0 x1 x2 x3 x4 x5 x6 y0 y1 y2 y3 y4 y5 y6 c0 c1 c2 c3 c4 d0 d1 d2 d3 d4; obtain ⟨x0, x1, x2, x3, x4, x5, x6⟩ := box7 HVc.out.i6; obtain ⟨y0, y1, y2, y3, y4, y5, y6⟩ := box7 HVc.out.i5; obtain ⟨c0, c1, c2, c3, c4⟩ := box5 HVc.out.i4; obtain ⟨d0, d1, d2, d3, d4⟩ := box5 HVc.out.i3)
    | (go_at_call 20; (with_reducible refine (CM.out _ _ _ _ _ (skI HVa.out.i2) (skI HVa.out.i1)).mono ?_); rintro e wb ⟨rfl, F2, h1, h2, h3⟩; have HVb := Lib.hid (HVa.out.turn_2 (skT p F2 c l L) h1 h2 h3); clear h1 h2 h3; clear x0 x1 x2 x3 x4 x5 x6 y0 y1 y2 y3 y4 y5 y6 c0 c1 c2 c3 c4 d0 d1 d2 d3 d4; obtain ⟨x0, x1, x2, x3, x4, x5, x6⟩ := box7 HVb.out.i6; obtain ⟨y0, y1, y2, y3, y4, y5, y6⟩ := box7 HVb.out.i5; obtain ⟨c0, c1, c2, c3, c4⟩ := box5 HVb.out.i4; obtain ⟨d0, d1, d2, d3, d4⟩ := box5 HVb.out.i3)
    | (go_at_call 15; (with_reducible refine (CC.out _ _ _ (skI HV9.out.i1)).mono ?_); rintro e wa ⟨g1, cap1, rfl, h1, h2, -, -, hb⟩; have HVa := Lib.hid (HV9.out.push (midT g1 L.flatten) hb h1 (fun k hk => by subst hk; exact h2)); clear h1 h2 hb; clear x0 x1 x2 x3 x4 x5 x6 y0 y1 y2 y3 y4 y5 y6 c0 c1 c2 c3 c4 d0 d1 d2 d3 d4; obtain ⟨x0, x1, x2, x3, x4, x5, x6⟩ := box7 HVa.out.i6; obtain ⟨y0, y1, y2, y3, y4, y5, y6⟩ := box7 HVa.out.i5; obtain ⟨c0, c1, c2, c3, c4⟩ := box5 HVa.out.i4; obtain ⟨d0, d1, d2, d3, d4⟩ := box5 HVa.out.i3)
    | (go_at_call 21; (with_reducible refine (ssub_nil p F1 c l L _ (skI HV8.out.i1)).mono ?_); rintro e w9 ⟨rfl, hb⟩; have HV9 := Lib.hid (HV8.out.up hb); clear hb; clear x0 x1 x2 x3 x4 x5 x6 y0 y1 y2 y3 y4 y5 y6 c0 c1 c2 c3 c4 d0 d1 d2 d3 d4; obtain ⟨x0, x1, x2, x3, x4, x5, x6⟩ := box7 HV9.out.i5; obtain ⟨y0, y1, y2, y3, y4, y5, y6⟩ := box7 HV9.out.i4; obtain ⟨c0, c1, c2, c3, c4⟩ := box5 HV9.out.i3; obtain ⟨d0, d1, d2, d3, d4⟩ := box5 HV9.out.i2)
    | (go_at_call 20; (with_reducible refine (smerge_nil p F1 c l L _ (skI HV7.out.i1)).mono ?_); rintro e w8 ⟨rfl, hb⟩; have HV8 := Lib.hid (HV7.out.up hb); clear hb; clear x0 x1 x2 x3 x4 x5 x6 y0 y1 y2 y3 y4 y5 y6 c0 c1 c2 c3 c4 d0 d1 d2 d3 d4; obtain ⟨x0, x1, x2, x3, x4, x5, x6⟩ := box7 HV8.out.i5; obtain ⟨y0, y1, y2, y3, y4, y5, y6⟩ := box7 HV8.out.i4; obtain ⟨c0, c1, c2, c3, c4⟩ := box5 HV8.out.i3; obtain ⟨d0, d1, d2, d3, d4⟩ := box5 HV8.out.i2)
    | (go_at_call 24; (with_reducible refine (DU.out _ _ _ (skI HV6.out.i0)).mono ?_); rintro e w7 ⟨rfl, G1, h1, h2, h3⟩; have HV7 := Lib.hid (HV6.out.turn_0 (skT q G1 d k M) h1 h2 h3); clear h1 h2 h3; clear x0 x1 x2 x3 x4 x5 x6 y0 y1 y2 y3 y4 y5 y6 c0 c1 c2 c3 c4 d0 d1 d2 d3 d4; obtain ⟨x0, x1, x2, x3, x4, x5, x6⟩ := box7 HV7.out.i5; obtain ⟨y0, y1, y2, y3, y4, y5, y6⟩ := box7 HV7.out.i4; obtain ⟨c0, c1, c2, c3, c4⟩ := box5 HV7.out.i3; obtain ⟨d0, d1, d2, d3, d4⟩ := box5 HV7.out.i2)
    | (go_at_call 24; (with_reducible refine (CU.out _ _ _ (skI HV5.out.i1)).mono ?_); rintro e w6 ⟨rfl, F1, h1, h2, h3⟩; have HV6 := Lib.hid (HV5.out.turn_1 (skT p F1 c l L) h1 h2 h3); clear h1 h2 h3; clear x0 x1 x2 x3 x4 x5 x6 y0 y1 y2 y3 y4 y5 y6 c0 c1 c2 c3 c4 d0 d1 d2 d3 d4; obtain ⟨x0, x1, x2, x3, x4, x5, x6⟩ := box7 HV6.out.i5; obtain ⟨y0, y1, y2, y3, y4, y5, y6⟩ := box7 HV6.out.i4; obtain ⟨c0, c1, c2, c3, c4⟩ := box5 HV6.out.i3; obtain ⟨d0, d1, d2, d3, d4⟩ := box5 HV6.out.i2)
    | (go_at_call 23; (with_reducible refine (DN.out _).mono ?_); rintro e w5 ⟨q, G, rfl, h1, h2, hb⟩; have HV5 := Lib.hid (HV4.out.push (skT q G d k (zerosL (rws d) (wds d))) hb h1 h2); clear h1 h2 hb; clear x0 x1 x2 x3 x4 x5 x6 y0 y1 y2 y3 y4 y5 y6 c0 c1 c2 c3 c4 d0 d1 d2 d3 d4; obtain ⟨x0, x1, x2, x3, x4, x5, x6⟩ := box7 HV5.out.i5; obtain ⟨y0, y1, y2, y3, y4, y5, y6⟩ := box7 HV5.out.i4; obtain ⟨c0, c1, c2, c3, c4⟩ := box5 HV5.out.i3; obtain ⟨d0, d1, d2, d3, d4⟩ := box5 HV5.out.i2)
    | (go_at_call 23; (with_reducible refine (CN.out _).mono ?_); rintro e w4 ⟨p, F, rfl, h1, h2, hb⟩; have HV4 := Lib.hid (HV3.out.push (skT p F c l (zerosL (rws c) (wds c))) hb h1 h2); clear h1 h2 hb; clear x0 x1 x2 x3 x4 x5 x6 y0 y1 y2 y3 y4 y5 y6 c0 c1 c2 c3 c4 d0 d1 d2 d3 d4; obtain ⟨x0, x1, x2, x3, x4, x5, x6⟩ := box7 HV4.out.i4; obtain ⟨y0, y1, y2, y3, y4, y5, y6⟩ := box7 HV4.out.i3; obtain ⟨c0, c1, c2, c3, c4⟩ := box5 HV4.out.i2; obtain ⟨d0, d1, d2, d3, d4⟩ := box5 HV4.out.i1)
    | (go_at_call 22; (with_reducible refine (DA.out _).mono ?_); rintro e w3 ⟨rfl, hb⟩; have HV3 := Lib.hid ((HV2.out.up hb).push (boxT w3.heap.size 24 #[.int .i64 d.bt, .int .i64 d.rw, .int .i64 d.wd, .int .i64 d.md, .int .u64 d.sd]) (Lw.below_alloc (Below.refl _ _) _) (heap_alloc_new w3 _) (fun k hk => Nat.le_of_eq hk.symm)); clear hb; clear x0 x1 x2 x3 x4 x5 x6 y0 y1 y2 y3 y4 y5 y6 c0 c1 c2 c3 c4; obtain ⟨x0, x1, x2, x3, x4, x5, x6⟩ := box7 HV3.out.i3; obtain ⟨y0, y1, y2, y3, y4, y5, y6⟩ := box7 HV3.out.i2; obtain ⟨c0, c1, c2, c3, c4⟩ := box5 HV3.out.i1; obtain ⟨d0, d1, d2, d3, d4⟩ := box5 HV3.out.i0)
    | (go_at_call 22; (with_reducible refine (CA.out _).mono ?_); rintro e w2 ⟨rfl, hb⟩; have HV2 := Lib.hid ((HV1.out.up hb).push (boxT w2.heap.size 24 #[.int .i64 c.bt, .int .i64 c.rw, .int .i64 c.wd, .int .i64 c.md, .int .u64 c.sd]) (Lw.below_alloc (Below.refl _ _) _) (heap_alloc_new w2 _) (fun k hk => Nat.le_of_eq hk.symm)); clear hb; clear x0 x1 x2 x3 x4 x5 x6 y0 y1 y2 y3 y4 y5 y6; obtain ⟨x0, x1, x2, x3, x4, x5, x6⟩ := box7 HV2.out.i2; obtain ⟨y0, y1, y2, y3, y4, y5, y6⟩ := box7 HV2.out.i1; obtain ⟨c0, c1, c2, c3, c4⟩ := box5 HV2.out.i0)
    | (go_at_call 10; (with_reducible refine (shown_any _).mono ?_); rintro e w1 ⟨rfl, hb⟩; have HV1 := Lib.hid (HBX.out.up hb); clear hb; obtain ⟨x0, x1, x2, x3, x4, x5, x6⟩ := box7 HV1.out.i1; obtain ⟨y0, y1, y2, y3, y4, y5, y6⟩ := box7 HV1.out.i0))
  all_goals go_ret
  all_goals exact ⟨ret_bs (by first | rfl | (simp [*]; done)), HVe.out.below⟩
set_option maxRecDepth 100000 in
set_option maxHeartbeats 8000000 in
theorem unl_yes (x y : Cfg) (lv lv2 : Int) (A A2 : Option Addr) (n0 k0 n2 k2 : Nat) (w : World) (hx : x.Ok) (hy : y.Ok) (hlv : -9223372036854775808 ≤ lv ∧ lv ≤ 9223372036854775807) (hlv2 : -9223372036854775808 ≤ lv2 ∧ lv2 ≤ 9223372036854775807) (c : Cfg) (l : Int) (cr : IsRight c) (co : c.Ok) (cb : c.bt ≤ 8) (ck : 1 ≤ keys c l) (X Y : Int) (ca1 : bits .and .i64 lv 65535 = X) (ca4 : Int.tmod X (c.bt + 1) = l) (da1 : bits .and .i64 lv2 65535 = Y) (da4 : Int.tmod Y (c.bt + 1) = l) (hc : anyC x 8 9 = c) (hd : anyC y 8 9 = c)  :
    Calls Try.prog 8 #[.agg #[.int .i64 x.bt, .int .i64 x.rw, .int .i64 x.wd, .int .i64 x.md, .int .u64 x.sd, .int .i64 lv, .slice A n0 k0], .agg #[.int .i64 y.bt, .int .i64 y.rw, .int .i64 y.wd, .int .i64 y.md, .int .u64 y.sd, .int .i64 lv2, .slice A2 n2 k2]] w fun e w' => e = .returned (.bool true) ∧ Below w.heap.size w w' := by
  have cl := (keys_pos.1 ck).2
  have c1 := cr.1
  have CA := Lib.hid (fun w => rany_at x 8 9 c w hx (by omega) (by omega) (by omega) (by omega) hc)
  have DA := Lib.hid (fun w => rany_at y 8 9 c w hy (by omega) (by omega) (by omega) (by omega) hd)
  have CN := Lib.hid (fun w => snew_yes c l w co (by omega) (by omega) ck)
  have DN := CN
  have cw1 : IntKind.i64.wrap (c.bt + 1) = c.bt + 1 := IntWalk.i64_in _ ⟨by omega, by omega⟩
  have cw2 : wrap64 (c.bt + 1) = c.bt + 1 := IntWalk.wrap64_in _ ⟨by omega, by omega⟩
  have cn : ¬ c.bt + 1 = 0 := by omega
  obtain ⟨L, hL⟩ : ∃ L, cells c l [(0, 5)] = L := ⟨_, rfl⟩
  obtain ⟨M, hM⟩ : ∃ M, cells c l [(0, 3)] = M := ⟨_, rfl⟩
  have u5 := one_up (d := 5) cr ck (by omega) (by omega)
  have u3 := one_up (d := 3) cr ck (by omega) (by omega)
  rw [hL] at u5
  rw [hM] at u3
  have CU := Lib.hid (fun p F w h => (supd_any p F c l (zerosL (rws c) (wds c)) 0 5 w h (by omega) (by omega) (by omega) (by omega)))
  rw [u5.1, u5.2] at CU
  have DU := Lib.hid (fun p F w h => (supd_any p F c l (zerosL (rws c) (wds c)) 0 3 w h (by omega) (by omega) (by omega) (by omega)))
  rw [u3.1, u3.2] at DU
  have CC := Lib.hid (fun p F w h => scells_mid p F c l L w h)
  have CM := Lib.hid (fun p F q G w h g => smerge_any p F c l L q G c l M w h g)
  have hmg := one_merge (c := c) (l := l) (a := 5) (b := 3) ck (by omega) (by omega) (by omega) (by omega)
  rw [hL, hM] at hmg
  rw [hmg.1] at CM
  obtain ⟨R1, hR1⟩ : ∃ R1, mgRes 1 c c l l L M = R1 := ⟨_, rfl⟩
  rw [hR1] at CM hmg
  have hne : decide (R1.flatten = L.flatten) = false := decide_eq_false hmg.2
  have CR := Lib.hid (fun p F w h => scells_mid p F c l R1 w h)
  have FL2 : Hid (R1.flatten.length = rws c * wds c) := Lib.hid (by
    rw [← hR1, ← hL, ← hM]
    exact one_flat ck (by omega) (by omega) (by omega) (by omega))
  have FL1 : Hid (L.flatten.length = rws c * wds c) := Lib.hid (by
    rw [← hL]
    exact sz_flat (cells_sz (one_in ck (by omega) (by omega))))
  have HBX : Hid (Have w ((w.alloc (.cells #[.int .i64 x.bt, .int .i64 x.rw, .int .i64 x.wd, .int .i64 x.md, .int .u64 x.sd, .int .i64 lv, .slice A n0 k0] 27)).alloc (.cells #[.int .i64 y.bt, .int .i64 y.rw, .int .i64 y.wd, .int .i64 y.md, .int .u64 y.sd, .int .i64 lv2, .slice A2 n2 k2] 27)) [boxT (w.heap.size + 1) 27 #[.int .i64 y.bt, .int .i64 y.rw, .int .i64 y.wd, .int .i64 y.md, .int .u64 y.sd, .int .i64 lv2, .slice A2 n2 k2], boxT w.heap.size 27 #[.int .i64 x.bt, .int .i64 x.rw, .int .i64 x.wd, .int .i64 x.md, .int .u64 x.sd, .int .i64 lv, .slice A n0 k0]]) := Lib.hid (two_boxs w _ _ _ _)
  have hq9 : rws c * wds c ≤ 1024 := Nat.mul_le_mul (rws_bd cr).2.1 (wds_bd cr).2.1
  obtain ⟨Q, hQ⟩ : ∃ Q, rws c * wds c = Q := ⟨_, rfl⟩
  rw [hQ] at CC FL1 FL2 hq9 CR
  clear hL hM u5 u3 hc hd hx hy cr co ck hmg hR1 hQ
  go_enter Try.func8, Try.ntmps8
  go_wp2_with (first
    | (go_at_call 14; (with_reducible refine (rsame_any _ _ _ _ _ _ _ _ _ (midI HVd.out.i0).rd (midI HVd.out.i1).rd FL2.out FL1.out (by omega) (by omega)).mono ?_); rintro e we ⟨rfl, hb⟩; have HVe := Lib.hid (HVd.out.up hb); clear hb)
    | (go_at_call 15; (with_reducible refine (CR.out _ F2 _ (skI HVb.out.i2)).mono ?_); rintro e wd ⟨g2, cap2, rfl, h1, h2, -, -, hb⟩; have HVd := Lib.hid (HVb.out.push (midT g2 R1.flatten) hb h1 (fun k hk => by subst hk; exact h2)); clear h1 h2 hb)
    | (go_at_call 20; (with_reducible refine (CM.out _ _ _ _ _ (skI HVa.out.i2) (skI HVa.out.i1)).mono ?_); rintro e wb ⟨rfl, F2, h1, h2, h3⟩; have HVb := Lib.hid (HVa.out.turn_2 (skT p F2 c l R1) h1 h2 h3); clear h1 h2 h3; clear x0 x1 x2 x3 x4 x5 x6 y0 y1 y2 y3 y4 y5 y6 c0 c1 c2 c3 c4 d0 d1 d2 d3 d4; obtain ⟨x0, x1, x2, x3, x4, x5, x6⟩ := box7 HVb.out.i6; obtain ⟨y0, y1, y2, y3, y4, y5, y6⟩ := box7 HVb.out.i5; obtain ⟨c0, c1, c2, c3, c4⟩ := box5 HVb.out.i4; obtain ⟨d0, d1, d2, d3, d4⟩ := box5 HVb.out.i3)
    | (go_at_call 15; (with_reducible refine (CC.out _ _ _ (skI HV9.out.i1)).mono ?_); rintro e wa ⟨g1, cap1, rfl, h1, h2, -, -, hb⟩; have HVa := Lib.hid (HV9.out.push (midT g1 L.flatten) hb h1 (fun k hk => by subst hk; exact h2)); clear h1 h2 hb; clear x0 x1 x2 x3 x4 x5 x6 y0 y1 y2 y3 y4 y5 y6 c0 c1 c2 c3 c4 d0 d1 d2 d3 d4; obtain ⟨x0, x1, x2, x3, x4, x5, x6⟩ := box7 HVa.out.i6; obtain ⟨y0, y1, y2, y3, y4, y5, y6⟩ := box7 HVa.out.i5; obtain ⟨c0, c1, c2, c3, c4⟩ := box5 HVa.out.i4; obtain ⟨d0, d1, d2, d3, d4⟩ := box5 HVa.out.i3)
    | (go_at_call 21; (with_reducible refine (ssub_nil p F1 c l L _ (skI HV8.out.i1)).mono ?_); rintro e w9 ⟨rfl, hb⟩; have HV9 := Lib.hid (HV8.out.up hb); clear hb; clear x0 x1 x2 x3 x4 x5 x6 y0 y1 y2 y3 y4 y5 y6 c0 c1 c2 c3 c4 d0 d1 d2 d3 d4; obtain ⟨x0, x1, x2, x3, x4, x5, x6⟩ := box7 HV9.out.i5; obtain ⟨y0, y1, y2, y3, y4, y5, y6⟩ := box7 HV9.out.i4; obtain ⟨c0, c1, c2, c3, c4⟩ := box5 HV9.out.i3; obtain ⟨d0, d1, d2, d3, d4⟩ := box5 HV9.out.i2)
    | (go_at_call 20; (with_reducible refine (smerge_nil p F1 c l L _ (skI HV7.out.i1)).mono ?_); rintro e w8 ⟨rfl, hb⟩; have HV8 := Lib.hid (HV7.out.up hb); clear hb; clear x0 x1 x2 x3 x4 x5 x6 y0 y1 y2 y3 y4 y5 y6 c0 c1 c2 c3 c4 d0 d1 d2 d3 d4; obtain ⟨x0, x1, x2, x3, x4, x5, x6⟩ := box7 HV8.out.i5; obtain ⟨y0, y1, y2, y3, y4, y5, y6⟩ := box7 HV8.out.i4; obtain ⟨c0, c1, c2, c3, c4⟩ := box5 HV8.out.i3; obtain ⟨d0, d1, d2, d3, d4⟩ := box5 HV8.out.i2)
    | (go_at_call 24; (with_reducible refine (DU.out _ _ _ (skI HV6.out.i0)).mono ?_); rintro e w7 ⟨rfl, G1, h1, h2, h3⟩; have HV7 := Lib.hid (HV6.out.turn_0 (skT q G1 c l M) h1 h2 h3); clear h1 h2 h3; clear x0 x1 x2 x3 x4 x5 x6 y0 y1 y2 y3 y4 y5 y6 c0 c1 c2 c3 c4 d0 d1 d2 d3 d4; obtain ⟨x0, x1, x2, x3, x4, x5, x6⟩ := box7 HV7.out.i5; obtain ⟨y0, y1, y2, y3, y4, y5, y6⟩ := box7 HV7.out.i4; obtain ⟨c0, c1, c2, c3, c4⟩ := box5 HV7.out.i3; obtain ⟨d0, d1, d2, d3, d4⟩ := box5 HV7.out.i2)
    | (go_at_call 24; (with_reducible refine (CU.out _ _ _ (skI HV5.out.i1)).mono ?_); rintro e w6 ⟨rfl, F1, h1, h2, h3⟩; have HV6 := Lib.hid (HV5.out.turn_1 (skT p F1 c l L) h1 h2 h3); clear h1 h2 h3; clear x0 x1 x2 x3 x4 x5 x6 y0 y1 y2 y3 y4 y5 y6 c0 c1 c2 c3 c4 d0 d1 d2 d3 d4; obtain ⟨x0, x1, x2, x3, x4, x5, x6⟩ := box7 HV6.out.i5; obtain ⟨y0, y1, y2, y3, y4, y5, y6⟩ := box7 HV6.out.i4; obtain ⟨c0, c1, c2, c3, c4⟩ := box5 HV6.out.i3; obtain ⟨d0, d1, d2, d3, d4⟩ := box5 HV6.out.i2)
    | (go_at_call 23; (with_reducible refine (DN.out _).mono ?_); rintro e w5 ⟨q, G, rfl, h1, h2, hb⟩; have HV5 := Lib.hid (HV4.out.push (skT q G c l (zerosL (rws c) (wds c))) hb h1 h2); clear h1 h2 hb; clear x0 x1 x2 x3 x4 x5 x6 y0 y1 y2 y3 y4 y5 y6 c0 c1 c2 c3 c4 d0 d1 d2 d3 d4; obtain ⟨x0, x1, x2, x3, x4, x5, x6⟩ := box7 HV5.out.i5; obtain ⟨y0, y1, y2, y3, y4, y5, y6⟩ := box7 HV5.out.i4; obtain ⟨c0, c1, c2, c3, c4⟩ := box5 HV5.out.i3; obtain ⟨d0, d1, d2, d3, d4⟩ := box5 HV5.out.i2)
    | (go_at_call 23; (with_reducible refine (CN.out _).mono ?_); rintro e w4 ⟨p, F, rfl, h1, h2, hb⟩; have HV4 := Lib.hid (HV3.out.push (skT p F c l (zerosL (rws c) (wds c))) hb h1 h2); clear h1 h2 hb; clear x0 x1 x2 x3 x4 x5 x6 y0 y1 y2 y3 y4 y5 y6 c0 c1 c2 c3 c4 d0 d1 d2 d3 d4; obtain ⟨x0, x1, x2, x3, x4, x5, x6⟩ := box7 HV4.out.i4; obtain ⟨y0, y1, y2, y3, y4, y5, y6⟩ := box7 HV4.out.i3; obtain ⟨c0, c1, c2, c3, c4⟩ := box5 HV4.out.i2; obtain ⟨d0, d1, d2, d3, d4⟩ := box5 HV4.out.i1)
    | (go_at_call 22; (with_reducible refine (DA.out _).mono ?_); rintro e w3 ⟨rfl, hb⟩; have HV3 := Lib.hid ((HV2.out.up hb).push (boxT w3.heap.size 24 #[.int .i64 c.bt, .int .i64 c.rw, .int .i64 c.wd, .int .i64 c.md, .int .u64 c.sd]) (Lw.below_alloc (Below.refl _ _) _) (heap_alloc_new w3 _) (fun k hk => Nat.le_of_eq hk.symm)); clear hb; clear x0 x1 x2 x3 x4 x5 x6 y0 y1 y2 y3 y4 y5 y6 c0 c1 c2 c3 c4; obtain ⟨x0, x1, x2, x3, x4, x5, x6⟩ := box7 HV3.out.i3; obtain ⟨y0, y1, y2, y3, y4, y5, y6⟩ := box7 HV3.out.i2; obtain ⟨c0, c1, c2, c3, c4⟩ := box5 HV3.out.i1; obtain ⟨d0, d1, d2, d3, d4⟩ := box5 HV3.out.i0)
    | (go_at_call 22; (with_reducible refine (CA.out _).mono ?_); rintro e w2 ⟨rfl, hb⟩; have HV2 := Lib.hid ((HV1.out.up hb).push (boxT w2.heap.size 24 #[.int .i64 c.bt, .int .i64 c.rw, .int .i64 c.wd, .int .i64 c.md, .int .u64 c.sd]) (Lw.below_alloc (Below.refl _ _) _) (heap_alloc_new w2 _) (fun k hk => Nat.le_of_eq hk.symm)); clear hb; clear x0 x1 x2 x3 x4 x5 x6 y0 y1 y2 y3 y4 y5 y6; obtain ⟨x0, x1, x2, x3, x4, x5, x6⟩ := box7 HV2.out.i2; obtain ⟨y0, y1, y2, y3, y4, y5, y6⟩ := box7 HV2.out.i1; obtain ⟨c0, c1, c2, c3, c4⟩ := box5 HV2.out.i0)
    | (go_at_call 10; (with_reducible refine (shown_any _).mono ?_); rintro e w1 ⟨rfl, hb⟩; have HV1 := Lib.hid (HBX.out.up hb); clear hb; obtain ⟨x0, x1, x2, x3, x4, x5, x6⟩ := box7 HV1.out.i1; obtain ⟨y0, y1, y2, y3, y4, y5, y6⟩ := box7 HV1.out.i0))
  all_goals go_ret
  all_goals exact ⟨ret_bs (by first | rfl | (simp [*]; done)), HVe.out.below⟩
theorem unlike_law (x y : Cfg) (lv lv2 : Int) (A A2 : Option Addr) (n0 k0 n2 k2 : Nat) (w : World) (hx : x.Ok) (hy : y.Ok) (hlv : -9223372036854775808 ≤ lv ∧ lv ≤ 9223372036854775807) (hlv2 : -9223372036854775808 ≤ lv2 ∧ lv2 ≤ 9223372036854775807) :
    Calls Try.prog 8 #[.agg #[.int .i64 x.bt, .int .i64 x.rw, .int .i64 x.wd, .int .i64 x.md, .int .u64 x.sd, .int .i64 lv, .slice A n0 k0], .agg #[.int .i64 y.bt, .int .i64 y.rw, .int .i64 y.wd, .int .i64 y.md, .int .u64 y.sd, .int .i64 lv2, .slice A2 n2 k2]] w fun e w' => e = .returned (.bool true) ∧ Below w.heap.size w w' := by
  obtain ⟨c, hc⟩ : ∃ c, anyC x 8 9 = c := ⟨_, rfl⟩
  have cr := any_right x 8 9 (by omega) (by omega) (by omega) (by omega)
  have co := any_ok x hx 8 9 (by omega) (by omega) (by omega) (by omega)
  have cb : c.bt ≤ 8 := by
    have h1 := Int.emod_lt_of_pos (x.bt % 65536) (show (0 : Int) < 8 by omega)
    rw [← hc]
    show 1 + x.bt % 65536 % 8 ≤ 8
    omega
  rw [hc] at cr co
  have c1 := cr.1
  obtain ⟨X, l, ca1, ca2, ca3, ca4, ca5, ca6⟩ := level_of lv (c.bt + 1) (by omega) (by omega)
  have ck : 1 ≤ keys c l := keys_pos.2 ⟨cr, by omega, by omega⟩
  have cw1 : IntKind.i64.wrap (c.bt + 1) = c.bt + 1 := IntWalk.i64_in _ ⟨by omega, by omega⟩
  have cw2 : wrap64 (c.bt + 1) = c.bt + 1 := IntWalk.wrap64_in _ ⟨by omega, by omega⟩
  have cn : ¬ c.bt + 1 = 0 := by omega
  obtain ⟨d, hd⟩ : ∃ d, anyC y 8 9 = d := ⟨_, rfl⟩
  have dr := any_right y 8 9 (by omega) (by omega) (by omega) (by omega)
  have dO := any_ok y hy 8 9 (by omega) (by omega) (by omega) (by omega)
  have db : d.bt ≤ 8 := by
    have h1 := Int.emod_lt_of_pos (y.bt % 65536) (show (0 : Int) < 8 by omega)
    rw [← hd]
    show 1 + y.bt % 65536 % 8 ≤ 8
    omega
  rw [hd] at dr dO
  have d1 := dr.1
  obtain ⟨Y, k, da1, da2, da3, da4, da5, da6⟩ := level_of lv2 (d.bt + 1) (by omega) (by omega)
  have dk : 1 ≤ keys d k := keys_pos.2 ⟨dr, by omega, by omega⟩
  have dw1 : IntKind.i64.wrap (d.bt + 1) = d.bt + 1 := IntWalk.i64_in _ ⟨by omega, by omega⟩
  have dw2 : wrap64 (d.bt + 1) = d.bt + 1 := IntWalk.wrap64_in _ ⟨by omega, by omega⟩
  have dn : ¬ d.bt + 1 = 0 := by omega
  have bt : ∀ {a b : Int}, a = b → (a == b) = true := fun h => by simp [h]
  have bf : ∀ {a b : Int}, ¬ a = b → (a == b) = false := fun h => by simp [h]
  by_cases g0 : c.bt = d.bt
  · by_cases g1 : c.rw = d.rw
    · by_cases g2 : c.wd = d.wd
      · by_cases g3 : c.md = d.md
        · by_cases g4 : c.sd = d.sd
          · by_cases g5 : l = k
            · have e : c = d := by cases c; cases d; simp_all
              subst e
              subst g5
              exact unl_yes x y lv lv2 A A2 n0 k0 n2 k2 w hx hy hlv hlv2 c l cr co cb ck X Y ca1 ca4 da1 da4 hc hd
            · exact unl_no5 x y lv lv2 A A2 n0 k0 n2 k2 w hx hy hlv hlv2 c l d k cr co cb ck dr dO db dk X Y ca1 ca4 da1 da4 hc hd (bt g0) (bt g1) (bt g2) (bt g3) (bt g4) (bf g5)
          · exact unl_no4 x y lv lv2 A A2 n0 k0 n2 k2 w hx hy hlv hlv2 c l d k cr co cb ck dr dO db dk X Y ca1 ca4 da1 da4 hc hd (bt g0) (bt g1) (bt g2) (bt g3) (bf g4)
        · exact unl_no3 x y lv lv2 A A2 n0 k0 n2 k2 w hx hy hlv hlv2 c l d k cr co cb ck dr dO db dk X Y ca1 ca4 da1 da4 hc hd (bt g0) (bt g1) (bt g2) (bf g3)
      · exact unl_no2 x y lv lv2 A A2 n0 k0 n2 k2 w hx hy hlv hlv2 c l d k cr co cb ck dr dO db dk X Y ca1 ca4 da1 da4 hc hd (bt g0) (bt g1) (bf g2)
    · exact unl_no1 x y lv lv2 A A2 n0 k0 n2 k2 w hx hy hlv hlv2 c l d k cr co cb ck dr dO db dk X Y ca1 ca4 da1 da4 hc hd (bt g0) (bf g1)
  · exact unl_no0 x y lv lv2 A A2 n0 k0 n2 k2 w hx hy hlv hlv2 c l d k cr co cb ck dr dO db dk X Y ca1 ca4 da1 da4 hc hd (bf g0)
namespace sketchUnlike
open Go.ChangeShapes Go.WideShapes Go.ChangeAt Go.Joins
set_option maxRecDepth 100000 in
theorem lifted (os : Os) (started : os.Started) (H : Type) (enc : TypeId × Value → H) :
    ReturnsInHanded {} Try.checked os 8 .any (Rows.sketchUnlikeSpec.pre6 enc Try.prog Try.f8 Rows.sketchUnlikeRow.domain false) (Rows.sketchUnlikeSpec.post enc Try.prog Try.f8 false true false false) := by
  refine Lw.lifted (C := Try.checked) (B := 4) (by kernel_rfl) os started (by kernel_rfl) Try.func8
    (ChangeSpec.witness6 (enc := enc) (C := Try.checked) false ⟨#[], #[.agg #[.int .i64 0, .int .i64 0, .int .i64 0, .int .i64 0, .int .u64 0, .int .i64 0, .slice none 0 0], .agg #[.int .i64 0, .int .i64 0, .int .i64 0, .int .i64 0, .int .u64 0, .int .i64 0, .slice none 0 0]], []⟩ 8 (by kernel_rfl) (by kernel_rfl) (by kernel_rfl) (by kernel_rfl)) rfl Try.underlying4 (by kernel_rfl) (by kernel_rfl) (by kernel_rfl) ?_ ?_
  · intro ds h
    rw [Try.params8] at h
    match ds, h with
    | [_, _], _ => rfl
  · intro W base args ds p hval hA
    rw [Try.params8] at hA hval
    obtain ⟨v0, vs0, d0, ds0, p0, q0, hargs, rfl, rfl, h0, r0⟩ := trodAll_cons hA
    obtain ⟨v1, vs1, d1, ds1, p1, q1, rfl, rfl, rfl, h1, r1⟩ := trodAll_cons r0
    obtain ⟨rfl, rfl, rfl⟩ := trodAll_nil r1
    obtain rfl : args = #[v0, v1] := by cases args; simp_all
    obtain ⟨x0, lv0, A0, n0, k0, qs0, rfl, hx0, hlv0, hq0⟩ := open_playS (hval 0 27 v0 rfl rfl) h0
    obtain ⟨x1, lv1, A1, n1, k1, qs1, rfl, hx1, hlv1, hq1⟩ := open_playS (hval 1 27 v1 rfl rfl) h1
    exact unlike_law x0 x1 lv0 lv1 A0 A1 n0 k0 n1 k1 W hx0 hx1 hlv0 hlv1
theorem over : Rows.sketchUnlikeRow.holds Try.pinned (OpenSpec.ofChange Rows.sketchUnlikeSpec) :=
  OpenClaim.holds_of_wide 8 Try.f8 rfl rfl rfl rfl rfl rfl rfl ⟨rfl, rfl, rfl, rfl, rfl⟩ rfl rfl rfl rfl rfl (by kernel_rfl) Try.func8 (by kernel_rfl)
    (of_decide_eq_true (by kernel_rfl)) (by unfold Func.isWrapper; first | (rw [if_pos (by decide +kernel)]; kernel_rfl) | (rw [if_neg (by decide +kernel)]; exact ⟨rfl, rfl⟩))
    (fun os started H enc _ => lifted os started H enc)
theorem proved : Rows.SketchUnlikeSaid :=
  over
#print axioms proved
end sketchUnlike
end Go.Proofs.Ytahgkiceifblmaa.Sk
