/- The statement InnerUnlike of layer 11 holds: sketches of unlike configs or levels have no product, nor has one with none; of one mode but Linear there is none. Printed by wip/gen/innlaws.py. -/
import Derived.Test.YthecgkgnngpikaaMi
import Derived.Deep.LoopGhost
import Derived.Deep.RegionHeld3
import Derived.Deep.DeepCutAuto
import Derived.Deep.QuietTactic
import Derived.BigQuiet
namespace Go.Proofs.Ythecgkgnngpikaa.Inn
open Go Go.RowKit Lw Grd Lin Con Shp Sk
set_option linter.unusedVariables false
set_option linter.unusedSimpArgs false
set_option maxRecDepth 100000 in
set_option maxHeartbeats 8000000 in
theorem unl_no0 (x y : Cfg) (lv lv2 : Int) (w : World) (hx : x.Ok) (hy : y.Ok) (hlv : -9223372036854775808 ≤ lv ∧ lv ≤ 9223372036854775807) (hlv2 : -9223372036854775808 ≤ lv2 ∧ lv2 ≤ 9223372036854775807) (c : Cfg) (l : Int) (d : Cfg) (k : Int) (cr : IsRight c) (co : c.Ok) (cb : c.bt ≤ 8) (ck : 1 ≤ keys c l) (dr : IsRight d) (dO : d.Ok) (db : d.bt ≤ 8) (dk : 1 ≤ keys d k) (X Y : Int) (ca1 : bits .and .i64 lv 65535 = X) (ca4 : Int.tmod X (c.bt + 1) = l) (da1 : bits .and .i64 lv2 65535 = Y) (da4 : Int.tmod Y (d.bt + 1) = k) (hc : anyC x 8 9 = c) (hd : anyC y 8 9 = d)  (b0 : (c.bt == d.bt) = false) :
    Calls Try.prog 8 #[.agg #[.int .i64 x.bt, .int .i64 x.rw, .int .i64 x.wd, .int .i64 x.md, .int .u64 x.sd], .agg #[.int .i64 y.bt, .int .i64 y.rw, .int .i64 y.wd, .int .i64 y.md, .int .u64 y.sd], .agg #[.int .i64 lv, .int .i64 lv2]] w fun e w' => e = .returned (.bool true) ∧ Below w.heap.size w w' := by
  have cl := (keys_pos.1 ck).2
  have c1 := cr.1
  have CA := Lib.hid (fun w => rany_at x 8 9 c w hx (by omega) (by omega) (by omega) (by omega) hc)
  have DA := Lib.hid (fun w => rany_at y 8 9 d w hy (by omega) (by omega) (by omega) (by omega) hd)
  have CN := Lib.hid (fun w => snew_yes c l w co (by omega) (by omega) ck)
  have dl := (keys_pos.1 dk).2
  have d1 := dr.1
  have DN := Lib.hid (fun w => snew_yes d k w dO (by omega) (by omega) dk)
  have dw1 : IntKind.i64.wrap (d.bt + 1) = d.bt + 1 := IntWalk.i64_in _ ⟨by omega, by omega⟩
  have dw2 : wrap64 (d.bt + 1) = d.bt + 1 := IntWalk.wrap64_in _ ⟨by omega, by omega⟩
  have dn : ¬ d.bt + 1 = 0 := by omega
  have hno : ¬ (cfgE c d = true ∧ l = k) := by
    intro h
    have h1 := of_decide_eq_true h.1
    have h2 := h.2
    obtain ⟨g1, g2, g3, g4, g5⟩ := h1
    simp [g1, g2, g3, g4, g5, h2] at b0
  have CI := Lib.hid (fun p F q G w h g => inner_any p F c l (zerosL (rws c) (wds c)) q G d k (zerosL (rws d) (wds d)) w h g)
  have hv := in_no (L := zerosL (rws c) (wds c)) (M := zerosL (rws d) (wds d)) hno
  rw [hv.1, hv.2, (show Wid.fh 0 = 0 by decide), (show Wid.fl 0 = 0 by decide)] at CI
  have cw1 : IntKind.i64.wrap (c.bt + 1) = c.bt + 1 := IntWalk.i64_in _ ⟨by omega, by omega⟩
  have cw2 : wrap64 (c.bt + 1) = c.bt + 1 := IntWalk.wrap64_in _ ⟨by omega, by omega⟩
  have cn : ¬ c.bt + 1 = 0 := by omega
  have HBX : Hid (Have w (((w.alloc (.cells #[.int .i64 x.bt, .int .i64 x.rw, .int .i64 x.wd, .int .i64 x.md, .int .u64 x.sd] 31)).alloc (.cells #[.int .i64 y.bt, .int .i64 y.rw, .int .i64 y.wd, .int .i64 y.md, .int .u64 y.sd] 31)).alloc (.cells #[.int .i64 lv, .int .i64 lv2] 61)) [boxT (w.heap.size + 1 + 1) 61 #[.int .i64 lv, .int .i64 lv2], boxT (w.heap.size + 1) 31 #[.int .i64 y.bt, .int .i64 y.rw, .int .i64 y.wd, .int .i64 y.md, .int .u64 y.sd], boxT w.heap.size 31 #[.int .i64 x.bt, .int .i64 x.rw, .int .i64 x.wd, .int .i64 x.md, .int .u64 x.sd]]) := Lib.hid (three_boxs w _ _ _ _ _ _)
  clear hv hc hd hx hy cr co ck dr dO dk hno
  go_enter Try.func8, Try.ntmps8
  go_wp2_with (first
    | (go_at_call 18; (with_reducible refine (inner_nil2 p _).mono ?_); rintro e w8 ⟨rfl, hb⟩; have HV8 := Lib.hid ((HV7.out.up hb).up (Lw.below_alloc (Below.refl _ _) (.cells #[.int .i64 0, .int .u64 0] 26))); clear hb z0 z1; have z0 := box_cell (i := 0) HV8.out.i0 rfl; have z1 := box_cell (i := 1) HV8.out.i0 rfl)
    | (go_at_call 18; (with_reducible refine (inner_nil1 (.pointer (some q)) (.inr ⟨q, rfl⟩) _).mono ?_); rintro e w7 ⟨rfl, hb⟩; have HV7 := Lib.hid ((HV6.out.up hb).up (Lw.below_alloc (Below.refl _ _) (.cells #[.int .i64 0, .int .u64 0] 26))); clear hb z0 z1; have z0 := box_cell (i := 0) HV7.out.i0 rfl; have z1 := box_cell (i := 1) HV7.out.i0 rfl)
    | (go_at_call 18; (with_reducible refine (CI.out _ _ _ _ _ (skI HV5.out.i1) (skI HV5.out.i0)).mono ?_); rintro e w6 ⟨rfl, hb⟩; have HV6 := Lib.hid ((HV5.out.up hb).push (boxT w6.heap.size 26 #[.int .i64 0, .int .u64 0]) (Lw.below_alloc (Below.refl _ _) _) (heap_alloc_new w6 _) (fun k hk => Nat.le_of_eq hk.symm)); clear hb x0 x1 x2 x3 x4 y0 y1 y2 y3 y4 v0 v1 c0 c1 c2 c3 c4 d0 d1 d2 d3 d4; have z0 := box_cell (i := 0) HV6.out.i0 rfl; have z1 := box_cell (i := 1) HV6.out.i0 rfl)
    | (go_at_call 14; (with_reducible refine (DN.out _).mono ?_); rintro e w5 ⟨q, G, rfl, h1, h2, hb⟩; have HV5 := Lib.hid (HV4.out.push (skT q G d k (zerosL (rws d) (wds d))) hb h1 h2); clear h1 h2 hb; clear x0 x1 x2 x3 x4 y0 y1 y2 y3 y4 v0 v1 c0 c1 c2 c3 c4 d0 d1 d2 d3 d4; obtain ⟨x0, x1, x2, x3, x4⟩ := box5 HV5.out.i6; obtain ⟨y0, y1, y2, y3, y4⟩ := box5 HV5.out.i5; obtain ⟨v0, v1⟩ := box2 HV5.out.i4; obtain ⟨c0, c1, c2, c3, c4⟩ := box5 HV5.out.i3; obtain ⟨d0, d1, d2, d3, d4⟩ := box5 HV5.out.i2)
    | (go_at_call 14; (with_reducible refine (CN.out _).mono ?_); rintro e w4 ⟨p, F, rfl, h1, h2, hb⟩; have HV4 := Lib.hid (HV3.out.push (skT p F c l (zerosL (rws c) (wds c))) hb h1 h2); clear h1 h2 hb; clear x0 x1 x2 x3 x4 y0 y1 y2 y3 y4 v0 v1 c0 c1 c2 c3 c4 d0 d1 d2 d3 d4; obtain ⟨x0, x1, x2, x3, x4⟩ := box5 HV4.out.i5; obtain ⟨y0, y1, y2, y3, y4⟩ := box5 HV4.out.i4; obtain ⟨v0, v1⟩ := box2 HV4.out.i3; obtain ⟨c0, c1, c2, c3, c4⟩ := box5 HV4.out.i2; obtain ⟨d0, d1, d2, d3, d4⟩ := box5 HV4.out.i1)
    | (go_at_call 13; (with_reducible refine (DA.out _).mono ?_); rintro e w3 ⟨rfl, hb⟩; have HV3 := Lib.hid ((HV2.out.up hb).push (boxT w3.heap.size 31 #[.int .i64 d.bt, .int .i64 d.rw, .int .i64 d.wd, .int .i64 d.md, .int .u64 d.sd]) (Lw.below_alloc (Below.refl _ _) _) (heap_alloc_new w3 _) (fun k hk => Nat.le_of_eq hk.symm)); clear hb; clear x0 x1 x2 x3 x4 y0 y1 y2 y3 y4 v0 v1 c0 c1 c2 c3 c4; obtain ⟨x0, x1, x2, x3, x4⟩ := box5 HV3.out.i4; obtain ⟨y0, y1, y2, y3, y4⟩ := box5 HV3.out.i3; obtain ⟨v0, v1⟩ := box2 HV3.out.i2; obtain ⟨c0, c1, c2, c3, c4⟩ := box5 HV3.out.i1; obtain ⟨d0, d1, d2, d3, d4⟩ := box5 HV3.out.i0)
    | (go_at_call 13; (with_reducible refine (CA.out _).mono ?_); rintro e w2 ⟨rfl, hb⟩; have HV2 := Lib.hid ((HV1.out.up hb).push (boxT w2.heap.size 31 #[.int .i64 c.bt, .int .i64 c.rw, .int .i64 c.wd, .int .i64 c.md, .int .u64 c.sd]) (Lw.below_alloc (Below.refl _ _) _) (heap_alloc_new w2 _) (fun k hk => Nat.le_of_eq hk.symm)); clear hb; clear x0 x1 x2 x3 x4 y0 y1 y2 y3 y4 v0 v1; obtain ⟨x0, x1, x2, x3, x4⟩ := box5 HV2.out.i3; obtain ⟨y0, y1, y2, y3, y4⟩ := box5 HV2.out.i2; obtain ⟨v0, v1⟩ := box2 HV2.out.i1; obtain ⟨c0, c1, c2, c3, c4⟩ := box5 HV2.out.i0)
    | (go_at_call 10; (with_reducible refine (shown_any _).mono ?_); rintro e w1 ⟨rfl, hb⟩; have HV1 := Lib.hid (HBX.out.up hb); clear hb; obtain ⟨x0, x1, x2, x3, x4⟩ := box5 HV1.out.i2; obtain ⟨y0, y1, y2, y3, y4⟩ := box5 HV1.out.i1; obtain ⟨v0, v1⟩ := box2 HV1.out.i0))
  all_goals go_ret
  all_goals exact ⟨ret_bs (by first | rfl | (simp [*]; done)), HV8.out.below⟩
set_option maxRecDepth 100000 in
set_option maxHeartbeats 8000000 in
theorem unl_no1 (x y : Cfg) (lv lv2 : Int) (w : World) (hx : x.Ok) (hy : y.Ok) (hlv : -9223372036854775808 ≤ lv ∧ lv ≤ 9223372036854775807) (hlv2 : -9223372036854775808 ≤ lv2 ∧ lv2 ≤ 9223372036854775807) (c : Cfg) (l : Int) (d : Cfg) (k : Int) (cr : IsRight c) (co : c.Ok) (cb : c.bt ≤ 8) (ck : 1 ≤ keys c l) (dr : IsRight d) (dO : d.Ok) (db : d.bt ≤ 8) (dk : 1 ≤ keys d k) (X Y : Int) (ca1 : bits .and .i64 lv 65535 = X) (ca4 : Int.tmod X (c.bt + 1) = l) (da1 : bits .and .i64 lv2 65535 = Y) (da4 : Int.tmod Y (d.bt + 1) = k) (hc : anyC x 8 9 = c) (hd : anyC y 8 9 = d) (b0 : (c.bt == d.bt) = true) (b1 : (c.rw == d.rw) = false) :
    Calls Try.prog 8 #[.agg #[.int .i64 x.bt, .int .i64 x.rw, .int .i64 x.wd, .int .i64 x.md, .int .u64 x.sd], .agg #[.int .i64 y.bt, .int .i64 y.rw, .int .i64 y.wd, .int .i64 y.md, .int .u64 y.sd], .agg #[.int .i64 lv, .int .i64 lv2]] w fun e w' => e = .returned (.bool true) ∧ Below w.heap.size w w' := by
  have cl := (keys_pos.1 ck).2
  have c1 := cr.1
  have CA := Lib.hid (fun w => rany_at x 8 9 c w hx (by omega) (by omega) (by omega) (by omega) hc)
  have DA := Lib.hid (fun w => rany_at y 8 9 d w hy (by omega) (by omega) (by omega) (by omega) hd)
  have CN := Lib.hid (fun w => snew_yes c l w co (by omega) (by omega) ck)
  have dl := (keys_pos.1 dk).2
  have d1 := dr.1
  have DN := Lib.hid (fun w => snew_yes d k w dO (by omega) (by omega) dk)
  have dw1 : IntKind.i64.wrap (d.bt + 1) = d.bt + 1 := IntWalk.i64_in _ ⟨by omega, by omega⟩
  have dw2 : wrap64 (d.bt + 1) = d.bt + 1 := IntWalk.wrap64_in _ ⟨by omega, by omega⟩
  have dn : ¬ d.bt + 1 = 0 := by omega
  have hno : ¬ (cfgE c d = true ∧ l = k) := by
    intro h
    have h1 := of_decide_eq_true h.1
    have h2 := h.2
    obtain ⟨g1, g2, g3, g4, g5⟩ := h1
    simp [g1, g2, g3, g4, g5, h2] at b1
  have CI := Lib.hid (fun p F q G w h g => inner_any p F c l (zerosL (rws c) (wds c)) q G d k (zerosL (rws d) (wds d)) w h g)
  have hv := in_no (L := zerosL (rws c) (wds c)) (M := zerosL (rws d) (wds d)) hno
  rw [hv.1, hv.2, (show Wid.fh 0 = 0 by decide), (show Wid.fl 0 = 0 by decide)] at CI
  have cw1 : IntKind.i64.wrap (c.bt + 1) = c.bt + 1 := IntWalk.i64_in _ ⟨by omega, by omega⟩
  have cw2 : wrap64 (c.bt + 1) = c.bt + 1 := IntWalk.wrap64_in _ ⟨by omega, by omega⟩
  have cn : ¬ c.bt + 1 = 0 := by omega
  have HBX : Hid (Have w (((w.alloc (.cells #[.int .i64 x.bt, .int .i64 x.rw, .int .i64 x.wd, .int .i64 x.md, .int .u64 x.sd] 31)).alloc (.cells #[.int .i64 y.bt, .int .i64 y.rw, .int .i64 y.wd, .int .i64 y.md, .int .u64 y.sd] 31)).alloc (.cells #[.int .i64 lv, .int .i64 lv2] 61)) [boxT (w.heap.size + 1 + 1) 61 #[.int .i64 lv, .int .i64 lv2], boxT (w.heap.size + 1) 31 #[.int .i64 y.bt, .int .i64 y.rw, .int .i64 y.wd, .int .i64 y.md, .int .u64 y.sd], boxT w.heap.size 31 #[.int .i64 x.bt, .int .i64 x.rw, .int .i64 x.wd, .int .i64 x.md, .int .u64 x.sd]]) := Lib.hid (three_boxs w _ _ _ _ _ _)
  clear hv hc hd hx hy cr co ck dr dO dk hno
  go_enter Try.func8, Try.ntmps8
  go_wp2_with (first
    | (go_at_call 18; (with_reducible refine (inner_nil2 p _).mono ?_); rintro e w8 ⟨rfl, hb⟩; have HV8 := Lib.hid ((HV7.out.up hb).up (Lw.below_alloc (Below.refl _ _) (.cells #[.int .i64 0, .int .u64 0] 26))); clear hb z0 z1; have z0 := box_cell (i := 0) HV8.out.i0 rfl; have z1 := box_cell (i := 1) HV8.out.i0 rfl)
    | (go_at_call 18; (with_reducible refine (inner_nil1 (.pointer (some q)) (.inr ⟨q, rfl⟩) _).mono ?_); rintro e w7 ⟨rfl, hb⟩; have HV7 := Lib.hid ((HV6.out.up hb).up (Lw.below_alloc (Below.refl _ _) (.cells #[.int .i64 0, .int .u64 0] 26))); clear hb z0 z1; have z0 := box_cell (i := 0) HV7.out.i0 rfl; have z1 := box_cell (i := 1) HV7.out.i0 rfl)
    | (go_at_call 18; (with_reducible refine (CI.out _ _ _ _ _ (skI HV5.out.i1) (skI HV5.out.i0)).mono ?_); rintro e w6 ⟨rfl, hb⟩; have HV6 := Lib.hid ((HV5.out.up hb).push (boxT w6.heap.size 26 #[.int .i64 0, .int .u64 0]) (Lw.below_alloc (Below.refl _ _) _) (heap_alloc_new w6 _) (fun k hk => Nat.le_of_eq hk.symm)); clear hb x0 x1 x2 x3 x4 y0 y1 y2 y3 y4 v0 v1 c0 c1 c2 c3 c4 d0 d1 d2 d3 d4; have z0 := box_cell (i := 0) HV6.out.i0 rfl; have z1 := box_cell (i := 1) HV6.out.i0 rfl)
    | (go_at_call 14; (with_reducible refine (DN.out _).mono ?_); rintro e w5 ⟨q, G, rfl, h1, h2, hb⟩; have HV5 := Lib.hid (HV4.out.push (skT q G d k (zerosL (rws d) (wds d))) hb h1 h2); clear h1 h2 hb; clear x0 x1 x2 x3 x4 y0 y1 y2 y3 y4 v0 v1 c0 c1 c2 c3 c4 d0 d1 d2 d3 d4; obtain ⟨x0, x1, x2, x3, x4⟩ := box5 HV5.out.i6; obtain ⟨y0, y1, y2, y3, y4⟩ := box5 HV5.out.i5; obtain ⟨v0, v1⟩ := box2 HV5.out.i4; obtain ⟨c0, c1, c2, c3, c4⟩ := box5 HV5.out.i3; obtain ⟨d0, d1, d2, d3, d4⟩ := box5 HV5.out.i2)
    | (go_at_call 14; (with_reducible refine (CN.out _).mono ?_); rintro e w4 ⟨p, F, rfl, h1, h2, hb⟩; have HV4 := Lib.hid (HV3.out.push (skT p F c l (zerosL (rws c) (wds c))) hb h1 h2); clear h1 h2 hb; clear x0 x1 x2 x3 x4 y0 y1 y2 y3 y4 v0 v1 c0 c1 c2 c3 c4 d0 d1 d2 d3 d4; obtain ⟨x0, x1, x2, x3, x4⟩ := box5 HV4.out.i5; obtain ⟨y0, y1, y2, y3, y4⟩ := box5 HV4.out.i4; obtain ⟨v0, v1⟩ := box2 HV4.out.i3; obtain ⟨c0, c1, c2, c3, c4⟩ := box5 HV4.out.i2; obtain ⟨d0, d1, d2, d3, d4⟩ := box5 HV4.out.i1)
    | (go_at_call 13; (with_reducible refine (DA.out _).mono ?_); rintro e w3 ⟨rfl, hb⟩; have HV3 := Lib.hid ((HV2.out.up hb).push (boxT w3.heap.size 31 #[.int .i64 d.bt, .int .i64 d.rw, .int .i64 d.wd, .int .i64 d.md, .int .u64 d.sd]) (Lw.below_alloc (Below.refl _ _) _) (heap_alloc_new w3 _) (fun k hk => Nat.le_of_eq hk.symm)); clear hb; clear x0 x1 x2 x3 x4 y0 y1 y2 y3 y4 v0 v1 c0 c1 c2 c3 c4; obtain ⟨x0, x1, x2, x3, x4⟩ := box5 HV3.out.i4; obtain ⟨y0, y1, y2, y3, y4⟩ := box5 HV3.out.i3; obtain ⟨v0, v1⟩ := box2 HV3.out.i2; obtain ⟨c0, c1, c2, c3, c4⟩ := box5 HV3.out.i1; obtain ⟨d0, d1, d2, d3, d4⟩ := box5 HV3.out.i0)
    | (go_at_call 13; (with_reducible refine (CA.out _).mono ?_); rintro e w2 ⟨rfl, hb⟩; have HV2 := Lib.hid ((HV1.out.up hb).push (boxT w2.heap.size 31 #[.int .i64 c.bt, .int .i64 c.rw, .int .i64 c.wd, .int .i64 c.md, .int .u64 c.sd]) (Lw.below_alloc (Below.refl _ _) _) (heap_alloc_new w2 _) (fun k hk => Nat.le_of_eq hk.symm)); clear hb; clear x0 x1 x2 x3 x4 y0 y1 y2 y3 y4 v0 v1; obtain ⟨x0, x1, x2, x3, x4⟩ := box5 HV2.out.i3; obtain ⟨y0, y1, y2, y3, y4⟩ := box5 HV2.out.i2; obtain ⟨v0, v1⟩ := box2 HV2.out.i1; obtain ⟨c0, c1, c2, c3, c4⟩ := box5 HV2.out.i0)
    | (go_at_call 10; (with_reducible refine (shown_any _).mono ?_); rintro e w1 ⟨rfl, hb⟩; have HV1 := Lib.hid (HBX.out.up hb); clear hb; obtain ⟨x0, x1, x2, x3, x4⟩ := box5 HV1.out.i2; obtain ⟨y0, y1, y2, y3, y4⟩ := box5 HV1.out.i1; obtain ⟨v0, v1⟩ := box2 HV1.out.i0))
  all_goals go_ret
  all_goals exact ⟨ret_bs (by first | rfl | (simp [*]; done)), HV8.out.below⟩
set_option maxRecDepth 100000 in
set_option maxHeartbeats 8000000 in
theorem unl_no2 (x y : Cfg) (lv lv2 : Int) (w : World) (hx : x.Ok) (hy : y.Ok) (hlv : -9223372036854775808 ≤ lv ∧ lv ≤ 9223372036854775807) (hlv2 : -9223372036854775808 ≤ lv2 ∧ lv2 ≤ 9223372036854775807) (c : Cfg) (l : Int) (d : Cfg) (k : Int) (cr : IsRight c) (co : c.Ok) (cb : c.bt ≤ 8) (ck : 1 ≤ keys c l) (dr : IsRight d) (dO : d.Ok) (db : d.bt ≤ 8) (dk : 1 ≤ keys d k) (X Y : Int) (ca1 : bits .and .i64 lv 65535 = X) (ca4 : Int.tmod X (c.bt + 1) = l) (da1 : bits .and .i64 lv2 65535 = Y) (da4 : Int.tmod Y (d.bt + 1) = k) (hc : anyC x 8 9 = c) (hd : anyC y 8 9 = d) (b0 : (c.bt == d.bt) = true) (b1 : (c.rw == d.rw) = true) (b2 : (c.wd == d.wd) = false) :
    Calls Try.prog 8 #[.agg #[.int .i64 x.bt, .int .i64 x.rw, .int .i64 x.wd, .int .i64 x.md, .int .u64 x.sd], .agg #[.int .i64 y.bt, .int .i64 y.rw, .int .i64 y.wd, .int .i64 y.md, .int .u64 y.sd], .agg #[.int .i64 lv, .int .i64 lv2]] w fun e w' => e = .returned (.bool true) ∧ Below w.heap.size w w' := by
  have cl := (keys_pos.1 ck).2
  have c1 := cr.1
  have CA := Lib.hid (fun w => rany_at x 8 9 c w hx (by omega) (by omega) (by omega) (by omega) hc)
  have DA := Lib.hid (fun w => rany_at y 8 9 d w hy (by omega) (by omega) (by omega) (by omega) hd)
  have CN := Lib.hid (fun w => snew_yes c l w co (by omega) (by omega) ck)
  have dl := (keys_pos.1 dk).2
  have d1 := dr.1
  have DN := Lib.hid (fun w => snew_yes d k w dO (by omega) (by omega) dk)
  have dw1 : IntKind.i64.wrap (d.bt + 1) = d.bt + 1 := IntWalk.i64_in _ ⟨by omega, by omega⟩
  have dw2 : wrap64 (d.bt + 1) = d.bt + 1 := IntWalk.wrap64_in _ ⟨by omega, by omega⟩
  have dn : ¬ d.bt + 1 = 0 := by omega
  have hno : ¬ (cfgE c d = true ∧ l = k) := by
    intro h
    have h1 := of_decide_eq_true h.1
    have h2 := h.2
    obtain ⟨g1, g2, g3, g4, g5⟩ := h1
    simp [g1, g2, g3, g4, g5, h2] at b2
  have CI := Lib.hid (fun p F q G w h g => inner_any p F c l (zerosL (rws c) (wds c)) q G d k (zerosL (rws d) (wds d)) w h g)
  have hv := in_no (L := zerosL (rws c) (wds c)) (M := zerosL (rws d) (wds d)) hno
  rw [hv.1, hv.2, (show Wid.fh 0 = 0 by decide), (show Wid.fl 0 = 0 by decide)] at CI
  have cw1 : IntKind.i64.wrap (c.bt + 1) = c.bt + 1 := IntWalk.i64_in _ ⟨by omega, by omega⟩
  have cw2 : wrap64 (c.bt + 1) = c.bt + 1 := IntWalk.wrap64_in _ ⟨by omega, by omega⟩
  have cn : ¬ c.bt + 1 = 0 := by omega
  have HBX : Hid (Have w (((w.alloc (.cells #[.int .i64 x.bt, .int .i64 x.rw, .int .i64 x.wd, .int .i64 x.md, .int .u64 x.sd] 31)).alloc (.cells #[.int .i64 y.bt, .int .i64 y.rw, .int .i64 y.wd, .int .i64 y.md, .int .u64 y.sd] 31)).alloc (.cells #[.int .i64 lv, .int .i64 lv2] 61)) [boxT (w.heap.size + 1 + 1) 61 #[.int .i64 lv, .int .i64 lv2], boxT (w.heap.size + 1) 31 #[.int .i64 y.bt, .int .i64 y.rw, .int .i64 y.wd, .int .i64 y.md, .int .u64 y.sd], boxT w.heap.size 31 #[.int .i64 x.bt, .int .i64 x.rw, .int .i64 x.wd, .int .i64 x.md, .int .u64 x.sd]]) := Lib.hid (three_boxs w _ _ _ _ _ _)
  clear hv hc hd hx hy cr co ck dr dO dk hno
  go_enter Try.func8, Try.ntmps8
  go_wp2_with (first
    | (go_at_call 18; (with_reducible refine (inner_nil2 p _).mono ?_); rintro e w8 ⟨rfl, hb⟩; have HV8 := Lib.hid ((HV7.out.up hb).up (Lw.below_alloc (Below.refl _ _) (.cells #[.int .i64 0, .int .u64 0] 26))); clear hb z0 z1; have z0 := box_cell (i := 0) HV8.out.i0 rfl; have z1 := box_cell (i := 1) HV8.out.i0 rfl)
    | (go_at_call 18; (with_reducible refine (inner_nil1 (.pointer (some q)) (.inr ⟨q, rfl⟩) _).mono ?_); rintro e w7 ⟨rfl, hb⟩; have HV7 := Lib.hid ((HV6.out.up hb).up (Lw.below_alloc (Below.refl _ _) (.cells #[.int .i64 0, .int .u64 0] 26))); clear hb z0 z1; have z0 := box_cell (i := 0) HV7.out.i0 rfl; have z1 := box_cell (i := 1) HV7.out.i0 rfl)
    | (go_at_call 18; (with_reducible refine (CI.out _ _ _ _ _ (skI HV5.out.i1) (skI HV5.out.i0)).mono ?_); rintro e w6 ⟨rfl, hb⟩; have HV6 := Lib.hid ((HV5.out.up hb).push (boxT w6.heap.size 26 #[.int .i64 0, .int .u64 0]) (Lw.below_alloc (Below.refl _ _) _) (heap_alloc_new w6 _) (fun k hk => Nat.le_of_eq hk.symm)); clear hb x0 x1 x2 x3 x4 y0 y1 y2 y3 y4 v0 v1 c0 c1 c2 c3 c4 d0 d1 d2 d3 d4; have z0 := box_cell (i := 0) HV6.out.i0 rfl; have z1 := box_cell (i := 1) HV6.out.i0 rfl)
    | (go_at_call 14; (with_reducible refine (DN.out _).mono ?_); rintro e w5 ⟨q, G, rfl, h1, h2, hb⟩; have HV5 := Lib.hid (HV4.out.push (skT q G d k (zerosL (rws d) (wds d))) hb h1 h2); clear h1 h2 hb; clear x0 x1 x2 x3 x4 y0 y1 y2 y3 y4 v0 v1 c0 c1 c2 c3 c4 d0 d1 d2 d3 d4; obtain ⟨x0, x1, x2, x3, x4⟩ := box5 HV5.out.i6; obtain ⟨y0, y1, y2, y3, y4⟩ := box5 HV5.out.i5; obtain ⟨v0, v1⟩ := box2 HV5.out.i4; obtain ⟨c0, c1, c2, c3, c4⟩ := box5 HV5.out.i3; obtain ⟨d0, d1, d2, d3, d4⟩ := box5 HV5.out.i2)
    | (go_at_call 14; (with_reducible refine (CN.out _).mono ?_); rintro e w4 ⟨p, F, rfl, h1, h2, hb⟩; have HV4 := Lib.hid (HV3.out.push (skT p F c l (zerosL (rws c) (wds c))) hb h1 h2); clear h1 h2 hb; clear x0 x1 x2 x3 x4 y0 y1 y2 y3 y4 v0 v1 c0 c1 c2 c3 c4 d0 d1 d2 d3 d4; obtain ⟨x0, x1, x2, x3, x4⟩ := box5 HV4.out.i5; obtain ⟨y0, y1, y2, y3, y4⟩ := box5 HV4.out.i4; obtain ⟨v0, v1⟩ := box2 HV4.out.i3; obtain ⟨c0, c1, c2, c3, c4⟩ := box5 HV4.out.i2; obtain ⟨d0, d1, d2, d3, d4⟩ := box5 HV4.out.i1)
    | (go_at_call 13; (with_reducible refine (DA.out _).mono ?_); rintro e w3 ⟨rfl, hb⟩; have HV3 := Lib.hid ((HV2.out.up hb).push (boxT w3.heap.size 31 #[.int .i64 d.bt, .int .i64 d.rw, .int .i64 d.wd, .int .i64 d.md, .int .u64 d.sd]) (Lw.below_alloc (Below.refl _ _) _) (heap_alloc_new w3 _) (fun k hk => Nat.le_of_eq hk.symm)); clear hb; clear x0 x1 x2 x3 x4 y0 y1 y2 y3 y4 v0 v1 c0 c1 c2 c3 c4; obtain ⟨x0, x1, x2, x3, x4⟩ := box5 HV3.out.i4; obtain ⟨y0, y1, y2, y3, y4⟩ := box5 HV3.out.i3; obtain ⟨v0, v1⟩ := box2 HV3.out.i2; obtain ⟨c0, c1, c2, c3, c4⟩ := box5 HV3.out.i1; obtain ⟨d0, d1, d2, d3, d4⟩ := box5 HV3.out.i0)
    | (go_at_call 13; (with_reducible refine (CA.out _).mono ?_); rintro e w2 ⟨rfl, hb⟩; have HV2 := Lib.hid ((HV1.out.up hb).push (boxT w2.heap.size 31 #[.int .i64 c.bt, .int .i64 c.rw, .int .i64 c.wd, .int .i64 c.md, .int .u64 c.sd]) (Lw.below_alloc (Below.refl _ _) _) (heap_alloc_new w2 _) (fun k hk => Nat.le_of_eq hk.symm)); clear hb; clear x0 x1 x2 x3 x4 y0 y1 y2 y3 y4 v0 v1; obtain ⟨x0, x1, x2, x3, x4⟩ := box5 HV2.out.i3; obtain ⟨y0, y1, y2, y3, y4⟩ := box5 HV2.out.i2; obtain ⟨v0, v1⟩ := box2 HV2.out.i1; obtain ⟨c0, c1, c2, c3, c4⟩ := box5 HV2.out.i0)
    | (go_at_call 10; (with_reducible refine (shown_any _).mono ?_); rintro e w1 ⟨rfl, hb⟩; have HV1 := Lib.hid (HBX.out.up hb); clear hb; obtain ⟨x0, x1, x2, x3, x4⟩ := box5 HV1.out.i2; obtain ⟨y0, y1, y2, y3, y4⟩ := box5 HV1.out.i1; obtain ⟨v0, v1⟩ := box2 HV1.out.i0))
  all_goals go_ret
  all_goals exact ⟨ret_bs (by first | rfl | (simp [*]; done)), HV8.out.below⟩
set_option maxRecDepth 100000 in
set_option maxHeartbeats 8000000 in
theorem unl_no3 (x y : Cfg) (lv lv2 : Int) (w : World) (hx : x.Ok) (hy : y.Ok) (hlv : -9223372036854775808 ≤ lv ∧ lv ≤ 9223372036854775807) (hlv2 : -9223372036854775808 ≤ lv2 ∧ lv2 ≤ 9223372036854775807) (c : Cfg) (l : Int) (d : Cfg) (k : Int) (cr : IsRight c) (co : c.Ok) (cb : c.bt ≤ 8) (ck : 1 ≤ keys c l) (dr : IsRight d) (dO : d.Ok) (db : d.bt ≤ 8) (dk : 1 ≤ keys d k) (X Y : Int) (ca1 : bits .and .i64 lv 65535 = X) (ca4 : Int.tmod X (c.bt + 1) = l) (da1 : bits .and .i64 lv2 65535 = Y) (da4 : Int.tmod Y (d.bt + 1) = k) (hc : anyC x 8 9 = c) (hd : anyC y 8 9 = d) (b0 : (c.bt == d.bt) = true) (b1 : (c.rw == d.rw) = true) (b2 : (c.wd == d.wd) = true) (b3 : (c.md == d.md) = false) :
    Calls Try.prog 8 #[.agg #[.int .i64 x.bt, .int .i64 x.rw, .int .i64 x.wd, .int .i64 x.md, .int .u64 x.sd], .agg #[.int .i64 y.bt, .int .i64 y.rw, .int .i64 y.wd, .int .i64 y.md, .int .u64 y.sd], .agg #[.int .i64 lv, .int .i64 lv2]] w fun e w' => e = .returned (.bool true) ∧ Below w.heap.size w w' := by
  have cl := (keys_pos.1 ck).2
  have c1 := cr.1
  have CA := Lib.hid (fun w => rany_at x 8 9 c w hx (by omega) (by omega) (by omega) (by omega) hc)
  have DA := Lib.hid (fun w => rany_at y 8 9 d w hy (by omega) (by omega) (by omega) (by omega) hd)
  have CN := Lib.hid (fun w => snew_yes c l w co (by omega) (by omega) ck)
  have dl := (keys_pos.1 dk).2
  have d1 := dr.1
  have DN := Lib.hid (fun w => snew_yes d k w dO (by omega) (by omega) dk)
  have dw1 : IntKind.i64.wrap (d.bt + 1) = d.bt + 1 := IntWalk.i64_in _ ⟨by omega, by omega⟩
  have dw2 : wrap64 (d.bt + 1) = d.bt + 1 := IntWalk.wrap64_in _ ⟨by omega, by omega⟩
  have dn : ¬ d.bt + 1 = 0 := by omega
  have hno : ¬ (cfgE c d = true ∧ l = k) := by
    intro h
    have h1 := of_decide_eq_true h.1
    have h2 := h.2
    obtain ⟨g1, g2, g3, g4, g5⟩ := h1
    simp [g1, g2, g3, g4, g5, h2] at b3
  have CI := Lib.hid (fun p F q G w h g => inner_any p F c l (zerosL (rws c) (wds c)) q G d k (zerosL (rws d) (wds d)) w h g)
  have hv := in_no (L := zerosL (rws c) (wds c)) (M := zerosL (rws d) (wds d)) hno
  rw [hv.1, hv.2, (show Wid.fh 0 = 0 by decide), (show Wid.fl 0 = 0 by decide)] at CI
  have cw1 : IntKind.i64.wrap (c.bt + 1) = c.bt + 1 := IntWalk.i64_in _ ⟨by omega, by omega⟩
  have cw2 : wrap64 (c.bt + 1) = c.bt + 1 := IntWalk.wrap64_in _ ⟨by omega, by omega⟩
  have cn : ¬ c.bt + 1 = 0 := by omega
  have HBX : Hid (Have w (((w.alloc (.cells #[.int .i64 x.bt, .int .i64 x.rw, .int .i64 x.wd, .int .i64 x.md, .int .u64 x.sd] 31)).alloc (.cells #[.int .i64 y.bt, .int .i64 y.rw, .int .i64 y.wd, .int .i64 y.md, .int .u64 y.sd] 31)).alloc (.cells #[.int .i64 lv, .int .i64 lv2] 61)) [boxT (w.heap.size + 1 + 1) 61 #[.int .i64 lv, .int .i64 lv2], boxT (w.heap.size + 1) 31 #[.int .i64 y.bt, .int .i64 y.rw, .int .i64 y.wd, .int .i64 y.md, .int .u64 y.sd], boxT w.heap.size 31 #[.int .i64 x.bt, .int .i64 x.rw, .int .i64 x.wd, .int .i64 x.md, .int .u64 x.sd]]) := Lib.hid (three_boxs w _ _ _ _ _ _)
  clear hv hc hd hx hy cr co ck dr dO dk hno
  go_enter Try.func8, Try.ntmps8
  go_wp2_with (first
    | (go_at_call 18; (with_reducible refine (inner_nil2 p _).mono ?_); rintro e w8 ⟨rfl, hb⟩; have HV8 := Lib.hid ((HV7.out.up hb).up (Lw.below_alloc (Below.refl _ _) (.cells #[.int .i64 0, .int .u64 0] 26))); clear hb z0 z1; have z0 := box_cell (i := 0) HV8.out.i0 rfl; have z1 := box_cell (i := 1) HV8.out.i0 rfl)
    | (go_at_call 18; (with_reducible refine (inner_nil1 (.pointer (some q)) (.inr ⟨q, rfl⟩) _).mono ?_); rintro e w7 ⟨rfl, hb⟩; have HV7 := Lib.hid ((HV6.out.up hb).up (Lw.below_alloc (Below.refl _ _) (.cells #[.int .i64 0, .int .u64 0] 26))); clear hb z0 z1; have z0 := box_cell (i := 0) HV7.out.i0 rfl; have z1 := box_cell (i := 1) HV7.out.i0 rfl)
    | (go_at_call 18; (with_reducible refine (CI.out _ _ _ _ _ (skI HV5.out.i1) (skI HV5.out.i0)).mono ?_); rintro e w6 ⟨rfl, hb⟩; have HV6 := Lib.hid ((HV5.out.up hb).push (boxT w6.heap.size 26 #[.int .i64 0, .int .u64 0]) (Lw.below_alloc (Below.refl _ _) _) (heap_alloc_new w6 _) (fun k hk => Nat.le_of_eq hk.symm)); clear hb x0 x1 x2 x3 x4 y0 y1 y2 y3 y4 v0 v1 c0 c1 c2 c3 c4 d0 d1 d2 d3 d4; have z0 := box_cell (i := 0) HV6.out.i0 rfl; have z1 := box_cell (i := 1) HV6.out.i0 rfl)
    | (go_at_call 14; (with_reducible refine (DN.out _).mono ?_); rintro e w5 ⟨q, G, rfl, h1, h2, hb⟩; have HV5 := Lib.hid (HV4.out.push (skT q G d k (zerosL (rws d) (wds d))) hb h1 h2); clear h1 h2 hb; clear x0 x1 x2 x3 x4 y0 y1 y2 y3 y4 v0 v1 c0 c1 c2 c3 c4 d0 d1 d2 d3 d4; obtain ⟨x0, x1, x2, x3, x4⟩ := box5 HV5.out.i6; obtain ⟨y0, y1, y2, y3, y4⟩ := box5 HV5.out.i5; obtain ⟨v0, v1⟩ := box2 HV5.out.i4; obtain ⟨c0, c1, c2, c3, c4⟩ := box5 HV5.out.i3; obtain ⟨d0, d1, d2, d3, d4⟩ := box5 HV5.out.i2)
    | (go_at_call 14; (with_reducible refine (CN.out _).mono ?_); rintro e w4 ⟨p, F, rfl, h1, h2, hb⟩; have HV4 := Lib.hid (HV3.out.push (skT p F c l (zerosL (rws c) (wds c))) hb h1 h2); clear h1 h2 hb; clear x0 x1 x2 x3 x4 y0 y1 y2 y3 y4 v0 v1 c0 c1 c2 c3 c4 d0 d1 d2 d3 d4; obtain ⟨x0, x1, x2, x3, x4⟩ := box5 HV4.out.i5; obtain ⟨y0, y1, y2, y3, y4⟩ := box5 HV4.out.i4; obtain ⟨v0, v1⟩ := box2 HV4.out.i3; obtain ⟨c0, c1, c2, c3, c4⟩ := box5 HV4.out.i2; obtain ⟨d0, d1, d2, d3, d4⟩ := box5 HV4.out.i1)
    | (go_at_call 13; (with_reducible refine (DA.out _).mono ?_); rintro e w3 ⟨rfl, hb⟩; have HV3 := Lib.hid ((HV2.out.up hb).push (boxT w3.heap.size 31 #[.int .i64 d.bt, .int .i64 d.rw, .int .i64 d.wd, .int .i64 d.md, .int .u64 d.sd]) (Lw.below_alloc (Below.refl _ _) _) (heap_alloc_new w3 _) (fun k hk => Nat.le_of_eq hk.symm)); clear hb; clear x0 x1 x2 x3 x4 y0 y1 y2 y3 y4 v0 v1 c0 c1 c2 c3 c4; obtain ⟨x0, x1, x2, x3, x4⟩ := box5 HV3.out.i4; obtain ⟨y0, y1, y2, y3, y4⟩ := box5 HV3.out.i3; obtain ⟨v0, v1⟩ := box2 HV3.out.i2; obtain ⟨c0, c1, c2, c3, c4⟩ := box5 HV3.out.i1; obtain ⟨d0, d1, d2, d3, d4⟩ := box5 HV3.out.i0)
    | (go_at_call 13; (with_reducible refine (CA.out _).mono ?_); rintro e w2 ⟨rfl, hb⟩; have HV2 := Lib.hid ((HV1.out.up hb).push (boxT w2.heap.size 31 #[.int .i64 c.bt, .int .i64 c.rw, .int .i64 c.wd, .int .i64 c.md, .int .u64 c.sd]) (Lw.below_alloc (Below.refl _ _) _) (heap_alloc_new w2 _) (fun k hk => Nat.le_of_eq hk.symm)); clear hb; clear x0 x1 x2 x3 x4 y0 y1 y2 y3 y4 v0 v1; obtain ⟨x0, x1, x2, x3, x4⟩ := box5 HV2.out.i3; obtain ⟨y0, y1, y2, y3, y4⟩ := box5 HV2.out.i2; obtain ⟨v0, v1⟩ := box2 HV2.out.i1; obtain ⟨c0, c1, c2, c3, c4⟩ := box5 HV2.out.i0)
    | (go_at_call 10; (with_reducible refine (shown_any _).mono ?_); rintro e w1 ⟨rfl, hb⟩; have HV1 := Lib.hid (HBX.out.up hb); clear hb; obtain ⟨x0, x1, x2, x3, x4⟩ := box5 HV1.out.i2; obtain ⟨y0, y1, y2, y3, y4⟩ := box5 HV1.out.i1; obtain ⟨v0, v1⟩ := box2 HV1.out.i0))
  all_goals go_ret
  all_goals exact ⟨ret_bs (by first | rfl | (simp [*]; done)), HV8.out.below⟩
set_option maxRecDepth 100000 in
set_option maxHeartbeats 8000000 in
theorem unl_no4 (x y : Cfg) (lv lv2 : Int) (w : World) (hx : x.Ok) (hy : y.Ok) (hlv : -9223372036854775808 ≤ lv ∧ lv ≤ 9223372036854775807) (hlv2 : -9223372036854775808 ≤ lv2 ∧ lv2 ≤ 9223372036854775807) (c : Cfg) (l : Int) (d : Cfg) (k : Int) (cr : IsRight c) (co : c.Ok) (cb : c.bt ≤ 8) (ck : 1 ≤ keys c l) (dr : IsRight d) (dO : d.Ok) (db : d.bt ≤ 8) (dk : 1 ≤ keys d k) (X Y : Int) (ca1 : bits .and .i64 lv 65535 = X) (ca4 : Int.tmod X (c.bt + 1) = l) (da1 : bits .and .i64 lv2 65535 = Y) (da4 : Int.tmod Y (d.bt + 1) = k) (hc : anyC x 8 9 = c) (hd : anyC y 8 9 = d) (b0 : (c.bt == d.bt) = true) (b1 : (c.rw == d.rw) = true) (b2 : (c.wd == d.wd) = true) (b3 : (c.md == d.md) = true) (b4 : (c.sd == d.sd) = false) :
    Calls Try.prog 8 #[.agg #[.int .i64 x.bt, .int .i64 x.rw, .int .i64 x.wd, .int .i64 x.md, .int .u64 x.sd], .agg #[.int .i64 y.bt, .int .i64 y.rw, .int .i64 y.wd, .int .i64 y.md, .int .u64 y.sd], .agg #[.int .i64 lv, .int .i64 lv2]] w fun e w' => e = .returned (.bool true) ∧ Below w.heap.size w w' := by
  have cl := (keys_pos.1 ck).2
  have c1 := cr.1
  have CA := Lib.hid (fun w => rany_at x 8 9 c w hx (by omega) (by omega) (by omega) (by omega) hc)
  have DA := Lib.hid (fun w => rany_at y 8 9 d w hy (by omega) (by omega) (by omega) (by omega) hd)
  have CN := Lib.hid (fun w => snew_yes c l w co (by omega) (by omega) ck)
  have dl := (keys_pos.1 dk).2
  have d1 := dr.1
  have DN := Lib.hid (fun w => snew_yes d k w dO (by omega) (by omega) dk)
  have dw1 : IntKind.i64.wrap (d.bt + 1) = d.bt + 1 := IntWalk.i64_in _ ⟨by omega, by omega⟩
  have dw2 : wrap64 (d.bt + 1) = d.bt + 1 := IntWalk.wrap64_in _ ⟨by omega, by omega⟩
  have dn : ¬ d.bt + 1 = 0 := by omega
  have hno : ¬ (cfgE c d = true ∧ l = k) := by
    intro h
    have h1 := of_decide_eq_true h.1
    have h2 := h.2
    obtain ⟨g1, g2, g3, g4, g5⟩ := h1
    simp [g1, g2, g3, g4, g5, h2] at b4
  have CI := Lib.hid (fun p F q G w h g => inner_any p F c l (zerosL (rws c) (wds c)) q G d k (zerosL (rws d) (wds d)) w h g)
  have hv := in_no (L := zerosL (rws c) (wds c)) (M := zerosL (rws d) (wds d)) hno
  rw [hv.1, hv.2, (show Wid.fh 0 = 0 by decide), (show Wid.fl 0 = 0 by decide)] at CI
  have cw1 : IntKind.i64.wrap (c.bt + 1) = c.bt + 1 := IntWalk.i64_in _ ⟨by omega, by omega⟩
  have cw2 : wrap64 (c.bt + 1) = c.bt + 1 := IntWalk.wrap64_in _ ⟨by omega, by omega⟩
  have cn : ¬ c.bt + 1 = 0 := by omega
  have HBX : Hid (Have w (((w.alloc (.cells #[.int .i64 x.bt, .int .i64 x.rw, .int .i64 x.wd, .int .i64 x.md, .int .u64 x.sd] 31)).alloc (.cells #[.int .i64 y.bt, .int .i64 y.rw, .int .i64 y.wd, .int .i64 y.md, .int .u64 y.sd] 31)).alloc (.cells #[.int .i64 lv, .int .i64 lv2] 61)) [boxT (w.heap.size + 1 + 1) 61 #[.int .i64 lv, .int .i64 lv2], boxT (w.heap.size + 1) 31 #[.int .i64 y.bt, .int .i64 y.rw, .int .i64 y.wd, .int .i64 y.md, .int .u64 y.sd], boxT w.heap.size 31 #[.int .i64 x.bt, .int .i64 x.rw, .int .i64 x.wd, .int .i64 x.md, .int .u64 x.sd]]) := Lib.hid (three_boxs w _ _ _ _ _ _)
  clear hv hc hd hx hy cr co ck dr dO dk hno
  go_enter Try.func8, Try.ntmps8
  go_wp2_with (first
    | (go_at_call 18; (with_reducible refine (inner_nil2 p _).mono ?_); rintro e w8 ⟨rfl, hb⟩; have HV8 := Lib.hid ((HV7.out.up hb).up (Lw.below_alloc (Below.refl _ _) (.cells #[.int .i64 0, .int .u64 0] 26))); clear hb z0 z1; have z0 := box_cell (i := 0) HV8.out.i0 rfl; have z1 := box_cell (i := 1) HV8.out.i0 rfl)
    | (go_at_call 18; (with_reducible refine (inner_nil1 (.pointer (some q)) (.inr ⟨q, rfl⟩) _).mono ?_); rintro e w7 ⟨rfl, hb⟩; have HV7 := Lib.hid ((HV6.out.up hb).up (Lw.below_alloc (Below.refl _ _) (.cells #[.int .i64 0, .int .u64 0] 26))); clear hb z0 z1; have z0 := box_cell (i := 0) HV7.out.i0 rfl; have z1 := box_cell (i := 1) HV7.out.i0 rfl)
    | (go_at_call 18; (with_reducible refine (CI.out _ _ _ _ _ (skI HV5.out.i1) (skI HV5.out.i0)).mono ?_); rintro e w6 ⟨rfl, hb⟩; have HV6 := Lib.hid ((HV5.out.up hb).push (boxT w6.heap.size 26 #[.int .i64 0, .int .u64 0]) (Lw.below_alloc (Below.refl _ _) _) (heap_alloc_new w6 _) (fun k hk => Nat.le_of_eq hk.symm)); clear hb x0 x1 x2 x3 x4 y0 y1 y2 y3 y4 v0 v1 c0 c1 c2 c3 c4 d0 d1 d2 d3 d4; have z0 := box_cell (i := 0) HV6.out.i0 rfl; have z1 := box_cell (i := 1) HV6.out.i0 rfl)
    | (go_at_call 14; (with_reducible refine (DN.out _).mono ?_); rintro e w5 ⟨q, G, rfl, h1, h2, hb⟩; have HV5 := Lib.hid (HV4.out.push (skT q G d k (zerosL (rws d) (wds d))) hb h1 h2); clear h1 h2 hb; clear x0 x1 x2 x3 x4 y0 y1 y2 y3 y4 v0 v1 c0 c1 c2 c3 c4 d0 d1 d2 d3 d4; obtain ⟨x0, x1, x2, x3, x4⟩ := box5 HV5.out.i6; obtain ⟨y0, y1, y2, y3, y4⟩ := box5 HV5.out.i5; obtain ⟨v0, v1⟩ := box2 HV5.out.i4; obtain ⟨c0, c1, c2, c3, c4⟩ := box5 HV5.out.i3; obtain ⟨d0, d1, d2, d3, d4⟩ := box5 HV5.out.i2)
    | (go_at_call 14; (with_reducible refine (CN.out _).mono ?_); rintro e w4 ⟨p, F, rfl, h1, h2, hb⟩; have HV4 := Lib.hid (HV3.out.push (skT p F c l (zerosL (rws c) (wds c))) hb h1 h2); clear h1 h2 hb; clear x0 x1 x2 x3 x4 y0 y1 y2 y3 y4 v0 v1 c0 c1 c2 c3 c4 d0 d1 d2 d3 d4; obtain ⟨x0, x1, x2, x3, x4⟩ := box5 HV4.out.i5; obtain ⟨y0, y1, y2, y3, y4⟩ := box5 HV4.out.i4; obtain ⟨v0, v1⟩ := box2 HV4.out.i3; obtain ⟨c0, c1, c2, c3, c4⟩ := box5 HV4.out.i2; obtain ⟨d0, d1, d2, d3, d4⟩ := box5 HV4.out.i1)
    | (go_at_call 13; (with_reducible refine (DA.out _).mono ?_); rintro e w3 ⟨rfl, hb⟩; have HV3 := Lib.hid ((HV2.out.up hb).push (boxT w3.heap.size 31 #[.int .i64 d.bt, .int .i64 d.rw, .int .i64 d.wd, .int .i64 d.md, .int .u64 d.sd]) (Lw.below_alloc (Below.refl _ _) _) (heap_alloc_new w3 _) (fun k hk => Nat.le_of_eq hk.symm)); clear hb; clear x0 x1 x2 x3 x4 y0 y1 y2 y3 y4 v0 v1 c0 c1 c2 c3 c4; obtain ⟨x0, x1, x2, x3, x4⟩ := box5 HV3.out.i4; obtain ⟨y0, y1, y2, y3, y4⟩ := box5 HV3.out.i3; obtain ⟨v0, v1⟩ := box2 HV3.out.i2; obtain ⟨c0, c1, c2, c3, c4⟩ := box5 HV3.out.i1; obtain ⟨d0, d1, d2, d3, d4⟩ := box5 HV3.out.i0)
    | (go_at_call 13; (with_reducible refine (CA.out _).mono ?_); rintro e w2 ⟨rfl, hb⟩; have HV2 := Lib.hid ((HV1.out.up hb).push (boxT w2.heap.size 31 #[.int .i64 c.bt, .int .i64 c.rw, .int .i64 c.wd, .int .i64 c.md, .int .u64 c.sd]) (Lw.below_alloc (Below.refl _ _) _) (heap_alloc_new w2 _) (fun k hk => Nat.le_of_eq hk.symm)); clear hb; clear x0 x1 x2 x3 x4 y0 y1 y2 y3 y4 v0 v1; obtain ⟨x0, x1, x2, x3, x4⟩ := box5 HV2.out.i3; obtain ⟨y0, y1, y2, y3, y4⟩ := box5 HV2.out.i2; obtain ⟨v0, v1⟩ := box2 HV2.out.i1; obtain ⟨c0, c1, c2, c3, c4⟩ := box5 HV2.out.i0)
    | (go_at_call 10; (with_reducible refine (shown_any _).mono ?_); rintro e w1 ⟨rfl, hb⟩; have HV1 := Lib.hid (HBX.out.up hb); clear hb; obtain ⟨x0, x1, x2, x3, x4⟩ := box5 HV1.out.i2; obtain ⟨y0, y1, y2, y3, y4⟩ := box5 HV1.out.i1; obtain ⟨v0, v1⟩ := box2 HV1.out.i0))
  all_goals go_ret
  all_goals exact ⟨ret_bs (by first | rfl | (simp [*]; done)), HV8.out.below⟩
set_option maxRecDepth 100000 in
set_option maxHeartbeats 8000000 in
theorem unl_no5 (x y : Cfg) (lv lv2 : Int) (w : World) (hx : x.Ok) (hy : y.Ok) (hlv : -9223372036854775808 ≤ lv ∧ lv ≤ 9223372036854775807) (hlv2 : -9223372036854775808 ≤ lv2 ∧ lv2 ≤ 9223372036854775807) (c : Cfg) (l : Int) (d : Cfg) (k : Int) (cr : IsRight c) (co : c.Ok) (cb : c.bt ≤ 8) (ck : 1 ≤ keys c l) (dr : IsRight d) (dO : d.Ok) (db : d.bt ≤ 8) (dk : 1 ≤ keys d k) (X Y : Int) (ca1 : bits .and .i64 lv 65535 = X) (ca4 : Int.tmod X (c.bt + 1) = l) (da1 : bits .and .i64 lv2 65535 = Y) (da4 : Int.tmod Y (d.bt + 1) = k) (hc : anyC x 8 9 = c) (hd : anyC y 8 9 = d) (b0 : (c.bt == d.bt) = true) (b1 : (c.rw == d.rw) = true) (b2 : (c.wd == d.wd) = true) (b3 : (c.md == d.md) = true) (b4 : (c.sd == d.sd) = true) (b5 : (l == k) = false) :
    Calls Try.prog 8 #[.agg #[.int .i64 x.bt, .int .i64 x.rw, .int .i64 x.wd, .int .i64 x.md, .int .u64 x.sd], .agg #[.int .i64 y.bt, .int .i64 y.rw, .int .i64 y.wd, .int .i64 y.md, .int .u64 y.sd], .agg #[.int .i64 lv, .int .i64 lv2]] w fun e w' => e = .returned (.bool true) ∧ Below w.heap.size w w' := by
  have cl := (keys_pos.1 ck).2
  have c1 := cr.1
  have CA := Lib.hid (fun w => rany_at x 8 9 c w hx (by omega) (by omega) (by omega) (by omega) hc)
  have DA := Lib.hid (fun w => rany_at y 8 9 d w hy (by omega) (by omega) (by omega) (by omega) hd)
  have CN := Lib.hid (fun w => snew_yes c l w co (by omega) (by omega) ck)
  have dl := (keys_pos.1 dk).2
  have d1 := dr.1
  have DN := Lib.hid (fun w => snew_yes d k w dO (by omega) (by omega) dk)
  have dw1 : IntKind.i64.wrap (d.bt + 1) = d.bt + 1 := IntWalk.i64_in _ ⟨by omega, by omega⟩
  have dw2 : wrap64 (d.bt + 1) = d.bt + 1 := IntWalk.wrap64_in _ ⟨by omega, by omega⟩
  have dn : ¬ d.bt + 1 = 0 := by omega
  have hno : ¬ (cfgE c d = true ∧ l = k) := by
    intro h
    have h1 := of_decide_eq_true h.1
    have h2 := h.2
    obtain ⟨g1, g2, g3, g4, g5⟩ := h1
    simp [g1, g2, g3, g4, g5, h2] at b5
  have CI := Lib.hid (fun p F q G w h g => inner_any p F c l (zerosL (rws c) (wds c)) q G d k (zerosL (rws d) (wds d)) w h g)
  have hv := in_no (L := zerosL (rws c) (wds c)) (M := zerosL (rws d) (wds d)) hno
  rw [hv.1, hv.2, (show Wid.fh 0 = 0 by decide), (show Wid.fl 0 = 0 by decide)] at CI
  have cw1 : IntKind.i64.wrap (c.bt + 1) = c.bt + 1 := IntWalk.i64_in _ ⟨by omega, by omega⟩
  have cw2 : wrap64 (c.bt + 1) = c.bt + 1 := IntWalk.wrap64_in _ ⟨by omega, by omega⟩
  have cn : ¬ c.bt + 1 = 0 := by omega
  have HBX : Hid (Have w (((w.alloc (.cells #[.int .i64 x.bt, .int .i64 x.rw, .int .i64 x.wd, .int .i64 x.md, .int .u64 x.sd] 31)).alloc (.cells #[.int .i64 y.bt, .int .i64 y.rw, .int .i64 y.wd, .int .i64 y.md, .int .u64 y.sd] 31)).alloc (.cells #[.int .i64 lv, .int .i64 lv2] 61)) [boxT (w.heap.size + 1 + 1) 61 #[.int .i64 lv, .int .i64 lv2], boxT (w.heap.size + 1) 31 #[.int .i64 y.bt, .int .i64 y.rw, .int .i64 y.wd, .int .i64 y.md, .int .u64 y.sd], boxT w.heap.size 31 #[.int .i64 x.bt, .int .i64 x.rw, .int .i64 x.wd, .int .i64 x.md, .int .u64 x.sd]]) := Lib.hid (three_boxs w _ _ _ _ _ _)
  clear hv hc hd hx hy cr co ck dr dO dk hno
  go_enter Try.func8, Try.ntmps8
  go_wp2_with (first
    | (go_at_call 18; (with_reducible refine (inner_nil2 p _).mono ?_); rintro e w8 ⟨rfl, hb⟩; have HV8 := Lib.hid ((HV7.out.up hb).up (Lw.below_alloc (Below.refl _ _) (.cells #[.int .i64 0, .int .u64 0] 26))); clear hb z0 z1; have z0 := box_cell (i := 0) HV8.out.i0 rfl; have z1 := box_cell (i := 1) HV8.out.i0 rfl)
    | (go_at_call 18; (with_reducible refine (inner_nil1 (.pointer (some q)) (.inr ⟨q, rfl⟩) _).mono ?_); rintro e w7 ⟨rfl, hb⟩; have HV7 := Lib.hid ((HV6.out.up hb).up (Lw.below_alloc (Below.refl _ _) (.cells #[.int .i64 0, .int .u64 0] 26))); clear hb z0 z1; have z0 := box_cell (i := 0) HV7.out.i0 rfl; have z1 := box_cell (i := 1) HV7.out.i0 rfl)
    | (go_at_call 18; (with_reducible refine (CI.out _ _ _ _ _ (skI HV5.out.i1) (skI HV5.out.i0)).mono ?_); rintro e w6 ⟨rfl, hb⟩; have HV6 := Lib.hid ((HV5.out.up hb).push (boxT w6.heap.size 26 #[.int .i64 0, .int .u64 0]) (Lw.below_alloc (Below.refl _ _) _) (heap_alloc_new w6 _) (fun k hk => Nat.le_of_eq hk.symm)); clear hb x0 x1 x2 x3 x4 y0 y1 y2 y3 y4 v0 v1 c0 c1 c2 c3 c4 d0 d1 d2 d3 d4; have z0 := box_cell (i := 0) HV6.out.i0 rfl; have z1 := box_cell (i := 1) HV6.out.i0 rfl)
    | (go_at_call 14; (with_reducible refine (DN.out _).mono ?_); rintro e w5 ⟨q, G, rfl, h1, h2, hb⟩; have HV5 := Lib.hid (HV4.out.push (skT q G d k (zerosL (rws d) (wds d))) hb h1 h2); clear h1 h2 hb; clear x0 x1 x2 x3 x4 y0 y1 y2 y3 y4 v0 v1 c0 c1 c2 c3 c4 d0 d1 d2 d3 d4; obtain ⟨x0, x1, x2, x3, x4⟩ := box5 HV5.out.i6; obtain ⟨y0, y1, y2, y3, y4⟩ := box5 HV5.out.i5; obtain ⟨v0, v1⟩ := box2 HV5.out.i4; obtain ⟨c0, c1, c2, c3, c4⟩ := box5 HV5.out.i3; obtain ⟨d0, d1, d2, d3, d4⟩ := box5 HV5.out.i2)
    | (go_at_call 14; (with_reducible refine (CN.out _).mono ?_); rintro e w4 ⟨p, F, rfl, h1, h2, hb⟩; have HV4 := Lib.hid (HV3.out.push (skT p F c l (zerosL (rws c) (wds c))) hb h1 h2); clear h1 h2 hb; clear x0 x1 x2 x3 x4 y0 y1 y2 y3 y4 v0 v1 c0 c1 c2 c3 c4 d0 d1 d2 d3 d4; obtain ⟨x0, x1, x2, x3, x4⟩ := box5 HV4.out.i5; obtain ⟨y0, y1, y2, y3, y4⟩ := box5 HV4.out.i4; obtain ⟨v0, v1⟩ := box2 HV4.out.i3; obtain ⟨c0, c1, c2, c3, c4⟩ := box5 HV4.out.i2; obtain ⟨d0, d1, d2, d3, d4⟩ := box5 HV4.out.i1)
    | (go_at_call 13; (with_reducible refine (DA.out _).mono ?_); rintro e w3 ⟨rfl, hb⟩; have HV3 := Lib.hid ((HV2.out.up hb).push (boxT w3.heap.size 31 #[.int .i64 d.bt, .int .i64 d.rw, .int .i64 d.wd, .int .i64 d.md, .int .u64 d.sd]) (Lw.below_alloc (Below.refl _ _) _) (heap_alloc_new w3 _) (fun k hk => Nat.le_of_eq hk.symm)); clear hb; clear x0 x1 x2 x3 x4 y0 y1 y2 y3 y4 v0 v1 c0 c1 c2 c3 c4; obtain ⟨x0, x1, x2, x3, x4⟩ := box5 HV3.out.i4; obtain ⟨y0, y1, y2, y3, y4⟩ := box5 HV3.out.i3; obtain ⟨v0, v1⟩ := box2 HV3.out.i2; obtain ⟨c0, c1, c2, c3, c4⟩ := box5 HV3.out.i1; obtain ⟨d0, d1, d2, d3, d4⟩ := box5 HV3.out.i0)
    | (go_at_call 13; (with_reducible refine (CA.out _).mono ?_); rintro e w2 ⟨rfl, hb⟩; have HV2 := Lib.hid ((HV1.out.up hb).push (boxT w2.heap.size 31 #[.int .i64 c.bt, .int .i64 c.rw, .int .i64 c.wd, .int .i64 c.md, .int .u64 c.sd]) (Lw.below_alloc (Below.refl _ _) _) (heap_alloc_new w2 _) (fun k hk => Nat.le_of_eq hk.symm)); clear hb; clear x0 x1 x2 x3 x4 y0 y1 y2 y3 y4 v0 v1; obtain ⟨x0, x1, x2, x3, x4⟩ := box5 HV2.out.i3; obtain ⟨y0, y1, y2, y3, y4⟩ := box5 HV2.out.i2; obtain ⟨v0, v1⟩ := box2 HV2.out.i1; obtain ⟨c0, c1, c2, c3, c4⟩ := box5 HV2.out.i0)
    | (go_at_call 10; (with_reducible refine (shown_any _).mono ?_); rintro e w1 ⟨rfl, hb⟩; have HV1 := Lib.hid (HBX.out.up hb); clear hb; obtain ⟨x0, x1, x2, x3, x4⟩ := box5 HV1.out.i2; obtain ⟨y0, y1, y2, y3, y4⟩ := box5 HV1.out.i1; obtain ⟨v0, v1⟩ := box2 HV1.out.i0))
  all_goals go_ret
  all_goals exact ⟨ret_bs (by first | rfl | (simp [*]; done)), HV8.out.below⟩
set_option maxRecDepth 100000 in
set_option maxHeartbeats 8000000 in
theorem unl_yes (x y : Cfg) (lv lv2 : Int) (w : World) (hx : x.Ok) (hy : y.Ok) (hlv : -9223372036854775808 ≤ lv ∧ lv ≤ 9223372036854775807) (hlv2 : -9223372036854775808 ≤ lv2 ∧ lv2 ≤ 9223372036854775807) (c : Cfg) (l : Int) (cr : IsRight c) (co : c.Ok) (cb : c.bt ≤ 8) (ck : 1 ≤ keys c l) (X Y : Int) (ca1 : bits .and .i64 lv 65535 = X) (ca4 : Int.tmod X (c.bt + 1) = l) (da1 : bits .and .i64 lv2 65535 = Y) (da4 : Int.tmod Y (c.bt + 1) = l) (hc : anyC x 8 9 = c) (hd : anyC y 8 9 = c) (bm : c.md = 1) :
    Calls Try.prog 8 #[.agg #[.int .i64 x.bt, .int .i64 x.rw, .int .i64 x.wd, .int .i64 x.md, .int .u64 x.sd], .agg #[.int .i64 y.bt, .int .i64 y.rw, .int .i64 y.wd, .int .i64 y.md, .int .u64 y.sd], .agg #[.int .i64 lv, .int .i64 lv2]] w fun e w' => e = .returned (.bool true) ∧ Below w.heap.size w w' := by
  have cl := (keys_pos.1 ck).2
  have c1 := cr.1
  have CA := Lib.hid (fun w => rany_at x 8 9 c w hx (by omega) (by omega) (by omega) (by omega) hc)
  have DA := Lib.hid (fun w => rany_at y 8 9 c w hy (by omega) (by omega) (by omega) (by omega) hd)
  have CN := Lib.hid (fun w => snew_yes c l w co (by omega) (by omega) ck)
  have DN := CN
  have CI := Lib.hid (fun p F q G w h g => inner_any p F c l (zerosL (rws c) (wds c)) q G c l (zerosL (rws c) (wds c)) w h g)
  have hv := in_zero (l := l) cr bm (sz_zeros (rws c) (wds c))
  have bmb : (c.md != 1) = false := by simp [bm]
  rw [hv.1, hv.2, (show Wid.fh 0 = 0 by decide), (show Wid.fl 0 = 0 by decide)] at CI
  have cw1 : IntKind.i64.wrap (c.bt + 1) = c.bt + 1 := IntWalk.i64_in _ ⟨by omega, by omega⟩
  have cw2 : wrap64 (c.bt + 1) = c.bt + 1 := IntWalk.wrap64_in _ ⟨by omega, by omega⟩
  have cn : ¬ c.bt + 1 = 0 := by omega
  have HBX : Hid (Have w (((w.alloc (.cells #[.int .i64 x.bt, .int .i64 x.rw, .int .i64 x.wd, .int .i64 x.md, .int .u64 x.sd] 31)).alloc (.cells #[.int .i64 y.bt, .int .i64 y.rw, .int .i64 y.wd, .int .i64 y.md, .int .u64 y.sd] 31)).alloc (.cells #[.int .i64 lv, .int .i64 lv2] 61)) [boxT (w.heap.size + 1 + 1) 61 #[.int .i64 lv, .int .i64 lv2], boxT (w.heap.size + 1) 31 #[.int .i64 y.bt, .int .i64 y.rw, .int .i64 y.wd, .int .i64 y.md, .int .u64 y.sd], boxT w.heap.size 31 #[.int .i64 x.bt, .int .i64 x.rw, .int .i64 x.wd, .int .i64 x.md, .int .u64 x.sd]]) := Lib.hid (three_boxs w _ _ _ _ _ _)
  clear hv hc hd hx hy cr co ck bm
  go_enter Try.func8, Try.ntmps8
  go_wp2_with (first
    | (go_at_call 18; (with_reducible refine (inner_nil2 p _).mono ?_); rintro e w8 ⟨rfl, hb⟩; have HV8 := Lib.hid ((HV7.out.up hb).up (Lw.below_alloc (Below.refl _ _) (.cells #[.int .i64 0, .int .u64 0] 26))); clear hb z0 z1; have z0 := box_cell (i := 0) HV8.out.i0 rfl; have z1 := box_cell (i := 1) HV8.out.i0 rfl)
    | (go_at_call 18; (with_reducible refine (inner_nil1 (.pointer (some q)) (.inr ⟨q, rfl⟩) _).mono ?_); rintro e w7 ⟨rfl, hb⟩; have HV7 := Lib.hid ((HV6.out.up hb).up (Lw.below_alloc (Below.refl _ _) (.cells #[.int .i64 0, .int .u64 0] 26))); clear hb z0 z1; have z0 := box_cell (i := 0) HV7.out.i0 rfl; have z1 := box_cell (i := 1) HV7.out.i0 rfl)
    | (go_at_call 18; (with_reducible refine (CI.out _ _ _ _ _ (skI HV5.out.i1) (skI HV5.out.i0)).mono ?_); rintro e w6 ⟨rfl, hb⟩; have HV6 := Lib.hid ((HV5.out.up hb).push (boxT w6.heap.size 26 #[.int .i64 0, .int .u64 0]) (Lw.below_alloc (Below.refl _ _) _) (heap_alloc_new w6 _) (fun k hk => Nat.le_of_eq hk.symm)); clear hb x0 x1 x2 x3 x4 y0 y1 y2 y3 y4 v0 v1 c0 c1 c2 c3 c4 d0 d1 d2 d3 d4; have z0 := box_cell (i := 0) HV6.out.i0 rfl; have z1 := box_cell (i := 1) HV6.out.i0 rfl)
    | (go_at_call 14; (with_reducible refine (DN.out _).mono ?_); rintro e w5 ⟨q, G, rfl, h1, h2, hb⟩; have HV5 := Lib.hid (HV4.out.push (skT q G c l (zerosL (rws c) (wds c))) hb h1 h2); clear h1 h2 hb; clear x0 x1 x2 x3 x4 y0 y1 y2 y3 y4 v0 v1 c0 c1 c2 c3 c4 d0 d1 d2 d3 d4; obtain ⟨x0, x1, x2, x3, x4⟩ := box5 HV5.out.i6; obtain ⟨y0, y1, y2, y3, y4⟩ := box5 HV5.out.i5; obtain ⟨v0, v1⟩ := box2 HV5.out.i4; obtain ⟨c0, c1, c2, c3, c4⟩ := box5 HV5.out.i3; obtain ⟨d0, d1, d2, d3, d4⟩ := box5 HV5.out.i2)
    | (go_at_call 14; (with_reducible refine (CN.out _).mono ?_); rintro e w4 ⟨p, F, rfl, h1, h2, hb⟩; have HV4 := Lib.hid (HV3.out.push (skT p F c l (zerosL (rws c) (wds c))) hb h1 h2); clear h1 h2 hb; clear x0 x1 x2 x3 x4 y0 y1 y2 y3 y4 v0 v1 c0 c1 c2 c3 c4 d0 d1 d2 d3 d4; obtain ⟨x0, x1, x2, x3, x4⟩ := box5 HV4.out.i5; obtain ⟨y0, y1, y2, y3, y4⟩ := box5 HV4.out.i4; obtain ⟨v0, v1⟩ := box2 HV4.out.i3; obtain ⟨c0, c1, c2, c3, c4⟩ := box5 HV4.out.i2; obtain ⟨d0, d1, d2, d3, d4⟩ := box5 HV4.out.i1)
    | (go_at_call 13; (with_reducible refine (DA.out _).mono ?_); rintro e w3 ⟨rfl, hb⟩; have HV3 := Lib.hid ((HV2.out.up hb).push (boxT w3.heap.size 31 #[.int .i64 c.bt, .int .i64 c.rw, .int .i64 c.wd, .int .i64 c.md, .int .u64 c.sd]) (Lw.below_alloc (Below.refl _ _) _) (heap_alloc_new w3 _) (fun k hk => Nat.le_of_eq hk.symm)); clear hb; clear x0 x1 x2 x3 x4 y0 y1 y2 y3 y4 v0 v1 c0 c1 c2 c3 c4; obtain ⟨x0, x1, x2, x3, x4⟩ := box5 HV3.out.i4; obtain ⟨y0, y1, y2, y3, y4⟩ := box5 HV3.out.i3; obtain ⟨v0, v1⟩ := box2 HV3.out.i2; obtain ⟨c0, c1, c2, c3, c4⟩ := box5 HV3.out.i1; obtain ⟨d0, d1, d2, d3, d4⟩ := box5 HV3.out.i0)
    | (go_at_call 13; (with_reducible refine (CA.out _).mono ?_); rintro e w2 ⟨rfl, hb⟩; have HV2 := Lib.hid ((HV1.out.up hb).push (boxT w2.heap.size 31 #[.int .i64 c.bt, .int .i64 c.rw, .int .i64 c.wd, .int .i64 c.md, .int .u64 c.sd]) (Lw.below_alloc (Below.refl _ _) _) (heap_alloc_new w2 _) (fun k hk => Nat.le_of_eq hk.symm)); clear hb; clear x0 x1 x2 x3 x4 y0 y1 y2 y3 y4 v0 v1; obtain ⟨x0, x1, x2, x3, x4⟩ := box5 HV2.out.i3; obtain ⟨y0, y1, y2, y3, y4⟩ := box5 HV2.out.i2; obtain ⟨v0, v1⟩ := box2 HV2.out.i1; obtain ⟨c0, c1, c2, c3, c4⟩ := box5 HV2.out.i0)
    | (go_at_call 10; (with_reducible refine (shown_any _).mono ?_); rintro e w1 ⟨rfl, hb⟩; have HV1 := Lib.hid (HBX.out.up hb); clear hb; obtain ⟨x0, x1, x2, x3, x4⟩ := box5 HV1.out.i2; obtain ⟨y0, y1, y2, y3, y4⟩ := box5 HV1.out.i1; obtain ⟨v0, v1⟩ := box2 HV1.out.i0))
  all_goals go_ret
  all_goals exact ⟨ret_bs (by first | rfl | (simp [*]; done)), HV8.out.below⟩
set_option maxRecDepth 100000 in
set_option maxHeartbeats 8000000 in
theorem unl_mode (x y : Cfg) (lv lv2 : Int) (w : World) (hx : x.Ok) (hy : y.Ok) (hlv : -9223372036854775808 ≤ lv ∧ lv ≤ 9223372036854775807) (hlv2 : -9223372036854775808 ≤ lv2 ∧ lv2 ≤ 9223372036854775807) (c : Cfg) (l : Int) (cr : IsRight c) (co : c.Ok) (cb : c.bt ≤ 8) (ck : 1 ≤ keys c l) (X Y : Int) (ca1 : bits .and .i64 lv 65535 = X) (ca4 : Int.tmod X (c.bt + 1) = l) (da1 : bits .and .i64 lv2 65535 = Y) (da4 : Int.tmod Y (c.bt + 1) = l) (hc : anyC x 8 9 = c) (hd : anyC y 8 9 = c) (bm : ¬ c.md = 1) :
    Calls Try.prog 8 #[.agg #[.int .i64 x.bt, .int .i64 x.rw, .int .i64 x.wd, .int .i64 x.md, .int .u64 x.sd], .agg #[.int .i64 y.bt, .int .i64 y.rw, .int .i64 y.wd, .int .i64 y.md, .int .u64 y.sd], .agg #[.int .i64 lv, .int .i64 lv2]] w fun e w' => e = .returned (.bool true) ∧ Below w.heap.size w w' := by
  have cl := (keys_pos.1 ck).2
  have c1 := cr.1
  have CA := Lib.hid (fun w => rany_at x 8 9 c w hx (by omega) (by omega) (by omega) (by omega) hc)
  have DA := Lib.hid (fun w => rany_at y 8 9 c w hy (by omega) (by omega) (by omega) (by omega) hd)
  have CN := Lib.hid (fun w => snew_yes c l w co (by omega) (by omega) ck)
  have DN := CN
  have CI := Lib.hid (fun p F q G w h g => inner_any p F c l (zerosL (rws c) (wds c)) q G c l (zerosL (rws c) (wds c)) w h g)
  have hv := in_mode (l := l) (L := zerosL (rws c) (wds c)) (M := zerosL (rws c) (wds c)) bm
  have bmb : (c.md != 1) = true := by simpa using bm
  rw [hv.1, hv.2, (show Wid.fh 0 = 0 by decide), (show Wid.fl 0 = 0 by decide)] at CI
  have cw1 : IntKind.i64.wrap (c.bt + 1) = c.bt + 1 := IntWalk.i64_in _ ⟨by omega, by omega⟩
  have cw2 : wrap64 (c.bt + 1) = c.bt + 1 := IntWalk.wrap64_in _ ⟨by omega, by omega⟩
  have cn : ¬ c.bt + 1 = 0 := by omega
  have HBX : Hid (Have w (((w.alloc (.cells #[.int .i64 x.bt, .int .i64 x.rw, .int .i64 x.wd, .int .i64 x.md, .int .u64 x.sd] 31)).alloc (.cells #[.int .i64 y.bt, .int .i64 y.rw, .int .i64 y.wd, .int .i64 y.md, .int .u64 y.sd] 31)).alloc (.cells #[.int .i64 lv, .int .i64 lv2] 61)) [boxT (w.heap.size + 1 + 1) 61 #[.int .i64 lv, .int .i64 lv2], boxT (w.heap.size + 1) 31 #[.int .i64 y.bt, .int .i64 y.rw, .int .i64 y.wd, .int .i64 y.md, .int .u64 y.sd], boxT w.heap.size 31 #[.int .i64 x.bt, .int .i64 x.rw, .int .i64 x.wd, .int .i64 x.md, .int .u64 x.sd]]) := Lib.hid (three_boxs w _ _ _ _ _ _)
  clear hv hc hd hx hy cr co ck bm
  go_enter Try.func8, Try.ntmps8
  go_wp2_with (first
    | (go_at_call 18; (with_reducible refine (inner_nil2 p _).mono ?_); rintro e w8 ⟨rfl, hb⟩; have HV8 := Lib.hid ((HV7.out.up hb).up (Lw.below_alloc (Below.refl _ _) (.cells #[.int .i64 0, .int .u64 0] 26))); clear hb z0 z1; have z0 := box_cell (i := 0) HV8.out.i0 rfl; have z1 := box_cell (i := 1) HV8.out.i0 rfl)
    | (go_at_call 18; (with_reducible refine (inner_nil1 (.pointer (some q)) (.inr ⟨q, rfl⟩) _).mono ?_); rintro e w7 ⟨rfl, hb⟩; have HV7 := Lib.hid ((HV6.out.up hb).up (Lw.below_alloc (Below.refl _ _) (.cells #[.int .i64 0, .int .u64 0] 26))); clear hb z0 z1; have z0 := box_cell (i := 0) HV7.out.i0 rfl; have z1 := box_cell (i := 1) HV7.out.i0 rfl)
    | (go_at_call 18; (with_reducible refine (CI.out _ _ _ _ _ (skI HV5.out.i1) (skI HV5.out.i0)).mono ?_); rintro e w6 ⟨rfl, hb⟩; have HV6 := Lib.hid ((HV5.out.up hb).push (boxT w6.heap.size 26 #[.int .i64 0, .int .u64 0]) (Lw.below_alloc (Below.refl _ _) _) (heap_alloc_new w6 _) (fun k hk => Nat.le_of_eq hk.symm)); clear hb x0 x1 x2 x3 x4 y0 y1 y2 y3 y4 v0 v1 c0 c1 c2 c3 c4 d0 d1 d2 d3 d4; have z0 := box_cell (i := 0) HV6.out.i0 rfl; have z1 := box_cell (i := 1) HV6.out.i0 rfl)
    | (go_at_call 14; (with_reducible refine (DN.out _).mono ?_); rintro e w5 ⟨q, G, rfl, h1, h2, hb⟩; have HV5 := Lib.hid (HV4.out.push (skT q G c l (zerosL (rws c) (wds c))) hb h1 h2); clear h1 h2 hb; clear x0 x1 x2 x3 x4 y0 y1 y2 y3 y4 v0 v1 c0 c1 c2 c3 c4 d0 d1 d2 d3 d4; obtain ⟨x0, x1, x2, x3, x4⟩ := box5 HV5.out.i6; obtain ⟨y0, y1, y2, y3, y4⟩ := box5 HV5.out.i5; obtain ⟨v0, v1⟩ := box2 HV5.out.i4; obtain ⟨c0, c1, c2, c3, c4⟩ := box5 HV5.out.i3; obtain ⟨d0, d1, d2, d3, d4⟩ := box5 HV5.out.i2)
    | (go_at_call 14; (with_reducible refine (CN.out _).mono ?_); rintro e w4 ⟨p, F, rfl, h1, h2, hb⟩; have HV4 := Lib.hid (HV3.out.push (skT p F c l (zerosL (rws c) (wds c))) hb h1 h2); clear h1 h2 hb; clear x0 x1 x2 x3 x4 y0 y1 y2 y3 y4 v0 v1 c0 c1 c2 c3 c4 d0 d1 d2 d3 d4; obtain ⟨x0, x1, x2, x3, x4⟩ := box5 HV4.out.i5; obtain ⟨y0, y1, y2, y3, y4⟩ := box5 HV4.out.i4; obtain ⟨v0, v1⟩ := box2 HV4.out.i3; obtain ⟨c0, c1, c2, c3, c4⟩ := box5 HV4.out.i2; obtain ⟨d0, d1, d2, d3, d4⟩ := box5 HV4.out.i1)
    | (go_at_call 13; (with_reducible refine (DA.out _).mono ?_); rintro e w3 ⟨rfl, hb⟩; have HV3 := Lib.hid ((HV2.out.up hb).push (boxT w3.heap.size 31 #[.int .i64 c.bt, .int .i64 c.rw, .int .i64 c.wd, .int .i64 c.md, .int .u64 c.sd]) (Lw.below_alloc (Below.refl _ _) _) (heap_alloc_new w3 _) (fun k hk => Nat.le_of_eq hk.symm)); clear hb; clear x0 x1 x2 x3 x4 y0 y1 y2 y3 y4 v0 v1 c0 c1 c2 c3 c4; obtain ⟨x0, x1, x2, x3, x4⟩ := box5 HV3.out.i4; obtain ⟨y0, y1, y2, y3, y4⟩ := box5 HV3.out.i3; obtain ⟨v0, v1⟩ := box2 HV3.out.i2; obtain ⟨c0, c1, c2, c3, c4⟩ := box5 HV3.out.i1; obtain ⟨d0, d1, d2, d3, d4⟩ := box5 HV3.out.i0)
    | (go_at_call 13; (with_reducible refine (CA.out _).mono ?_); rintro e w2 ⟨rfl, hb⟩; have HV2 := Lib.hid ((HV1.out.up hb).push (boxT w2.heap.size 31 #[.int .i64 c.bt, .int .i64 c.rw, .int .i64 c.wd, .int .i64 c.md, .int .u64 c.sd]) (Lw.below_alloc (Below.refl _ _) _) (heap_alloc_new w2 _) (fun k hk => Nat.le_of_eq hk.symm)); clear hb; clear x0 x1 x2 x3 x4 y0 y1 y2 y3 y4 v0 v1; obtain ⟨x0, x1, x2, x3, x4⟩ := box5 HV2.out.i3; obtain ⟨y0, y1, y2, y3, y4⟩ := box5 HV2.out.i2; obtain ⟨v0, v1⟩ := box2 HV2.out.i1; obtain ⟨c0, c1, c2, c3, c4⟩ := box5 HV2.out.i0)
    | (go_at_call 10; (with_reducible refine (shown_any _).mono ?_); rintro e w1 ⟨rfl, hb⟩; have HV1 := Lib.hid (HBX.out.up hb); clear hb; obtain ⟨x0, x1, x2, x3, x4⟩ := box5 HV1.out.i2; obtain ⟨y0, y1, y2, y3, y4⟩ := box5 HV1.out.i1; obtain ⟨v0, v1⟩ := box2 HV1.out.i0))
  all_goals go_ret
  all_goals exact ⟨ret_bs (by first | rfl | (simp [*]; done)), HV8.out.below⟩
theorem unl_law (x y : Cfg) (lv lv2 : Int) (w : World) (hx : x.Ok) (hy : y.Ok) (hlv : -9223372036854775808 ≤ lv ∧ lv ≤ 9223372036854775807) (hlv2 : -9223372036854775808 ≤ lv2 ∧ lv2 ≤ 9223372036854775807) :
    Calls Try.prog 8 #[.agg #[.int .i64 x.bt, .int .i64 x.rw, .int .i64 x.wd, .int .i64 x.md, .int .u64 x.sd], .agg #[.int .i64 y.bt, .int .i64 y.rw, .int .i64 y.wd, .int .i64 y.md, .int .u64 y.sd], .agg #[.int .i64 lv, .int .i64 lv2]] w fun e w' => e = .returned (.bool true) ∧ Below w.heap.size w w' := by
  obtain ⟨c, hc⟩ : ∃ c, anyC x 8 9 = c := ⟨_, rfl⟩
  have cr := any_right x 8 9 (by omega) (by omega) (by omega) (by omega)
  have co := any_ok x hx 8 9 (by omega) (by omega) (by omega) (by omega)
  have cb : c.bt ≤ 8 := by
    have h1 := Int.emod_lt_of_pos (x.bt % 65536) (show (0 : Int) < 8 by omega)
    rw [← hc]
    show 1 + x.bt % 65536 % 8 ≤ 8
    omega
  rw [hc] at cr co
  have c1 := cr.1
  obtain ⟨X1, l, ca1, ca2, ca3, ca4, ca5, ca6⟩ := level_of lv (c.bt + 1) (by omega) (by omega)
  have ck : 1 ≤ keys c l := keys_pos.2 ⟨cr, by omega, by omega⟩
  obtain ⟨d, hd⟩ : ∃ d, anyC y 8 9 = d := ⟨_, rfl⟩
  have dr := any_right y 8 9 (by omega) (by omega) (by omega) (by omega)
  have dO := any_ok y hy 8 9 (by omega) (by omega) (by omega) (by omega)
  have db : d.bt ≤ 8 := by
    have h1 := Int.emod_lt_of_pos (y.bt % 65536) (show (0 : Int) < 8 by omega)
    rw [← hd]
    show 1 + y.bt % 65536 % 8 ≤ 8
    omega
  rw [hd] at dr dO
  have d1 := dr.1
  obtain ⟨X2, k, da1, da2, da3, da4, da5, da6⟩ := level_of lv2 (d.bt + 1) (by omega) (by omega)
  have dk : 1 ≤ keys d k := keys_pos.2 ⟨dr, by omega, by omega⟩
  by_cases e0 : c.bt = d.bt
  rotate_left
  · exact unl_no0 x y lv lv2 w hx hy hlv hlv2 c l d k cr co cb ck dr dO db dk X1 X2 ca1 ca4 da1 da4 hc hd  (by simpa using e0)
  by_cases e1 : c.rw = d.rw
  rotate_left
  · exact unl_no1 x y lv lv2 w hx hy hlv hlv2 c l d k cr co cb ck dr dO db dk X1 X2 ca1 ca4 da1 da4 hc hd (by simpa using e0) (by simpa using e1)
  by_cases e2 : c.wd = d.wd
  rotate_left
  · exact unl_no2 x y lv lv2 w hx hy hlv hlv2 c l d k cr co cb ck dr dO db dk X1 X2 ca1 ca4 da1 da4 hc hd (by simpa using e0) (by simpa using e1) (by simpa using e2)
  by_cases e3 : c.md = d.md
  rotate_left
  · exact unl_no3 x y lv lv2 w hx hy hlv hlv2 c l d k cr co cb ck dr dO db dk X1 X2 ca1 ca4 da1 da4 hc hd (by simpa using e0) (by simpa using e1) (by simpa using e2) (by simpa using e3)
  by_cases e4 : c.sd = d.sd
  rotate_left
  · exact unl_no4 x y lv lv2 w hx hy hlv hlv2 c l d k cr co cb ck dr dO db dk X1 X2 ca1 ca4 da1 da4 hc hd (by simpa using e0) (by simpa using e1) (by simpa using e2) (by simpa using e3) (by simpa using e4)
  by_cases e5 : l = k
  rotate_left
  · exact unl_no5 x y lv lv2 w hx hy hlv hlv2 c l d k cr co cb ck dr dO db dk X1 X2 ca1 ca4 da1 da4 hc hd (by simpa using e0) (by simpa using e1) (by simpa using e2) (by simpa using e3) (by simpa using e4) (by simpa using e5)
  have hcd : d = c := by
    cases c; cases d
    simp only at e0 e1 e2 e3 e4
    subst e0 e1 e2 e3 e4
    rfl
  subst hcd
  subst e5
  by_cases hm : d.md = 1
  · exact unl_yes x y lv lv2 w hx hy hlv hlv2 d l cr co cb ck X1 X2 ca1 ca4 da1 da4 hc hd hm
  · exact unl_mode x y lv lv2 w hx hy hlv hlv2 d l cr co cb ck X1 X2 ca1 ca4 da1 da4 hc hd hm
namespace innerUnlike
open Go.ChangeShapes Go.WideShapes Go.ChangeAt Go.Joins
set_option maxRecDepth 100000 in
theorem lifted (os : Os) (started : os.Started) (H : Type) (enc : TypeId × Value → H) :
    ReturnsInHanded {} Try.checked os 8 .any (Rows.innerUnlikeSpec.pre6 enc Try.prog Try.f8 Rows.innerUnlikeRow.domain false) (Rows.innerUnlikeSpec.post enc Try.prog Try.f8 false true false false) := by
  refine Lw.lifted (C := Try.checked) (B := 4) (by kernel_rfl) os started (by kernel_rfl) Try.func8
    (ChangeSpec.witness6 (enc := enc) (C := Try.checked) false ⟨#[], #[.agg #[.int .i64 0, .int .i64 0, .int .i64 0, .int .i64 0, .int .u64 0], .agg #[.int .i64 0, .int .i64 0, .int .i64 0, .int .i64 0, .int .u64 0], .agg #[.int .i64 0, .int .i64 0]], []⟩ 8 (by kernel_rfl) (by kernel_rfl) (by kernel_rfl) (by kernel_rfl)) rfl Try.underlying4 (by kernel_rfl) (by kernel_rfl) (by kernel_rfl) ?_ ?_
  · intro ds h
    rw [Try.params8] at h
    match ds, h with
    | [_, _, _], _ => rfl
  · intro W base args ds p hval hA
    rw [Try.params8] at hA hval
    obtain ⟨v0, vs0, d0, ds0, p0, q0, hargs, rfl, rfl, h0, r0⟩ := trodAll_cons hA
    obtain ⟨v1, vs1, d1, ds1, p1, q1, rfl, rfl, rfl, h1, r1⟩ := trodAll_cons r0
    obtain ⟨v2, vs2, d2, ds2, p2, q2, rfl, rfl, rfl, h2, r2⟩ := trodAll_cons r1
    obtain ⟨rfl, rfl, rfl⟩ := trodAll_nil r2
    obtain rfl : args = #[v0, v1, v2] := by cases args; simp_all
    obtain ⟨x0_0, x0_1, x0_2, x0_3, x0_4, rfl, z0_0, z0_1, z0_2, z0_3, z0_4⟩ := open_cfg (hval 0 31 v0 rfl rfl) h0
    obtain ⟨x1_0, x1_1, x1_2, x1_3, x1_4, rfl, z1_0, z1_1, z1_2, z1_3, z1_4⟩ := open_cfg (hval 1 31 v1 rfl rfl) h1
    obtain ⟨x2_0, x2_1, rfl, z2_0, z2_1⟩ := open_arr2_int (hval 2 61 v2 rfl rfl) h2
    exact unl_law ⟨x0_0, x0_1, x0_2, x0_3, x0_4⟩ ⟨x1_0, x1_1, x1_2, x1_3, x1_4⟩ x2_0 x2_1 W ⟨z0_0.1, z0_0.2, z0_1.1, z0_1.2, z0_2.1, z0_2.2, z0_3.1, z0_3.2, z0_4.1, z0_4.2⟩ ⟨z1_0.1, z1_0.2, z1_1.1, z1_1.2, z1_2.1, z1_2.2, z1_3.1, z1_3.2, z1_4.1, z1_4.2⟩ z2_0 z2_1
theorem over : Rows.innerUnlikeRow.holds Try.pinned (OpenSpec.ofChange Rows.innerUnlikeSpec) :=
  OpenClaim.holds_of_wide 8 Try.f8 rfl rfl rfl rfl rfl rfl rfl ⟨rfl, rfl, rfl, rfl, rfl⟩ rfl rfl rfl rfl rfl (by kernel_rfl) Try.func8 (by kernel_rfl)
    (of_decide_eq_true (by kernel_rfl)) (by unfold Func.isWrapper; first | (rw [if_pos (by decide +kernel)]; kernel_rfl) | (rw [if_neg (by decide +kernel)]; exact ⟨rfl, rfl⟩))
    (fun os started H enc _ => lifted os started H enc)
theorem proved : Rows.InnerUnlikeSaid :=
  over
#print axioms proved
end innerUnlike
end Go.Proofs.Ythecgkgnngpikaa.Inn
