/- The statement StackOver of layer 15 holds: no prefix is told less than it has. Printed by wip/gen/stk7.py. -/
import Derived.Test.YtccabgeeglhagaaMd
import Derived.Test.YtccabgeeglhagaaMi
import Derived.Test.YtccabgeeglhagaaMj
import Derived.Deep.LoopGhost
import Derived.Deep.RegionHeld3
import Derived.Deep.DeepCutAuto
import Derived.Deep.QuietTactic
import Derived.BigQuiet
namespace Go.Proofs.Ytccabgeeglhagaa.Stk
open Go Go.RowKit Lw Grd Lin Con Shp Sk Exa Lev
set_option linter.unusedVariables false
set_option linter.unusedSimpArgs false
theorem cell_far {w : World} {b c i j : Nat} {v u : Value} (h : w.cell? ⟨c, j, none⟩ = some u) (hn : ¬ b = c) : (w.setCell ⟨b, i, none⟩ v).cell? ⟨c, j, none⟩ = some u := by
  have h2 : (w.setCell ⟨b, i, none⟩ v).heap[(⟨c, j, none⟩ : Addr).block]? = w.heap[(⟨c, j, none⟩ : Addr).block]? := by simp [World.setCell, Array.getElem?_modify, hn]
  exact (World.cell?_of_block h2).trans h
theorem pbox {w : World} {b : Nat} {e : TypeId} {v0 v1 : Value} (h : (boxT b e #[v0, v1]).I w) : w.cell? ⟨b, 0, none⟩ = some v0 ∧ w.cell? ⟨b, 1, none⟩ = some v1 := ⟨box_cell h rfl, box_cell h rfl⟩
set_option maxRecDepth 100000 in
set_option maxHeartbeats 40000000 in
theorem over_1_np (x : Cfg) (A : Option Addr) (n0 k0 : Nat) (qs : Ups) (lv key : Int) (w : World) (hx : x.Ok) (hq : UpdV w A n0 k0 qs) (hkb : 0 ≤ key ∧ key ≤ 18446744073709551615) (c : Cfg) (hC : { anyC x 10 9 with md := 1 } = c) (Y : Int) (hB : bits .and .i64 x.md 1 = Y) (hB1 : (Y == 1) = false) (X : Int) (n : Nat) (a1 : bits .and .i64 lv 65535 = X) (b1 : 0 ≤ X) (dd1 : Int.tmod X (c.bt + 1) = (n : Int)) (ff1 : (n : Int) < c.bt + 1) (hpl : plainB (upsR c 0 qs 0 60) = false) :
    Calls Try.prog 5 #[.agg #[.int .i64 x.bt, .int .i64 x.rw, .int .i64 x.wd, .int .i64 x.md, .int .u64 x.sd, .slice A n0 k0], .int .i64 lv, .int .u64 key] w fun e w' => e = .returned (.bool true) ∧ Below w.heap.size w w' := by
  have hr0 := any_right x 10 9 (by omega) (by omega) (by omega) (by omega)
  have hco0 := any_ok x hx 10 9 (by omega) (by omega) (by omega) (by omega)
  have hr : IsRight c := by rw [← hC]; exact ⟨hr0.1, hr0.2.1, hr0.2.2.1, hr0.2.2.2.1, hr0.2.2.2.2.1, hr0.2.2.2.2.2.1, (by show (1 : Int) ≤ 1; omega), (by show (1 : Int) ≤ 3; omega)⟩
  have hco : c.Ok := by rw [← hC]; exact ⟨hco0.b0, hco0.b1, hco0.r0, hco0.r1, hco0.w0, hco0.w1, by show -9223372036854775808 ≤ (1 : Int); omega, by show (1 : Int) ≤ 9223372036854775807; omega, hco0.s0, hco0.s1⟩
  have hmd : c.md = 1 := by rw [← hC]
  have hbt := hr.1
  have hb5 := hr.2.1
  have hkeys : 1 ≤ keys c 0 := keys_pos.2 ⟨hr, by omega, by omega⟩
  have FD := Lib.hid (fun w hq => fed_m x A n0 k0 qs 1 (by omega) (by omega) 0 60 0 60 c w hx hq rfl rfl (by omega) (by omega) hC)
  have CPL := Lib.hid (fun w hq => rplain_any c A n0 k0 qs w hco hkeys hq)
  rw [hpl] at CPL
  have hin := upsR_in hkeys qs 0 60
  obtain ⟨us, hus⟩ : ∃ us, upsR c 0 qs 0 60 = us := ⟨_, rfl⟩
  have HQ := Lib.hid hq
  have HBX : Hid (Have w (w.alloc (.cells #[.int .i64 x.bt, .int .i64 x.rw, .int .i64 x.wd, .int .i64 x.md, .int .u64 x.sd, .slice A n0 k0] 27)) [boxT w.heap.size 27 #[.int .i64 x.bt, .int .i64 x.rw, .int .i64 x.wd, .int .i64 x.md, .int .u64 x.sd, .slice A n0 k0]]) := Lib.hid (box_new w _ _)
  clear hr hco hbt hb5 hkeys hin hus hmd hr0 hco0 hC hx hq hpl b1 dd1 ff1 a1
  go_enter Try.func5, Try.ntmps5
  go_wp2_with (first
    | (go_at_call 21; (with_reducible refine (CPL.out _ (HQ.out.up HV3.out.below)).mono ?_); rintro e w3 ⟨rfl, hb⟩; have HV4 := Lib.hid (HV3.out.up hb); clear hb; clear c0 c1 c2 c3 c4; obtain ⟨c0, c1, c2, c3, c4⟩ := box5 HV4.out.i0; clear x0 x1 x2 x3 x4 x5; obtain ⟨x0, x1, x2, x3, x4, x5⟩ := box6 HV4.out.i2)
    | (go_at_call 10; (with_reducible refine (FD.out _ (HQ.out.up HV1.out.below)).mono ?_); rintro e w2 ⟨p, F, rfl, hv⟩; have HV2 := Lib.hid (HV1.out.join hv); simp only [List.cons_append, List.nil_append] at HV2; clear hv; have HV3 := Lib.hid (HV2.out.push (boxT w2.heap.size 24 #[.int .i64 c.bt, .int .i64 c.rw, .int .i64 c.wd, .int .i64 c.md, .int .u64 c.sd]) (Lw.below_alloc (Below.refl _ _) _) (heap_alloc_new w2 _) (fun k hk => Nat.le_of_eq hk.symm)); obtain ⟨c0, c1, c2, c3, c4⟩ := box5 HV3.out.i0; clear x0 x1 x2 x3 x4 x5; obtain ⟨x0, x1, x2, x3, x4, x5⟩ := box6 HV3.out.i2)
    | (go_at_call 9; (with_reducible refine (shown_any _).mono ?_); rintro e w1 ⟨rfl, hb⟩; have HV1 := Lib.hid (HBX.out.up hb); clear hb; obtain ⟨x0, x1, x2, x3, x4, x5⟩ := box6 HV1.out.i0))
  go_ret
  exact ⟨ret_bs (by first | rfl | (simp [*]; done)), HV4.out.below⟩
set_option maxRecDepth 100000 in
set_option maxHeartbeats 40000000 in
theorem over_1_k1 (x : Cfg) (A : Option Addr) (n0 k0 : Nat) (qs : Ups) (lv key : Int) (w : World) (hx : x.Ok) (hq : UpdV w A n0 k0 qs) (hkb : 0 ≤ key ∧ key ≤ 18446744073709551615) (c : Cfg) (hC : { anyC x 10 9 with md := 1 } = c) (Y : Int) (hB : bits .and .i64 x.md 1 = Y) (hB1 : (Y == 1) = false) (X : Int) (n : Nat) (a1 : bits .and .i64 lv 65535 = X) (b1 : 0 ≤ X) (dd1 : Int.tmod X (c.bt + 1) = (n : Int)) (ff1 : (n : Int) < c.bt + 1) (hpl : plainB (upsR c 0 qs 0 60) = true) (hz : ¬ 0 < n0) :
    Calls Try.prog 5 #[.agg #[.int .i64 x.bt, .int .i64 x.rw, .int .i64 x.wd, .int .i64 x.md, .int .u64 x.sd, .slice A n0 k0], .int .i64 lv, .int .u64 key] w fun e w' => e = .returned (.bool true) ∧ Below w.heap.size w w' := by
  have hr0 := any_right x 10 9 (by omega) (by omega) (by omega) (by omega)
  have hco0 := any_ok x hx 10 9 (by omega) (by omega) (by omega) (by omega)
  have hr : IsRight c := by rw [← hC]; exact ⟨hr0.1, hr0.2.1, hr0.2.2.1, hr0.2.2.2.1, hr0.2.2.2.2.1, hr0.2.2.2.2.2.1, (by show (1 : Int) ≤ 1; omega), (by show (1 : Int) ≤ 3; omega)⟩
  have hco : c.Ok := by rw [← hC]; exact ⟨hco0.b0, hco0.b1, hco0.r0, hco0.r1, hco0.w0, hco0.w1, by show -9223372036854775808 ≤ (1 : Int); omega, by show (1 : Int) ≤ 9223372036854775807; omega, hco0.s0, hco0.s1⟩
  have hmd : c.md = 1 := by rw [← hC]
  have hbt := hr.1
  have hb5 := hr.2.1
  have hkeys : 1 ≤ keys c 0 := keys_pos.2 ⟨hr, by omega, by omega⟩
  have FD := Lib.hid (fun w hq => fed_m x A n0 k0 qs 1 (by omega) (by omega) 0 60 0 60 c w hx hq rfl rfl (by omega) (by omega) hC)
  have CPL := Lib.hid (fun w hq => rplain_any c A n0 k0 qs w hco hkeys hq)
  rw [hpl] at CPL
  have hin := upsR_in hkeys qs 0 60
  obtain ⟨us, hus⟩ : ∃ us, upsR c 0 qs 0 60 = us := ⟨_, rfl⟩
  have HQ := Lib.hid hq
  have HBX : Hid (Have w (w.alloc (.cells #[.int .i64 x.bt, .int .i64 x.rw, .int .i64 x.wd, .int .i64 x.md, .int .u64 x.sd, .slice A n0 k0] 27)) [boxT w.heap.size 27 #[.int .i64 x.bt, .int .i64 x.rw, .int .i64 x.wd, .int .i64 x.md, .int .u64 x.sd, .slice A n0 k0]]) := Lib.hid (box_new w _ _)
  have hkk := keys_bd c 0
  obtain ⟨r1, r2, r3⟩ := rem_key key (keys c 0) hkb.1 hkb.2 hkeys
  have CK := Lib.hid (fun w => rkeys_any c 0 w hco (by omega) (by omega))
  obtain ⟨K, hK⟩ : ∃ K, keys c 0 = K := ⟨_, rfl⟩
  rw [hK] at r1 r2 r3
  have r4 := Int.emod_nonneg key (show K ≠ 0 by omega)
  have r5 := Int.emod_lt_of_pos key (show 0 < K by omega)
  obtain ⟨U, hU⟩ : ∃ U, key % K = U := ⟨_, rfl⟩
  rw [hU] at r1 r2 r3 r4 r5
  have hV0 := upK_keys hr (k := U) (n := n) (by omega) (by rw [hK]; omega) (by omega)
  obtain ⟨V0, hVV0⟩ : ∃ V, upK U n = V := ⟨_, rfl⟩
  rw [hVV0] at hV0
  have hsr : U / 2 ^ min n 64 = V0 := by rw [← hVV0]; exact shr_at (by omega)
  have hsr2 : U / 2 ^ n = V0 := by rw [← hsr, Nat.min_eq_left (by omega)]
  have hnu : IntKind.u64.wrap (n : Int) = n := by rw [IntKind.wrap_u64]; omega
  have hK0 : ¬ K = 0 := by omega
  obtain ⟨V, hVV⟩ : ∃ V, V0 = V := ⟨_, rfl⟩
  subst hVV
  have hV := hV0
  have hkn := keys_bd c n
  have hov := over_le hr (by omega) hin hpl (n := n) (by omega) (i := V0) hV.1 hV.2
  rw [hus] at hov hin FD
  have hsp := sp_at hr us (n := n) (by omega) V0
  rw [st_pc hV.1 hV.2] at hsp
  rw [← hsp.1] at hov
  have CH := Lib.hid (fun w hq => rhas_any c A n0 k0 qs n V0 w hco hkeys hq (by omega) hV.1 (by omega))
  rw [hus] at CH
  have CP := Lib.hid (fun p F w hs => cs_point p F c (stsOf c us) n V0 w hs (by omega) (by omega) hV.1 (by omega))
  rw [hsp.2] at CP
  obtain ⟨PV, hPV⟩ : ∃ v, spV c (stsOf c us) n V0 = v := ⟨_, rfl⟩
  rw [hPV] at CP hov
  obtain ⟨Hv, hHv⟩ : ∃ v, hasK V0 (upN us n) = v := ⟨_, rfl⟩
  rw [hHv] at CH hov
  obtain ⟨Z, hZ⟩ : ∃ Z, stsOf c us = Z := ⟨_, rfl⟩
  rw [hZ] at FD CP
  have hd9 : decide (Hv ≤ PV) = true := decide_eq_true hov
  have hw1 : IntKind.i64.wrap (c.bt + 1) = c.bt + 1 := IntWalk.i64_in _ ⟨by omega, by omega⟩
  have hw2 : wrap64 (c.bt + 1) = c.bt + 1 := IntWalk.wrap64_in _ ⟨by omega, by omega⟩
  have hbn : ¬ c.bt + 1 = 0 := by omega
  have hz1 : decide ((0 : Int) < (n0 : Int)) = false := decide_eq_false (by omega)
  have hz2 : ¬ (0 : Int) < (n0 : Int) := by omega
  have hz3 : decide (0 < n0) = false := decide_eq_false hz
  rw [hK] at CK
  clear hr hco hbt hb5 hkeys hkk r2 r3 r4 r5 hV hkn hsp hPV hZ hus hVV0 hV0 hK hU hx hC b1 hin hov hHv hpl hmd hr0 hco0 hq
  go_enter Try.func5, Try.ntmps5
  go_upto_region 14 with (first
    | (go_at_call 12; (with_reducible refine (CK.out _).mono ?_); rintro e w4 ⟨rfl, hb⟩; have HV5 := Lib.hid (HV4.out.up hb); clear hb; have HV6 := Lib.hid (HV5.out.push (boxT w4.heap.size 45 #[.int .i64 (n : Int), .int .u64 V0]) (Lw.below_alloc (Below.refl _ _) _) (heap_alloc_new w4 _) (fun k hk => Nat.le_of_eq hk.symm)); clear c0 c1 c2 c3 c4; obtain ⟨z0, z1⟩ := pbox HV6.out.i0; obtain ⟨c0, c1, c2, c3, c4⟩ := box5 HV6.out.i1; clear x0 x1 x2 x3 x4 x5; obtain ⟨x0, x1, x2, x3, x4, x5⟩ := box6 HV6.out.i3)
    | (go_at_call 21; (with_reducible refine (CPL.out _ (HQ.out.up HV3.out.below)).mono ?_); rintro e w3 ⟨rfl, hb⟩; have HV4 := Lib.hid (HV3.out.up hb); clear hb; clear c0 c1 c2 c3 c4; obtain ⟨c0, c1, c2, c3, c4⟩ := box5 HV4.out.i0; clear x0 x1 x2 x3 x4 x5; obtain ⟨x0, x1, x2, x3, x4, x5⟩ := box6 HV4.out.i2)
    | (go_at_call 10; (with_reducible refine (FD.out _ (HQ.out.up HV1.out.below)).mono ?_); rintro e w2 ⟨p, F, rfl, hv⟩; have HV2 := Lib.hid (HV1.out.join hv); simp only [List.cons_append, List.nil_append] at HV2; clear hv; have HV3 := Lib.hid (HV2.out.push (boxT w2.heap.size 24 #[.int .i64 c.bt, .int .i64 c.rw, .int .i64 c.wd, .int .i64 c.md, .int .u64 c.sd]) (Lw.below_alloc (Below.refl _ _) _) (heap_alloc_new w2 _) (fun k hk => Nat.le_of_eq hk.symm)); obtain ⟨c0, c1, c2, c3, c4⟩ := box5 HV3.out.i0; clear x0 x1 x2 x3 x4 x5; obtain ⟨x0, x1, x2, x3, x4, x5⟩ := box6 HV3.out.i2)
    | (go_at_call 9; (with_reducible refine (shown_any _).mono ?_); rintro e w1 ⟨rfl, hb⟩; have HV1 := Lib.hid (HBX.out.up hb); clear hb; obtain ⟨x0, x1, x2, x3, x4, x5⟩ := box6 HV1.out.i0))
  obtain ⟨gp, hgp⟩ : ∃ g, w4.heap.size = g := ⟨_, rfl⟩
  obtain ⟨gc, hgc⟩ : ∃ g, w2.heap.size = g := ⟨_, rfl⟩
  rw [hgp, hgc] at HV6 ⊢
  rw [hgp] at z0 z1
  rw [hgc] at c0 c1 c2 c3 c4
  clear HV1 HV2 HV3 HV4 HV5 hgp hgc x0 x1 x2 x3 x4 FD CPL CK HBX hw1 hw2 hbn hsr hsr2 hnu hK0 a1 dd1 r1 hB hB1
  go_wp2_with (first
    | (go_at_call 19; (with_reducible refine (CH.out _ (HQ.out.up HV8.out.below)).mono ?_); rintro e w7 ⟨rfl, hb⟩; have HV9 := Lib.hid (HV8.out.up hb); clear hb)
    | (go_at_call 17; (with_reducible refine (CP.out p F _ (stI HV6.out.i2)).mono ?_); rintro e w6 ⟨rfl, hb⟩; have HV8 := Lib.hid (HV6.out.up hb); clear hb; clear z0 z1; obtain ⟨z0, z1⟩ := pbox HV8.out.i0; clear c0 c1 c2 c3 c4; obtain ⟨c0, c1, c2, c3, c4⟩ := box5 HV8.out.i1; clear x5; obtain ⟨_, _, _, _, _, x5⟩ := box6 HV8.out.i3))
  go_ret
  exact ⟨ret_bs (by first | rfl | (simp [*]; done)), HV9.out.below⟩
set_option maxRecDepth 100000 in
set_option maxHeartbeats 40000000 in
theorem over_1_k2 (x : Cfg) (A : Option Addr) (n0 k0 : Nat) (qs : Ups) (lv key : Int) (w : World) (hx : x.Ok) (hq : UpdV w A n0 k0 qs) (hkb : 0 ≤ key ∧ key ≤ 18446744073709551615) (c : Cfg) (hC : { anyC x 10 9 with md := 1 } = c) (Y : Int) (hB : bits .and .i64 x.md 1 = Y) (hB1 : (Y == 1) = false) (X : Int) (n : Nat) (a1 : bits .and .i64 lv 65535 = X) (b1 : 0 ≤ X) (dd1 : Int.tmod X (c.bt + 1) = (n : Int)) (ff1 : (n : Int) < c.bt + 1) (hpl : plainB (upsR c 0 qs 0 60) = true) (hz : 0 < n0) (hev : ¬ Int.tmod key 2 = 0) :
    Calls Try.prog 5 #[.agg #[.int .i64 x.bt, .int .i64 x.rw, .int .i64 x.wd, .int .i64 x.md, .int .u64 x.sd, .slice A n0 k0], .int .i64 lv, .int .u64 key] w fun e w' => e = .returned (.bool true) ∧ Below w.heap.size w w' := by
  have hr0 := any_right x 10 9 (by omega) (by omega) (by omega) (by omega)
  have hco0 := any_ok x hx 10 9 (by omega) (by omega) (by omega) (by omega)
  have hr : IsRight c := by rw [← hC]; exact ⟨hr0.1, hr0.2.1, hr0.2.2.1, hr0.2.2.2.1, hr0.2.2.2.2.1, hr0.2.2.2.2.2.1, (by show (1 : Int) ≤ 1; omega), (by show (1 : Int) ≤ 3; omega)⟩
  have hco : c.Ok := by rw [← hC]; exact ⟨hco0.b0, hco0.b1, hco0.r0, hco0.r1, hco0.w0, hco0.w1, by show -9223372036854775808 ≤ (1 : Int); omega, by show (1 : Int) ≤ 9223372036854775807; omega, hco0.s0, hco0.s1⟩
  have hmd : c.md = 1 := by rw [← hC]
  have hbt := hr.1
  have hb5 := hr.2.1
  have hkeys : 1 ≤ keys c 0 := keys_pos.2 ⟨hr, by omega, by omega⟩
  have FD := Lib.hid (fun w hq => fed_m x A n0 k0 qs 1 (by omega) (by omega) 0 60 0 60 c w hx hq rfl rfl (by omega) (by omega) hC)
  have CPL := Lib.hid (fun w hq => rplain_any c A n0 k0 qs w hco hkeys hq)
  rw [hpl] at CPL
  have hin := upsR_in hkeys qs 0 60
  obtain ⟨us, hus⟩ : ∃ us, upsR c 0 qs 0 60 = us := ⟨_, rfl⟩
  have HQ := Lib.hid hq
  have HBX : Hid (Have w (w.alloc (.cells #[.int .i64 x.bt, .int .i64 x.rw, .int .i64 x.wd, .int .i64 x.md, .int .u64 x.sd, .slice A n0 k0] 27)) [boxT w.heap.size 27 #[.int .i64 x.bt, .int .i64 x.rw, .int .i64 x.wd, .int .i64 x.md, .int .u64 x.sd, .slice A n0 k0]]) := Lib.hid (box_new w _ _)
  have hkk := keys_bd c 0
  obtain ⟨r1, r2, r3⟩ := rem_key key (keys c 0) hkb.1 hkb.2 hkeys
  have CK := Lib.hid (fun w => rkeys_any c 0 w hco (by omega) (by omega))
  obtain ⟨K, hK⟩ : ∃ K, keys c 0 = K := ⟨_, rfl⟩
  rw [hK] at r1 r2 r3
  have r4 := Int.emod_nonneg key (show K ≠ 0 by omega)
  have r5 := Int.emod_lt_of_pos key (show 0 < K by omega)
  obtain ⟨U, hU⟩ : ∃ U, key % K = U := ⟨_, rfl⟩
  rw [hU] at r1 r2 r3 r4 r5
  have hV0 := upK_keys hr (k := U) (n := n) (by omega) (by rw [hK]; omega) (by omega)
  obtain ⟨V0, hVV0⟩ : ∃ V, upK U n = V := ⟨_, rfl⟩
  rw [hVV0] at hV0
  have hsr : U / 2 ^ min n 64 = V0 := by rw [← hVV0]; exact shr_at (by omega)
  have hsr2 : U / 2 ^ n = V0 := by rw [← hsr, Nat.min_eq_left (by omega)]
  have hnu : IntKind.u64.wrap (n : Int) = n := by rw [IntKind.wrap_u64]; omega
  have hK0 : ¬ K = 0 := by omega
  obtain ⟨V, hVV⟩ : ∃ V, V0 = V := ⟨_, rfl⟩
  subst hVV
  have hV := hV0
  have hkn := keys_bd c n
  have hov := over_le hr (by omega) hin hpl (n := n) (by omega) (i := V0) hV.1 hV.2
  rw [hus] at hov hin FD
  have hsp := sp_at hr us (n := n) (by omega) V0
  rw [st_pc hV.1 hV.2] at hsp
  rw [← hsp.1] at hov
  have CH := Lib.hid (fun w hq => rhas_any c A n0 k0 qs n V0 w hco hkeys hq (by omega) hV.1 (by omega))
  rw [hus] at CH
  have CP := Lib.hid (fun p F w hs => cs_point p F c (stsOf c us) n V0 w hs (by omega) (by omega) hV.1 (by omega))
  rw [hsp.2] at CP
  obtain ⟨PV, hPV⟩ : ∃ v, spV c (stsOf c us) n V0 = v := ⟨_, rfl⟩
  rw [hPV] at CP hov
  obtain ⟨Hv, hHv⟩ : ∃ v, hasK V0 (upN us n) = v := ⟨_, rfl⟩
  rw [hHv] at CH hov
  obtain ⟨Z, hZ⟩ : ∃ Z, stsOf c us = Z := ⟨_, rfl⟩
  rw [hZ] at FD CP
  have hd9 : decide (Hv ≤ PV) = true := decide_eq_true hov
  have hw1 : IntKind.i64.wrap (c.bt + 1) = c.bt + 1 := IntWalk.i64_in _ ⟨by omega, by omega⟩
  have hw2 : wrap64 (c.bt + 1) = c.bt + 1 := IntWalk.wrap64_in _ ⟨by omega, by omega⟩
  have hbn : ¬ c.bt + 1 = 0 := by omega
  have hz1 : decide ((0 : Int) < (n0 : Int)) = true := decide_eq_true (by omega)
  have hz2 : (0 : Int) < (n0 : Int) := by omega
  have hz3 : decide (0 < n0) = true := decide_eq_true hz
  have he1 : (Int.tmod key 2 == 0) = false := by simpa using hev
  have he2 : (key % 2 == 0) = false := by rw [← Int.tmod_eq_emod_of_nonneg hkb.1]; exact he1
  rw [hK] at CK
  clear hr hco hbt hb5 hkeys hkk r2 r3 r4 r5 hV hkn hsp hPV hZ hus hVV0 hV0 hK hU hx hC b1 hin hov hHv hpl hmd hr0 hco0 hev hq
  go_enter Try.func5, Try.ntmps5
  go_upto_region 14 with (first
    | (go_at_call 12; (with_reducible refine (CK.out _).mono ?_); rintro e w4 ⟨rfl, hb⟩; have HV5 := Lib.hid (HV4.out.up hb); clear hb; have HV6 := Lib.hid (HV5.out.push (boxT w4.heap.size 45 #[.int .i64 (n : Int), .int .u64 V0]) (Lw.below_alloc (Below.refl _ _) _) (heap_alloc_new w4 _) (fun k hk => Nat.le_of_eq hk.symm)); clear c0 c1 c2 c3 c4; obtain ⟨z0, z1⟩ := pbox HV6.out.i0; obtain ⟨c0, c1, c2, c3, c4⟩ := box5 HV6.out.i1; clear x0 x1 x2 x3 x4 x5; obtain ⟨x0, x1, x2, x3, x4, x5⟩ := box6 HV6.out.i3)
    | (go_at_call 21; (with_reducible refine (CPL.out _ (HQ.out.up HV3.out.below)).mono ?_); rintro e w3 ⟨rfl, hb⟩; have HV4 := Lib.hid (HV3.out.up hb); clear hb; clear c0 c1 c2 c3 c4; obtain ⟨c0, c1, c2, c3, c4⟩ := box5 HV4.out.i0; clear x0 x1 x2 x3 x4 x5; obtain ⟨x0, x1, x2, x3, x4, x5⟩ := box6 HV4.out.i2)
    | (go_at_call 10; (with_reducible refine (FD.out _ (HQ.out.up HV1.out.below)).mono ?_); rintro e w2 ⟨p, F, rfl, hv⟩; have HV2 := Lib.hid (HV1.out.join hv); simp only [List.cons_append, List.nil_append] at HV2; clear hv; have HV3 := Lib.hid (HV2.out.push (boxT w2.heap.size 24 #[.int .i64 c.bt, .int .i64 c.rw, .int .i64 c.wd, .int .i64 c.md, .int .u64 c.sd]) (Lw.below_alloc (Below.refl _ _) _) (heap_alloc_new w2 _) (fun k hk => Nat.le_of_eq hk.symm)); obtain ⟨c0, c1, c2, c3, c4⟩ := box5 HV3.out.i0; clear x0 x1 x2 x3 x4 x5; obtain ⟨x0, x1, x2, x3, x4, x5⟩ := box6 HV3.out.i2)
    | (go_at_call 9; (with_reducible refine (shown_any _).mono ?_); rintro e w1 ⟨rfl, hb⟩; have HV1 := Lib.hid (HBX.out.up hb); clear hb; obtain ⟨x0, x1, x2, x3, x4, x5⟩ := box6 HV1.out.i0))
  obtain ⟨gp, hgp⟩ : ∃ g, w4.heap.size = g := ⟨_, rfl⟩
  obtain ⟨gc, hgc⟩ : ∃ g, w2.heap.size = g := ⟨_, rfl⟩
  rw [hgp, hgc] at HV6 ⊢
  rw [hgp] at z0 z1
  rw [hgc] at c0 c1 c2 c3 c4
  clear HV1 HV2 HV3 HV4 HV5 hgp hgc x0 x1 x2 x3 x4 FD CPL CK HBX hw1 hw2 hbn hsr hsr2 hnu hK0 a1 dd1 r1 hB hB1
  go_wp2_with (first
    | (go_at_call 19; (with_reducible refine (CH.out _ (HQ.out.up HV8.out.below)).mono ?_); rintro e w7 ⟨rfl, hb⟩; have HV9 := Lib.hid (HV8.out.up hb); clear hb)
    | (go_at_call 17; (with_reducible refine (CP.out p F _ (stI HV6.out.i2)).mono ?_); rintro e w6 ⟨rfl, hb⟩; have HV8 := Lib.hid (HV6.out.up hb); clear hb; clear z0 z1; obtain ⟨z0, z1⟩ := pbox HV8.out.i0; clear c0 c1 c2 c3 c4; obtain ⟨c0, c1, c2, c3, c4⟩ := box5 HV8.out.i1; clear x5; obtain ⟨_, _, _, _, _, x5⟩ := box6 HV8.out.i3))
  go_ret
  exact ⟨ret_bs (by first | rfl | (simp [*]; done)), HV9.out.below⟩
set_option maxRecDepth 100000 in
set_option maxHeartbeats 40000000 in
theorem over_1_f (x : Cfg) (A : Option Addr) (n0 k0 : Nat) (qs : Ups) (lv key : Int) (w : World) (hx : x.Ok) (hq : UpdV w A n0 k0 qs) (hkb : 0 ≤ key ∧ key ≤ 18446744073709551615) (c : Cfg) (hC : { anyC x 10 9 with md := 1 } = c) (Y : Int) (hB : bits .and .i64 x.md 1 = Y) (hB1 : (Y == 1) = false) (X : Int) (n : Nat) (a1 : bits .and .i64 lv 65535 = X) (b1 : 0 ≤ X) (dd1 : Int.tmod X (c.bt + 1) = (n : Int)) (ff1 : (n : Int) < c.bt + 1) (hpl : plainB (upsR c 0 qs 0 60) = true) (hz : 0 < n0) (hev : Int.tmod key 2 = 0) :
    Calls Try.prog 5 #[.agg #[.int .i64 x.bt, .int .i64 x.rw, .int .i64 x.wd, .int .i64 x.md, .int .u64 x.sd, .slice A n0 k0], .int .i64 lv, .int .u64 key] w fun e w' => e = .returned (.bool true) ∧ Below w.heap.size w w' := by
  have hr0 := any_right x 10 9 (by omega) (by omega) (by omega) (by omega)
  have hco0 := any_ok x hx 10 9 (by omega) (by omega) (by omega) (by omega)
  have hr : IsRight c := by rw [← hC]; exact ⟨hr0.1, hr0.2.1, hr0.2.2.1, hr0.2.2.2.1, hr0.2.2.2.2.1, hr0.2.2.2.2.2.1, (by show (1 : Int) ≤ 1; omega), (by show (1 : Int) ≤ 3; omega)⟩
  have hco : c.Ok := by rw [← hC]; exact ⟨hco0.b0, hco0.b1, hco0.r0, hco0.r1, hco0.w0, hco0.w1, by show -9223372036854775808 ≤ (1 : Int); omega, by show (1 : Int) ≤ 9223372036854775807; omega, hco0.s0, hco0.s1⟩
  have hmd : c.md = 1 := by rw [← hC]
  have hbt := hr.1
  have hb5 := hr.2.1
  have hkeys : 1 ≤ keys c 0 := keys_pos.2 ⟨hr, by omega, by omega⟩
  have FD := Lib.hid (fun w hq => fed_m x A n0 k0 qs 1 (by omega) (by omega) 0 60 0 60 c w hx hq rfl rfl (by omega) (by omega) hC)
  have CPL := Lib.hid (fun w hq => rplain_any c A n0 k0 qs w hco hkeys hq)
  rw [hpl] at CPL
  have hin := upsR_in hkeys qs 0 60
  obtain ⟨us, hus⟩ : ∃ us, upsR c 0 qs 0 60 = us := ⟨_, rfl⟩
  have HQ := Lib.hid hq
  have HBX : Hid (Have w (w.alloc (.cells #[.int .i64 x.bt, .int .i64 x.rw, .int .i64 x.wd, .int .i64 x.md, .int .u64 x.sd, .slice A n0 k0] 27)) [boxT w.heap.size 27 #[.int .i64 x.bt, .int .i64 x.rw, .int .i64 x.wd, .int .i64 x.md, .int .u64 x.sd, .slice A n0 k0]]) := Lib.hid (box_new w _ _)
  have hkk := keys_bd c 0
  obtain ⟨r1, r2, r3⟩ := rem_key key (keys c 0) hkb.1 hkb.2 hkeys
  have CK := Lib.hid (fun w => rkeys_any c 0 w hco (by omega) (by omega))
  obtain ⟨K, hK⟩ : ∃ K, keys c 0 = K := ⟨_, rfl⟩
  rw [hK] at r1 r2 r3
  have r4 := Int.emod_nonneg key (show K ≠ 0 by omega)
  have r5 := Int.emod_lt_of_pos key (show 0 < K by omega)
  obtain ⟨U, hU⟩ : ∃ U, key % K = U := ⟨_, rfl⟩
  rw [hU] at r1 r2 r3 r4 r5
  have hV0 := upK_keys hr (k := U) (n := n) (by omega) (by rw [hK]; omega) (by omega)
  obtain ⟨V0, hVV0⟩ : ∃ V, upK U n = V := ⟨_, rfl⟩
  rw [hVV0] at hV0
  have hsr : U / 2 ^ min n 64 = V0 := by rw [← hVV0]; exact shr_at (by omega)
  have hsr2 : U / 2 ^ n = V0 := by rw [← hsr, Nat.min_eq_left (by omega)]
  have hnu : IntKind.u64.wrap (n : Int) = n := by rw [IntKind.wrap_u64]; omega
  have hK0 : ¬ K = 0 := by omega
  obtain ⟨q, hq1⟩ : ∃ q, qs[0]? = some q := ⟨_, List.getElem?_eq_getElem (by rw [hq.len]; exact hz)⟩
  have hcu := cutU_ok hkeys q
  obtain ⟨a, g, o, rfl, hadd, d1w, d2w, kb, db⟩ := hq.at hq1
  obtain ⟨qk, qd⟩ := q
  simp only at d1w d2w kb db
  have CC := Lib.hid (fun w => rcut15_any c qk qd w hco kb.1 kb.2 db.1 db.2 hkeys)
  obtain ⟨UF, hUF⟩ : ∃ UF, (cutU c 0 (qk, qd)).1 = UF := ⟨_, rfl⟩
  obtain ⟨DF, hDF⟩ : ∃ DF, (cutU c 0 (qk, qd)).2 = DF := ⟨_, rfl⟩
  rw [hUF, hDF] at CC
  rw [hUF] at hcu
  have hV := upK_keys hr (k := UF) (n := n) hcu.1 hcu.2.1 (by omega)
  obtain ⟨V, hVV⟩ : ∃ V, upK UF n = V := ⟨_, rfl⟩
  rw [hVV] at hV
  have hsf : UF / 2 ^ min n 64 = V := by rw [← hVV]; exact shr_at (by omega)
  have hsf2 : UF / 2 ^ n = V := by rw [← hsf, Nat.min_eq_left (by omega)]
  have hfd := fld_key UF DF
  have hadd0 : a.add 0 = ⟨g, o, none⟩ := hadd
  have HD1 := Lib.hid d1w
  have HD2 := Lib.hid d2w
  have hkn := keys_bd c n
  have hov := over_le hr (by omega) hin hpl (n := n) (by omega) (i := V) hV.1 hV.2
  rw [hus] at hov hin FD
  have hsp := sp_at hr us (n := n) (by omega) V
  rw [st_pc hV.1 hV.2] at hsp
  rw [← hsp.1] at hov
  have CH := Lib.hid (fun w hq => rhas_any c (some a) n0 k0 qs n V w hco hkeys hq (by omega) hV.1 (by omega))
  rw [hus] at CH
  have CP := Lib.hid (fun p F w hs => cs_point p F c (stsOf c us) n V w hs (by omega) (by omega) hV.1 (by omega))
  rw [hsp.2] at CP
  obtain ⟨PV, hPV⟩ : ∃ v, spV c (stsOf c us) n V = v := ⟨_, rfl⟩
  rw [hPV] at CP hov
  obtain ⟨Hv, hHv⟩ : ∃ v, hasK V (upN us n) = v := ⟨_, rfl⟩
  rw [hHv] at CH hov
  obtain ⟨Z, hZ⟩ : ∃ Z, stsOf c us = Z := ⟨_, rfl⟩
  rw [hZ] at FD CP
  have hd9 : decide (Hv ≤ PV) = true := decide_eq_true hov
  have hw1 : IntKind.i64.wrap (c.bt + 1) = c.bt + 1 := IntWalk.i64_in _ ⟨by omega, by omega⟩
  have hw2 : wrap64 (c.bt + 1) = c.bt + 1 := IntWalk.wrap64_in _ ⟨by omega, by omega⟩
  have hbn : ¬ c.bt + 1 = 0 := by omega
  have hz1 : decide ((0 : Int) < (n0 : Int)) = true := decide_eq_true (by omega)
  have hz2 : (0 : Int) < (n0 : Int) := by omega
  have hz3 : decide (0 < n0) = true := decide_eq_true hz
  have he1 : (Int.tmod key 2 == 0) = true := by simpa using hev
  have he2 : (key % 2 == 0) = true := by rw [← Int.tmod_eq_emod_of_nonneg hkb.1]; exact he1
  rw [hK] at CK
  clear hr hco hbt hb5 hkeys hkk r2 r3 r4 r5 hV hkn hsp hPV hZ hus hVV0 hV0 hK hU hx hC b1 hin hov hHv hpl hmd hr0 hco0 hev hcu hq1 hUF hDF hVV d1w d2w kb db hq
  go_enter Try.func5, Try.ntmps5
  go_upto_region 13 with (first
    | (go_at_call 12; (with_reducible refine (CK.out _).mono ?_); rintro e w4 ⟨rfl, hb⟩; have HV5 := Lib.hid (HV4.out.up hb); clear hb; have HV6 := Lib.hid (HV5.out.push (boxT w4.heap.size 45 #[.int .i64 (n : Int), .int .u64 V0]) (Lw.below_alloc (Below.refl _ _) _) (heap_alloc_new w4 _) (fun k hk => Nat.le_of_eq hk.symm)); clear c0 c1 c2 c3 c4; obtain ⟨z0, z1⟩ := pbox HV6.out.i0; obtain ⟨c0, c1, c2, c3, c4⟩ := box5 HV6.out.i1; clear x0 x1 x2 x3 x4 x5; obtain ⟨x0, x1, x2, x3, x4, x5⟩ := box6 HV6.out.i3)
    | (go_at_call 21; (with_reducible refine (CPL.out _ (HQ.out.up HV3.out.below)).mono ?_); rintro e w3 ⟨rfl, hb⟩; have HV4 := Lib.hid (HV3.out.up hb); clear hb; clear c0 c1 c2 c3 c4; obtain ⟨c0, c1, c2, c3, c4⟩ := box5 HV4.out.i0; clear x0 x1 x2 x3 x4 x5; obtain ⟨x0, x1, x2, x3, x4, x5⟩ := box6 HV4.out.i2)
    | (go_at_call 10; (with_reducible refine (FD.out _ (HQ.out.up HV1.out.below)).mono ?_); rintro e w2 ⟨p, F, rfl, hv⟩; have HV2 := Lib.hid (HV1.out.join hv); simp only [List.cons_append, List.nil_append] at HV2; clear hv; have HV3 := Lib.hid (HV2.out.push (boxT w2.heap.size 24 #[.int .i64 c.bt, .int .i64 c.rw, .int .i64 c.wd, .int .i64 c.md, .int .u64 c.sd]) (Lw.below_alloc (Below.refl _ _) _) (heap_alloc_new w2 _) (fun k hk => Nat.le_of_eq hk.symm)); obtain ⟨c0, c1, c2, c3, c4⟩ := box5 HV3.out.i0; clear x0 x1 x2 x3 x4 x5; obtain ⟨x0, x1, x2, x3, x4, x5⟩ := box6 HV3.out.i2)
    | (go_at_call 9; (with_reducible refine (shown_any _).mono ?_); rintro e w1 ⟨rfl, hb⟩; have HV1 := Lib.hid (HBX.out.up hb); clear hb; obtain ⟨x0, x1, x2, x3, x4, x5⟩ := box6 HV1.out.i0))
  obtain ⟨gp, hgp⟩ : ∃ g, w4.heap.size = g := ⟨_, rfl⟩
  obtain ⟨gc, hgc⟩ : ∃ g, w2.heap.size = g := ⟨_, rfl⟩
  rw [hgp, hgc] at HV6 ⊢
  rw [hgp] at z0 z1
  rw [hgc] at c0 c1 c2 c3 c4
  clear HV1 HV2 HV3 HV4 HV5 hgp hgc x0 x1 x2 x3 x4 FD CPL CK HBX hw1 hw2 hbn hsr hsr2  hK0 a1 dd1 r1 hB hB1
  obtain ⟨w5, hw5⟩ : ∃ w5, w5 = w4.alloc (.cells #[.int .i64 (n : Int), .int .u64 V0] 45) := ⟨_, rfl⟩
  rw [← hw5] at HV6 z0 z1 c0 c1 c2 c3 c4 x5 ⊢
  have d1 := cell_up HD1.out HV6.out.below
  have d2 := cell_up HD2.out HV6.out.below
  have zf := boxs_frozen HV6.out.i0 1
  have hlg := box_lt HV6.out.i0
  have nb1 : ¬ gp = gc := fun h => HV6.out.ap01 gp rfl h
  have nb2 : ¬ gp = w.heap.size := fun h => HV6.out.ap03 gp rfl h
  have nb3 : ¬ gp = g := fun h => by
    have h1 : g < w.heap.size := cell_lt HD1.out
    have h2 := HV6.out.f0 gp rfl
    omega
  clear hw5
  go_region_held3 (fun w' => w'.cell? ⟨gc, 0, none⟩ = some (.int .i64 c.bt) ∧ w'.cell? ⟨gc, 1, none⟩ = some (.int .i64 c.rw) ∧ w'.cell? ⟨gc, 2, none⟩ = some (.int .i64 c.wd) ∧ w'.cell? ⟨gc, 3, none⟩ = some (.int .i64 c.md) ∧ w'.cell? ⟨gc, 4, none⟩ = some (.int .u64 c.sd) ∧ w'.cell? ⟨w.heap.size, 5, none⟩ = some (.slice (some a) n0 k0) ∧ w'.cell? ⟨g, o, none⟩ = some (.int .u64 qk) ∧ w'.cell? ⟨g, o + 1, none⟩ = some (.int .i64 qd)) (first | ((first | (refine ⟨?_, ?_, ?_, ?_, ?_, ?_, ?_, ?_⟩ <;> (first | (with_reducible assumption) | (with_reducible refine cell_up c0 ?_) | (with_reducible refine cell_up c1 ?_) | (with_reducible refine cell_up c2 ?_) | (with_reducible refine cell_up c3 ?_) | (with_reducible refine cell_up c4 ?_) | (with_reducible refine cell_up x5 ?_) | (with_reducible refine cell_up d1 ?_) | (with_reducible refine cell_up d2 ?_)) <;> (repeat' (first | (with_reducible exact Below.refl _ _) | (with_reducible assumption) | (with_reducible refine below_over ?_ _ _) | (with_reducible refine Lw.below_alloc ?_ _) | (with_reducible refine Below.drew ?_) | (with_reducible refine below_drewN ?_ _) | (with_reducible refine Below.setCell ?_ ?_ _) | go_size)))); done) | exact ⟨cell_up (cell_far (i := 1) (v := .int .u64 V) c0 nb1) (grow_below _ _ _), cell_up (cell_far (i := 1) (v := .int .u64 V) c1 nb1) (grow_below _ _ _), cell_up (cell_far (i := 1) (v := .int .u64 V) c2 nb1) (grow_below _ _ _), cell_up (cell_far (i := 1) (v := .int .u64 V) c3 nb1) (grow_below _ _ _), cell_up (cell_far (i := 1) (v := .int .u64 V) c4 nb1) (grow_below _ _ _), cell_up (cell_far (i := 1) (v := .int .u64 V) x5 nb2) (grow_below _ _ _), cell_up (cell_far (i := 1) (v := .int .u64 V) d1 nb3) (grow_below _ _ _), cell_up (cell_far (i := 1) (v := .int .u64 V) d2 nb3) (grow_below _ _ _)⟩) (first | (go_at_call 13; (with_reducible refine (CC.out _).mono ?_); rintro e w' ⟨rfl, hb⟩; obtain ⟨bs, dd, rfl⟩ := below_grow hb; clear hb))
  have hv7 := (HV6.out.turn_0 (boxT gp 45 #[.int .i64 (n : Int), .int .u64 V]) (boxs_set HV6.out.i0 1 (.int .u64 V)) ((Kept.refl (fun k => k = gp) w5).set (.inl rfl) 1 (.int .u64 V)) (fun k hk => .inl hk)).up (grow_below _ bs dd)
  obtain ⟨wz, hwz⟩ : ∃ wz, wz = grow (w5.setCell ⟨gp, 1, none⟩ (.int .u64 V)) bs dd := ⟨_, rfl⟩
  rw [← hwz] at hv7 ⊢
  have HV7 := Lib.hid hv7
  clear hv7 hwz z0 z1 c0 c1 c2 c3 c4 x5 d1 d2 zf
  obtain ⟨z0, z1⟩ := pbox HV7.out.i0
  obtain ⟨c0, c1, c2, c3, c4⟩ := box5 HV7.out.i1
  obtain ⟨_, _, _, _, _, x5⟩ := box6 HV7.out.i3
  go_wp2_with (first
    | (go_at_call 19; (with_reducible refine (CH.out _ (HQ.out.up HV8.out.below)).mono ?_); rintro e w7 ⟨rfl, hb⟩; have HV9 := Lib.hid (HV8.out.up hb); clear hb)
    | (go_at_call 17; (with_reducible refine (CP.out p F _ (stI HV7.out.i2)).mono ?_); rintro e w6 ⟨rfl, hb⟩; have HV8 := Lib.hid (HV7.out.up hb); clear hb; obtain ⟨z0, z1⟩ := pbox HV8.out.i0; obtain ⟨c0, c1, c2, c3, c4⟩ := box5 HV8.out.i1; obtain ⟨_, _, _, _, _, x5⟩ := box6 HV8.out.i3))
  go_ret
  exact ⟨ret_bs (by first | rfl | (simp [*]; done)), HV9.out.below⟩
set_option maxRecDepth 100000 in
set_option maxHeartbeats 40000000 in
theorem over_2_np (x : Cfg) (A : Option Addr) (n0 k0 : Nat) (qs : Ups) (lv key : Int) (w : World) (hx : x.Ok) (hq : UpdV w A n0 k0 qs) (hkb : 0 ≤ key ∧ key ≤ 18446744073709551615) (c : Cfg) (hC : { anyC x 10 9 with md := 2 } = c) (Y : Int) (hB : bits .and .i64 x.md 1 = Y) (hB1 : (Y == 1) = true) (X : Int) (n : Nat) (a1 : bits .and .i64 lv 65535 = X) (b1 : 0 ≤ X) (dd1 : Int.tmod X (c.bt + 1) = (n : Int)) (ff1 : (n : Int) < c.bt + 1) (hpl : plainB (upsR c 0 qs 0 60) = false) :
    Calls Try.prog 5 #[.agg #[.int .i64 x.bt, .int .i64 x.rw, .int .i64 x.wd, .int .i64 x.md, .int .u64 x.sd, .slice A n0 k0], .int .i64 lv, .int .u64 key] w fun e w' => e = .returned (.bool true) ∧ Below w.heap.size w w' := by
  have hr0 := any_right x 10 9 (by omega) (by omega) (by omega) (by omega)
  have hco0 := any_ok x hx 10 9 (by omega) (by omega) (by omega) (by omega)
  have hr : IsRight c := by rw [← hC]; exact ⟨hr0.1, hr0.2.1, hr0.2.2.1, hr0.2.2.2.1, hr0.2.2.2.2.1, hr0.2.2.2.2.2.1, (by show (1 : Int) ≤ 2; omega), (by show (2 : Int) ≤ 3; omega)⟩
  have hco : c.Ok := by rw [← hC]; exact ⟨hco0.b0, hco0.b1, hco0.r0, hco0.r1, hco0.w0, hco0.w1, by show -9223372036854775808 ≤ (2 : Int); omega, by show (2 : Int) ≤ 9223372036854775807; omega, hco0.s0, hco0.s1⟩
  have hmd : c.md = 2 := by rw [← hC]
  have hbt := hr.1
  have hb5 := hr.2.1
  have hkeys : 1 ≤ keys c 0 := keys_pos.2 ⟨hr, by omega, by omega⟩
  have FD := Lib.hid (fun w hq => fed_m x A n0 k0 qs 2 (by omega) (by omega) 0 60 0 60 c w hx hq rfl rfl (by omega) (by omega) hC)
  have CPL := Lib.hid (fun w hq => rplain_any c A n0 k0 qs w hco hkeys hq)
  rw [hpl] at CPL
  have hin := upsR_in hkeys qs 0 60
  obtain ⟨us, hus⟩ : ∃ us, upsR c 0 qs 0 60 = us := ⟨_, rfl⟩
  have HQ := Lib.hid hq
  have HBX : Hid (Have w (w.alloc (.cells #[.int .i64 x.bt, .int .i64 x.rw, .int .i64 x.wd, .int .i64 x.md, .int .u64 x.sd, .slice A n0 k0] 27)) [boxT w.heap.size 27 #[.int .i64 x.bt, .int .i64 x.rw, .int .i64 x.wd, .int .i64 x.md, .int .u64 x.sd, .slice A n0 k0]]) := Lib.hid (box_new w _ _)
  clear hr hco hbt hb5 hkeys hin hus hmd hr0 hco0 hC hx hq hpl b1 dd1 ff1 a1
  go_enter Try.func5, Try.ntmps5
  go_wp2_with (first
    | (go_at_call 21; (with_reducible refine (CPL.out _ (HQ.out.up HV3.out.below)).mono ?_); rintro e w3 ⟨rfl, hb⟩; have HV4 := Lib.hid (HV3.out.up hb); clear hb; clear c0 c1 c2 c3 c4; obtain ⟨c0, c1, c2, c3, c4⟩ := box5 HV4.out.i0; clear x0 x1 x2 x3 x4 x5; obtain ⟨x0, x1, x2, x3, x4, x5⟩ := box6 HV4.out.i2)
    | (go_at_call 10; (with_reducible refine (FD.out _ (HQ.out.up HV1.out.below)).mono ?_); rintro e w2 ⟨p, F, rfl, hv⟩; have HV2 := Lib.hid (HV1.out.join hv); simp only [List.cons_append, List.nil_append] at HV2; clear hv; have HV3 := Lib.hid (HV2.out.push (boxT w2.heap.size 24 #[.int .i64 c.bt, .int .i64 c.rw, .int .i64 c.wd, .int .i64 c.md, .int .u64 c.sd]) (Lw.below_alloc (Below.refl _ _) _) (heap_alloc_new w2 _) (fun k hk => Nat.le_of_eq hk.symm)); obtain ⟨c0, c1, c2, c3, c4⟩ := box5 HV3.out.i0; clear x0 x1 x2 x3 x4 x5; obtain ⟨x0, x1, x2, x3, x4, x5⟩ := box6 HV3.out.i2)
    | (go_at_call 9; (with_reducible refine (shown_any _).mono ?_); rintro e w1 ⟨rfl, hb⟩; have HV1 := Lib.hid (HBX.out.up hb); clear hb; obtain ⟨x0, x1, x2, x3, x4, x5⟩ := box6 HV1.out.i0))
  go_ret
  exact ⟨ret_bs (by first | rfl | (simp [*]; done)), HV4.out.below⟩
set_option maxRecDepth 100000 in
set_option maxHeartbeats 40000000 in
theorem over_2_k1 (x : Cfg) (A : Option Addr) (n0 k0 : Nat) (qs : Ups) (lv key : Int) (w : World) (hx : x.Ok) (hq : UpdV w A n0 k0 qs) (hkb : 0 ≤ key ∧ key ≤ 18446744073709551615) (c : Cfg) (hC : { anyC x 10 9 with md := 2 } = c) (Y : Int) (hB : bits .and .i64 x.md 1 = Y) (hB1 : (Y == 1) = true) (X : Int) (n : Nat) (a1 : bits .and .i64 lv 65535 = X) (b1 : 0 ≤ X) (dd1 : Int.tmod X (c.bt + 1) = (n : Int)) (ff1 : (n : Int) < c.bt + 1) (hpl : plainB (upsR c 0 qs 0 60) = true) (hz : ¬ 0 < n0) :
    Calls Try.prog 5 #[.agg #[.int .i64 x.bt, .int .i64 x.rw, .int .i64 x.wd, .int .i64 x.md, .int .u64 x.sd, .slice A n0 k0], .int .i64 lv, .int .u64 key] w fun e w' => e = .returned (.bool true) ∧ Below w.heap.size w w' := by
  have hr0 := any_right x 10 9 (by omega) (by omega) (by omega) (by omega)
  have hco0 := any_ok x hx 10 9 (by omega) (by omega) (by omega) (by omega)
  have hr : IsRight c := by rw [← hC]; exact ⟨hr0.1, hr0.2.1, hr0.2.2.1, hr0.2.2.2.1, hr0.2.2.2.2.1, hr0.2.2.2.2.2.1, (by show (1 : Int) ≤ 2; omega), (by show (2 : Int) ≤ 3; omega)⟩
  have hco : c.Ok := by rw [← hC]; exact ⟨hco0.b0, hco0.b1, hco0.r0, hco0.r1, hco0.w0, hco0.w1, by show -9223372036854775808 ≤ (2 : Int); omega, by show (2 : Int) ≤ 9223372036854775807; omega, hco0.s0, hco0.s1⟩
  have hmd : c.md = 2 := by rw [← hC]
  have hbt := hr.1
  have hb5 := hr.2.1
  have hkeys : 1 ≤ keys c 0 := keys_pos.2 ⟨hr, by omega, by omega⟩
  have FD := Lib.hid (fun w hq => fed_m x A n0 k0 qs 2 (by omega) (by omega) 0 60 0 60 c w hx hq rfl rfl (by omega) (by omega) hC)
  have CPL := Lib.hid (fun w hq => rplain_any c A n0 k0 qs w hco hkeys hq)
  rw [hpl] at CPL
  have hin := upsR_in hkeys qs 0 60
  obtain ⟨us, hus⟩ : ∃ us, upsR c 0 qs 0 60 = us := ⟨_, rfl⟩
  have HQ := Lib.hid hq
  have HBX : Hid (Have w (w.alloc (.cells #[.int .i64 x.bt, .int .i64 x.rw, .int .i64 x.wd, .int .i64 x.md, .int .u64 x.sd, .slice A n0 k0] 27)) [boxT w.heap.size 27 #[.int .i64 x.bt, .int .i64 x.rw, .int .i64 x.wd, .int .i64 x.md, .int .u64 x.sd, .slice A n0 k0]]) := Lib.hid (box_new w _ _)
  have hkk := keys_bd c 0
  obtain ⟨r1, r2, r3⟩ := rem_key key (keys c 0) hkb.1 hkb.2 hkeys
  have CK := Lib.hid (fun w => rkeys_any c 0 w hco (by omega) (by omega))
  obtain ⟨K, hK⟩ : ∃ K, keys c 0 = K := ⟨_, rfl⟩
  rw [hK] at r1 r2 r3
  have r4 := Int.emod_nonneg key (show K ≠ 0 by omega)
  have r5 := Int.emod_lt_of_pos key (show 0 < K by omega)
  obtain ⟨U, hU⟩ : ∃ U, key % K = U := ⟨_, rfl⟩
  rw [hU] at r1 r2 r3 r4 r5
  have hV0 := upK_keys hr (k := U) (n := n) (by omega) (by rw [hK]; omega) (by omega)
  obtain ⟨V0, hVV0⟩ : ∃ V, upK U n = V := ⟨_, rfl⟩
  rw [hVV0] at hV0
  have hsr : U / 2 ^ min n 64 = V0 := by rw [← hVV0]; exact shr_at (by omega)
  have hsr2 : U / 2 ^ n = V0 := by rw [← hsr, Nat.min_eq_left (by omega)]
  have hnu : IntKind.u64.wrap (n : Int) = n := by rw [IntKind.wrap_u64]; omega
  have hK0 : ¬ K = 0 := by omega
  obtain ⟨V, hVV⟩ : ∃ V, V0 = V := ⟨_, rfl⟩
  subst hVV
  have hV := hV0
  have hkn := keys_bd c n
  have hov := over_le hr (by omega) hin hpl (n := n) (by omega) (i := V0) hV.1 hV.2
  rw [hus] at hov hin FD
  have hsp := sp_at hr us (n := n) (by omega) V0
  rw [st_pc hV.1 hV.2] at hsp
  rw [← hsp.1] at hov
  have CH := Lib.hid (fun w hq => rhas_any c A n0 k0 qs n V0 w hco hkeys hq (by omega) hV.1 (by omega))
  rw [hus] at CH
  have CP := Lib.hid (fun p F w hs => cs_point p F c (stsOf c us) n V0 w hs (by omega) (by omega) hV.1 (by omega))
  rw [hsp.2] at CP
  obtain ⟨PV, hPV⟩ : ∃ v, spV c (stsOf c us) n V0 = v := ⟨_, rfl⟩
  rw [hPV] at CP hov
  obtain ⟨Hv, hHv⟩ : ∃ v, hasK V0 (upN us n) = v := ⟨_, rfl⟩
  rw [hHv] at CH hov
  obtain ⟨Z, hZ⟩ : ∃ Z, stsOf c us = Z := ⟨_, rfl⟩
  rw [hZ] at FD CP
  have hd9 : decide (Hv ≤ PV) = true := decide_eq_true hov
  have hw1 : IntKind.i64.wrap (c.bt + 1) = c.bt + 1 := IntWalk.i64_in _ ⟨by omega, by omega⟩
  have hw2 : wrap64 (c.bt + 1) = c.bt + 1 := IntWalk.wrap64_in _ ⟨by omega, by omega⟩
  have hbn : ¬ c.bt + 1 = 0 := by omega
  have hz1 : decide ((0 : Int) < (n0 : Int)) = false := decide_eq_false (by omega)
  have hz2 : ¬ (0 : Int) < (n0 : Int) := by omega
  have hz3 : decide (0 < n0) = false := decide_eq_false hz
  rw [hK] at CK
  clear hr hco hbt hb5 hkeys hkk r2 r3 r4 r5 hV hkn hsp hPV hZ hus hVV0 hV0 hK hU hx hC b1 hin hov hHv hpl hmd hr0 hco0 hq
  go_enter Try.func5, Try.ntmps5
  go_upto_region 14 with (first
    | (go_at_call 12; (with_reducible refine (CK.out _).mono ?_); rintro e w4 ⟨rfl, hb⟩; have HV5 := Lib.hid (HV4.out.up hb); clear hb; have HV6 := Lib.hid (HV5.out.push (boxT w4.heap.size 45 #[.int .i64 (n : Int), .int .u64 V0]) (Lw.below_alloc (Below.refl _ _) _) (heap_alloc_new w4 _) (fun k hk => Nat.le_of_eq hk.symm)); clear c0 c1 c2 c3 c4; obtain ⟨z0, z1⟩ := pbox HV6.out.i0; obtain ⟨c0, c1, c2, c3, c4⟩ := box5 HV6.out.i1; clear x0 x1 x2 x3 x4 x5; obtain ⟨x0, x1, x2, x3, x4, x5⟩ := box6 HV6.out.i3)
    | (go_at_call 21; (with_reducible refine (CPL.out _ (HQ.out.up HV3.out.below)).mono ?_); rintro e w3 ⟨rfl, hb⟩; have HV4 := Lib.hid (HV3.out.up hb); clear hb; clear c0 c1 c2 c3 c4; obtain ⟨c0, c1, c2, c3, c4⟩ := box5 HV4.out.i0; clear x0 x1 x2 x3 x4 x5; obtain ⟨x0, x1, x2, x3, x4, x5⟩ := box6 HV4.out.i2)
    | (go_at_call 10; (with_reducible refine (FD.out _ (HQ.out.up HV1.out.below)).mono ?_); rintro e w2 ⟨p, F, rfl, hv⟩; have HV2 := Lib.hid (HV1.out.join hv); simp only [List.cons_append, List.nil_append] at HV2; clear hv; have HV3 := Lib.hid (HV2.out.push (boxT w2.heap.size 24 #[.int .i64 c.bt, .int .i64 c.rw, .int .i64 c.wd, .int .i64 c.md, .int .u64 c.sd]) (Lw.below_alloc (Below.refl _ _) _) (heap_alloc_new w2 _) (fun k hk => Nat.le_of_eq hk.symm)); obtain ⟨c0, c1, c2, c3, c4⟩ := box5 HV3.out.i0; clear x0 x1 x2 x3 x4 x5; obtain ⟨x0, x1, x2, x3, x4, x5⟩ := box6 HV3.out.i2)
    | (go_at_call 9; (with_reducible refine (shown_any _).mono ?_); rintro e w1 ⟨rfl, hb⟩; have HV1 := Lib.hid (HBX.out.up hb); clear hb; obtain ⟨x0, x1, x2, x3, x4, x5⟩ := box6 HV1.out.i0))
  obtain ⟨gp, hgp⟩ : ∃ g, w4.heap.size = g := ⟨_, rfl⟩
  obtain ⟨gc, hgc⟩ : ∃ g, w2.heap.size = g := ⟨_, rfl⟩
  rw [hgp, hgc] at HV6 ⊢
  rw [hgp] at z0 z1
  rw [hgc] at c0 c1 c2 c3 c4
  clear HV1 HV2 HV3 HV4 HV5 hgp hgc x0 x1 x2 x3 x4 FD CPL CK HBX hw1 hw2 hbn hsr hsr2 hnu hK0 a1 dd1 r1 hB hB1
  go_wp2_with (first
    | (go_at_call 19; (with_reducible refine (CH.out _ (HQ.out.up HV8.out.below)).mono ?_); rintro e w7 ⟨rfl, hb⟩; have HV9 := Lib.hid (HV8.out.up hb); clear hb)
    | (go_at_call 17; (with_reducible refine (CP.out p F _ (stI HV6.out.i2)).mono ?_); rintro e w6 ⟨rfl, hb⟩; have HV8 := Lib.hid (HV6.out.up hb); clear hb; clear z0 z1; obtain ⟨z0, z1⟩ := pbox HV8.out.i0; clear c0 c1 c2 c3 c4; obtain ⟨c0, c1, c2, c3, c4⟩ := box5 HV8.out.i1; clear x5; obtain ⟨_, _, _, _, _, x5⟩ := box6 HV8.out.i3))
  go_ret
  exact ⟨ret_bs (by first | rfl | (simp [*]; done)), HV9.out.below⟩
set_option maxRecDepth 100000 in
set_option maxHeartbeats 40000000 in
theorem over_2_k2 (x : Cfg) (A : Option Addr) (n0 k0 : Nat) (qs : Ups) (lv key : Int) (w : World) (hx : x.Ok) (hq : UpdV w A n0 k0 qs) (hkb : 0 ≤ key ∧ key ≤ 18446744073709551615) (c : Cfg) (hC : { anyC x 10 9 with md := 2 } = c) (Y : Int) (hB : bits .and .i64 x.md 1 = Y) (hB1 : (Y == 1) = true) (X : Int) (n : Nat) (a1 : bits .and .i64 lv 65535 = X) (b1 : 0 ≤ X) (dd1 : Int.tmod X (c.bt + 1) = (n : Int)) (ff1 : (n : Int) < c.bt + 1) (hpl : plainB (upsR c 0 qs 0 60) = true) (hz : 0 < n0) (hev : ¬ Int.tmod key 2 = 0) :
    Calls Try.prog 5 #[.agg #[.int .i64 x.bt, .int .i64 x.rw, .int .i64 x.wd, .int .i64 x.md, .int .u64 x.sd, .slice A n0 k0], .int .i64 lv, .int .u64 key] w fun e w' => e = .returned (.bool true) ∧ Below w.heap.size w w' := by
  have hr0 := any_right x 10 9 (by omega) (by omega) (by omega) (by omega)
  have hco0 := any_ok x hx 10 9 (by omega) (by omega) (by omega) (by omega)
  have hr : IsRight c := by rw [← hC]; exact ⟨hr0.1, hr0.2.1, hr0.2.2.1, hr0.2.2.2.1, hr0.2.2.2.2.1, hr0.2.2.2.2.2.1, (by show (1 : Int) ≤ 2; omega), (by show (2 : Int) ≤ 3; omega)⟩
  have hco : c.Ok := by rw [← hC]; exact ⟨hco0.b0, hco0.b1, hco0.r0, hco0.r1, hco0.w0, hco0.w1, by show -9223372036854775808 ≤ (2 : Int); omega, by show (2 : Int) ≤ 9223372036854775807; omega, hco0.s0, hco0.s1⟩
  have hmd : c.md = 2 := by rw [← hC]
  have hbt := hr.1
  have hb5 := hr.2.1
  have hkeys : 1 ≤ keys c 0 := keys_pos.2 ⟨hr, by omega, by omega⟩
  have FD := Lib.hid (fun w hq => fed_m x A n0 k0 qs 2 (by omega) (by omega) 0 60 0 60 c w hx hq rfl rfl (by omega) (by omega) hC)
  have CPL := Lib.hid (fun w hq => rplain_any c A n0 k0 qs w hco hkeys hq)
  rw [hpl] at CPL
  have hin := upsR_in hkeys qs 0 60
  obtain ⟨us, hus⟩ : ∃ us, upsR c 0 qs 0 60 = us := ⟨_, rfl⟩
  have HQ := Lib.hid hq
  have HBX : Hid (Have w (w.alloc (.cells #[.int .i64 x.bt, .int .i64 x.rw, .int .i64 x.wd, .int .i64 x.md, .int .u64 x.sd, .slice A n0 k0] 27)) [boxT w.heap.size 27 #[.int .i64 x.bt, .int .i64 x.rw, .int .i64 x.wd, .int .i64 x.md, .int .u64 x.sd, .slice A n0 k0]]) := Lib.hid (box_new w _ _)
  have hkk := keys_bd c 0
  obtain ⟨r1, r2, r3⟩ := rem_key key (keys c 0) hkb.1 hkb.2 hkeys
  have CK := Lib.hid (fun w => rkeys_any c 0 w hco (by omega) (by omega))
  obtain ⟨K, hK⟩ : ∃ K, keys c 0 = K := ⟨_, rfl⟩
  rw [hK] at r1 r2 r3
  have r4 := Int.emod_nonneg key (show K ≠ 0 by omega)
  have r5 := Int.emod_lt_of_pos key (show 0 < K by omega)
  obtain ⟨U, hU⟩ : ∃ U, key % K = U := ⟨_, rfl⟩
  rw [hU] at r1 r2 r3 r4 r5
  have hV0 := upK_keys hr (k := U) (n := n) (by omega) (by rw [hK]; omega) (by omega)
  obtain ⟨V0, hVV0⟩ : ∃ V, upK U n = V := ⟨_, rfl⟩
  rw [hVV0] at hV0
  have hsr : U / 2 ^ min n 64 = V0 := by rw [← hVV0]; exact shr_at (by omega)
  have hsr2 : U / 2 ^ n = V0 := by rw [← hsr, Nat.min_eq_left (by omega)]
  have hnu : IntKind.u64.wrap (n : Int) = n := by rw [IntKind.wrap_u64]; omega
  have hK0 : ¬ K = 0 := by omega
  obtain ⟨V, hVV⟩ : ∃ V, V0 = V := ⟨_, rfl⟩
  subst hVV
  have hV := hV0
  have hkn := keys_bd c n
  have hov := over_le hr (by omega) hin hpl (n := n) (by omega) (i := V0) hV.1 hV.2
  rw [hus] at hov hin FD
  have hsp := sp_at hr us (n := n) (by omega) V0
  rw [st_pc hV.1 hV.2] at hsp
  rw [← hsp.1] at hov
  have CH := Lib.hid (fun w hq => rhas_any c A n0 k0 qs n V0 w hco hkeys hq (by omega) hV.1 (by omega))
  rw [hus] at CH
  have CP := Lib.hid (fun p F w hs => cs_point p F c (stsOf c us) n V0 w hs (by omega) (by omega) hV.1 (by omega))
  rw [hsp.2] at CP
  obtain ⟨PV, hPV⟩ : ∃ v, spV c (stsOf c us) n V0 = v := ⟨_, rfl⟩
  rw [hPV] at CP hov
  obtain ⟨Hv, hHv⟩ : ∃ v, hasK V0 (upN us n) = v := ⟨_, rfl⟩
  rw [hHv] at CH hov
  obtain ⟨Z, hZ⟩ : ∃ Z, stsOf c us = Z := ⟨_, rfl⟩
  rw [hZ] at FD CP
  have hd9 : decide (Hv ≤ PV) = true := decide_eq_true hov
  have hw1 : IntKind.i64.wrap (c.bt + 1) = c.bt + 1 := IntWalk.i64_in _ ⟨by omega, by omega⟩
  have hw2 : wrap64 (c.bt + 1) = c.bt + 1 := IntWalk.wrap64_in _ ⟨by omega, by omega⟩
  have hbn : ¬ c.bt + 1 = 0 := by omega
  have hz1 : decide ((0 : Int) < (n0 : Int)) = true := decide_eq_true (by omega)
  have hz2 : (0 : Int) < (n0 : Int) := by omega
  have hz3 : decide (0 < n0) = true := decide_eq_true hz
  have he1 : (Int.tmod key 2 == 0) = false := by simpa using hev
  have he2 : (key % 2 == 0) = false := by rw [← Int.tmod_eq_emod_of_nonneg hkb.1]; exact he1
  rw [hK] at CK
  clear hr hco hbt hb5 hkeys hkk r2 r3 r4 r5 hV hkn hsp hPV hZ hus hVV0 hV0 hK hU hx hC b1 hin hov hHv hpl hmd hr0 hco0 hev hq
  go_enter Try.func5, Try.ntmps5
  go_upto_region 14 with (first
    | (go_at_call 12; (with_reducible refine (CK.out _).mono ?_); rintro e w4 ⟨rfl, hb⟩; have HV5 := Lib.hid (HV4.out.up hb); clear hb; have HV6 := Lib.hid (HV5.out.push (boxT w4.heap.size 45 #[.int .i64 (n : Int), .int .u64 V0]) (Lw.below_alloc (Below.refl _ _) _) (heap_alloc_new w4 _) (fun k hk => Nat.le_of_eq hk.symm)); clear c0 c1 c2 c3 c4; obtain ⟨z0, z1⟩ := pbox HV6.out.i0; obtain ⟨c0, c1, c2, c3, c4⟩ := box5 HV6.out.i1; clear x0 x1 x2 x3 x4 x5; obtain ⟨x0, x1, x2, x3, x4, x5⟩ := box6 HV6.out.i3)
    | (go_at_call 21; (with_reducible refine (CPL.out _ (HQ.out.up HV3.out.below)).mono ?_); rintro e w3 ⟨rfl, hb⟩; have HV4 := Lib.hid (HV3.out.up hb); clear hb; clear c0 c1 c2 c3 c4; obtain ⟨c0, c1, c2, c3, c4⟩ := box5 HV4.out.i0; clear x0 x1 x2 x3 x4 x5; obtain ⟨x0, x1, x2, x3, x4, x5⟩ := box6 HV4.out.i2)
    | (go_at_call 10; (with_reducible refine (FD.out _ (HQ.out.up HV1.out.below)).mono ?_); rintro e w2 ⟨p, F, rfl, hv⟩; have HV2 := Lib.hid (HV1.out.join hv); simp only [List.cons_append, List.nil_append] at HV2; clear hv; have HV3 := Lib.hid (HV2.out.push (boxT w2.heap.size 24 #[.int .i64 c.bt, .int .i64 c.rw, .int .i64 c.wd, .int .i64 c.md, .int .u64 c.sd]) (Lw.below_alloc (Below.refl _ _) _) (heap_alloc_new w2 _) (fun k hk => Nat.le_of_eq hk.symm)); obtain ⟨c0, c1, c2, c3, c4⟩ := box5 HV3.out.i0; clear x0 x1 x2 x3 x4 x5; obtain ⟨x0, x1, x2, x3, x4, x5⟩ := box6 HV3.out.i2)
    | (go_at_call 9; (with_reducible refine (shown_any _).mono ?_); rintro e w1 ⟨rfl, hb⟩; have HV1 := Lib.hid (HBX.out.up hb); clear hb; obtain ⟨x0, x1, x2, x3, x4, x5⟩ := box6 HV1.out.i0))
  obtain ⟨gp, hgp⟩ : ∃ g, w4.heap.size = g := ⟨_, rfl⟩
  obtain ⟨gc, hgc⟩ : ∃ g, w2.heap.size = g := ⟨_, rfl⟩
  rw [hgp, hgc] at HV6 ⊢
  rw [hgp] at z0 z1
  rw [hgc] at c0 c1 c2 c3 c4
  clear HV1 HV2 HV3 HV4 HV5 hgp hgc x0 x1 x2 x3 x4 FD CPL CK HBX hw1 hw2 hbn hsr hsr2 hnu hK0 a1 dd1 r1 hB hB1
  go_wp2_with (first
    | (go_at_call 19; (with_reducible refine (CH.out _ (HQ.out.up HV8.out.below)).mono ?_); rintro e w7 ⟨rfl, hb⟩; have HV9 := Lib.hid (HV8.out.up hb); clear hb)
    | (go_at_call 17; (with_reducible refine (CP.out p F _ (stI HV6.out.i2)).mono ?_); rintro e w6 ⟨rfl, hb⟩; have HV8 := Lib.hid (HV6.out.up hb); clear hb; clear z0 z1; obtain ⟨z0, z1⟩ := pbox HV8.out.i0; clear c0 c1 c2 c3 c4; obtain ⟨c0, c1, c2, c3, c4⟩ := box5 HV8.out.i1; clear x5; obtain ⟨_, _, _, _, _, x5⟩ := box6 HV8.out.i3))
  go_ret
  exact ⟨ret_bs (by first | rfl | (simp [*]; done)), HV9.out.below⟩
set_option maxRecDepth 100000 in
set_option maxHeartbeats 40000000 in
theorem over_2_f (x : Cfg) (A : Option Addr) (n0 k0 : Nat) (qs : Ups) (lv key : Int) (w : World) (hx : x.Ok) (hq : UpdV w A n0 k0 qs) (hkb : 0 ≤ key ∧ key ≤ 18446744073709551615) (c : Cfg) (hC : { anyC x 10 9 with md := 2 } = c) (Y : Int) (hB : bits .and .i64 x.md 1 = Y) (hB1 : (Y == 1) = true) (X : Int) (n : Nat) (a1 : bits .and .i64 lv 65535 = X) (b1 : 0 ≤ X) (dd1 : Int.tmod X (c.bt + 1) = (n : Int)) (ff1 : (n : Int) < c.bt + 1) (hpl : plainB (upsR c 0 qs 0 60) = true) (hz : 0 < n0) (hev : Int.tmod key 2 = 0) :
    Calls Try.prog 5 #[.agg #[.int .i64 x.bt, .int .i64 x.rw, .int .i64 x.wd, .int .i64 x.md, .int .u64 x.sd, .slice A n0 k0], .int .i64 lv, .int .u64 key] w fun e w' => e = .returned (.bool true) ∧ Below w.heap.size w w' := by
  have hr0 := any_right x 10 9 (by omega) (by omega) (by omega) (by omega)
  have hco0 := any_ok x hx 10 9 (by omega) (by omega) (by omega) (by omega)
  have hr : IsRight c := by rw [← hC]; exact ⟨hr0.1, hr0.2.1, hr0.2.2.1, hr0.2.2.2.1, hr0.2.2.2.2.1, hr0.2.2.2.2.2.1, (by show (1 : Int) ≤ 2; omega), (by show (2 : Int) ≤ 3; omega)⟩
  have hco : c.Ok := by rw [← hC]; exact ⟨hco0.b0, hco0.b1, hco0.r0, hco0.r1, hco0.w0, hco0.w1, by show -9223372036854775808 ≤ (2 : Int); omega, by show (2 : Int) ≤ 9223372036854775807; omega, hco0.s0, hco0.s1⟩
  have hmd : c.md = 2 := by rw [← hC]
  have hbt := hr.1
  have hb5 := hr.2.1
  have hkeys : 1 ≤ keys c 0 := keys_pos.2 ⟨hr, by omega, by omega⟩
  have FD := Lib.hid (fun w hq => fed_m x A n0 k0 qs 2 (by omega) (by omega) 0 60 0 60 c w hx hq rfl rfl (by omega) (by omega) hC)
  have CPL := Lib.hid (fun w hq => rplain_any c A n0 k0 qs w hco hkeys hq)
  rw [hpl] at CPL
  have hin := upsR_in hkeys qs 0 60
  obtain ⟨us, hus⟩ : ∃ us, upsR c 0 qs 0 60 = us := ⟨_, rfl⟩
  have HQ := Lib.hid hq
  have HBX : Hid (Have w (w.alloc (.cells #[.int .i64 x.bt, .int .i64 x.rw, .int .i64 x.wd, .int .i64 x.md, .int .u64 x.sd, .slice A n0 k0] 27)) [boxT w.heap.size 27 #[.int .i64 x.bt, .int .i64 x.rw, .int .i64 x.wd, .int .i64 x.md, .int .u64 x.sd, .slice A n0 k0]]) := Lib.hid (box_new w _ _)
  have hkk := keys_bd c 0
  obtain ⟨r1, r2, r3⟩ := rem_key key (keys c 0) hkb.1 hkb.2 hkeys
  have CK := Lib.hid (fun w => rkeys_any c 0 w hco (by omega) (by omega))
  obtain ⟨K, hK⟩ : ∃ K, keys c 0 = K := ⟨_, rfl⟩
  rw [hK] at r1 r2 r3
  have r4 := Int.emod_nonneg key (show K ≠ 0 by omega)
  have r5 := Int.emod_lt_of_pos key (show 0 < K by omega)
  obtain ⟨U, hU⟩ : ∃ U, key % K = U := ⟨_, rfl⟩
  rw [hU] at r1 r2 r3 r4 r5
  have hV0 := upK_keys hr (k := U) (n := n) (by omega) (by rw [hK]; omega) (by omega)
  obtain ⟨V0, hVV0⟩ : ∃ V, upK U n = V := ⟨_, rfl⟩
  rw [hVV0] at hV0
  have hsr : U / 2 ^ min n 64 = V0 := by rw [← hVV0]; exact shr_at (by omega)
  have hsr2 : U / 2 ^ n = V0 := by rw [← hsr, Nat.min_eq_left (by omega)]
  have hnu : IntKind.u64.wrap (n : Int) = n := by rw [IntKind.wrap_u64]; omega
  have hK0 : ¬ K = 0 := by omega
  obtain ⟨q, hq1⟩ : ∃ q, qs[0]? = some q := ⟨_, List.getElem?_eq_getElem (by rw [hq.len]; exact hz)⟩
  have hcu := cutU_ok hkeys q
  obtain ⟨a, g, o, rfl, hadd, d1w, d2w, kb, db⟩ := hq.at hq1
  obtain ⟨qk, qd⟩ := q
  simp only at d1w d2w kb db
  have CC := Lib.hid (fun w => rcut15_any c qk qd w hco kb.1 kb.2 db.1 db.2 hkeys)
  obtain ⟨UF, hUF⟩ : ∃ UF, (cutU c 0 (qk, qd)).1 = UF := ⟨_, rfl⟩
  obtain ⟨DF, hDF⟩ : ∃ DF, (cutU c 0 (qk, qd)).2 = DF := ⟨_, rfl⟩
  rw [hUF, hDF] at CC
  rw [hUF] at hcu
  have hV := upK_keys hr (k := UF) (n := n) hcu.1 hcu.2.1 (by omega)
  obtain ⟨V, hVV⟩ : ∃ V, upK UF n = V := ⟨_, rfl⟩
  rw [hVV] at hV
  have hsf : UF / 2 ^ min n 64 = V := by rw [← hVV]; exact shr_at (by omega)
  have hsf2 : UF / 2 ^ n = V := by rw [← hsf, Nat.min_eq_left (by omega)]
  have hfd := fld_key UF DF
  have hadd0 : a.add 0 = ⟨g, o, none⟩ := hadd
  have HD1 := Lib.hid d1w
  have HD2 := Lib.hid d2w
  have hkn := keys_bd c n
  have hov := over_le hr (by omega) hin hpl (n := n) (by omega) (i := V) hV.1 hV.2
  rw [hus] at hov hin FD
  have hsp := sp_at hr us (n := n) (by omega) V
  rw [st_pc hV.1 hV.2] at hsp
  rw [← hsp.1] at hov
  have CH := Lib.hid (fun w hq => rhas_any c (some a) n0 k0 qs n V w hco hkeys hq (by omega) hV.1 (by omega))
  rw [hus] at CH
  have CP := Lib.hid (fun p F w hs => cs_point p F c (stsOf c us) n V w hs (by omega) (by omega) hV.1 (by omega))
  rw [hsp.2] at CP
  obtain ⟨PV, hPV⟩ : ∃ v, spV c (stsOf c us) n V = v := ⟨_, rfl⟩
  rw [hPV] at CP hov
  obtain ⟨Hv, hHv⟩ : ∃ v, hasK V (upN us n) = v := ⟨_, rfl⟩
  rw [hHv] at CH hov
  obtain ⟨Z, hZ⟩ : ∃ Z, stsOf c us = Z := ⟨_, rfl⟩
  rw [hZ] at FD CP
  have hd9 : decide (Hv ≤ PV) = true := decide_eq_true hov
  have hw1 : IntKind.i64.wrap (c.bt + 1) = c.bt + 1 := IntWalk.i64_in _ ⟨by omega, by omega⟩
  have hw2 : wrap64 (c.bt + 1) = c.bt + 1 := IntWalk.wrap64_in _ ⟨by omega, by omega⟩
  have hbn : ¬ c.bt + 1 = 0 := by omega
  have hz1 : decide ((0 : Int) < (n0 : Int)) = true := decide_eq_true (by omega)
  have hz2 : (0 : Int) < (n0 : Int) := by omega
  have hz3 : decide (0 < n0) = true := decide_eq_true hz
  have he1 : (Int.tmod key 2 == 0) = true := by simpa using hev
  have he2 : (key % 2 == 0) = true := by rw [← Int.tmod_eq_emod_of_nonneg hkb.1]; exact he1
  rw [hK] at CK
  clear hr hco hbt hb5 hkeys hkk r2 r3 r4 r5 hV hkn hsp hPV hZ hus hVV0 hV0 hK hU hx hC b1 hin hov hHv hpl hmd hr0 hco0 hev hcu hq1 hUF hDF hVV d1w d2w kb db hq
  go_enter Try.func5, Try.ntmps5
  go_upto_region 13 with (first
    | (go_at_call 12; (with_reducible refine (CK.out _).mono ?_); rintro e w4 ⟨rfl, hb⟩; have HV5 := Lib.hid (HV4.out.up hb); clear hb; have HV6 := Lib.hid (HV5.out.push (boxT w4.heap.size 45 #[.int .i64 (n : Int), .int .u64 V0]) (Lw.below_alloc (Below.refl _ _) _) (heap_alloc_new w4 _) (fun k hk => Nat.le_of_eq hk.symm)); clear c0 c1 c2 c3 c4; obtain ⟨z0, z1⟩ := pbox HV6.out.i0; obtain ⟨c0, c1, c2, c3, c4⟩ := box5 HV6.out.i1; clear x0 x1 x2 x3 x4 x5; obtain ⟨x0, x1, x2, x3, x4, x5⟩ := box6 HV6.out.i3)
    | (go_at_call 21; (with_reducible refine (CPL.out _ (HQ.out.up HV3.out.below)).mono ?_); rintro e w3 ⟨rfl, hb⟩; have HV4 := Lib.hid (HV3.out.up hb); clear hb; clear c0 c1 c2 c3 c4; obtain ⟨c0, c1, c2, c3, c4⟩ := box5 HV4.out.i0; clear x0 x1 x2 x3 x4 x5; obtain ⟨x0, x1, x2, x3, x4, x5⟩ := box6 HV4.out.i2)
    | (go_at_call 10; (with_reducible refine (FD.out _ (HQ.out.up HV1.out.below)).mono ?_); rintro e w2 ⟨p, F, rfl, hv⟩; have HV2 := Lib.hid (HV1.out.join hv); simp only [List.cons_append, List.nil_append] at HV2; clear hv; have HV3 := Lib.hid (HV2.out.push (boxT w2.heap.size 24 #[.int .i64 c.bt, .int .i64 c.rw, .int .i64 c.wd, .int .i64 c.md, .int .u64 c.sd]) (Lw.below_alloc (Below.refl _ _) _) (heap_alloc_new w2 _) (fun k hk => Nat.le_of_eq hk.symm)); obtain ⟨c0, c1, c2, c3, c4⟩ := box5 HV3.out.i0; clear x0 x1 x2 x3 x4 x5; obtain ⟨x0, x1, x2, x3, x4, x5⟩ := box6 HV3.out.i2)
    | (go_at_call 9; (with_reducible refine (shown_any _).mono ?_); rintro e w1 ⟨rfl, hb⟩; have HV1 := Lib.hid (HBX.out.up hb); clear hb; obtain ⟨x0, x1, x2, x3, x4, x5⟩ := box6 HV1.out.i0))
  obtain ⟨gp, hgp⟩ : ∃ g, w4.heap.size = g := ⟨_, rfl⟩
  obtain ⟨gc, hgc⟩ : ∃ g, w2.heap.size = g := ⟨_, rfl⟩
  rw [hgp, hgc] at HV6 ⊢
  rw [hgp] at z0 z1
  rw [hgc] at c0 c1 c2 c3 c4
  clear HV1 HV2 HV3 HV4 HV5 hgp hgc x0 x1 x2 x3 x4 FD CPL CK HBX hw1 hw2 hbn hsr hsr2  hK0 a1 dd1 r1 hB hB1
  obtain ⟨w5, hw5⟩ : ∃ w5, w5 = w4.alloc (.cells #[.int .i64 (n : Int), .int .u64 V0] 45) := ⟨_, rfl⟩
  rw [← hw5] at HV6 z0 z1 c0 c1 c2 c3 c4 x5 ⊢
  have d1 := cell_up HD1.out HV6.out.below
  have d2 := cell_up HD2.out HV6.out.below
  have zf := boxs_frozen HV6.out.i0 1
  have hlg := box_lt HV6.out.i0
  have nb1 : ¬ gp = gc := fun h => HV6.out.ap01 gp rfl h
  have nb2 : ¬ gp = w.heap.size := fun h => HV6.out.ap03 gp rfl h
  have nb3 : ¬ gp = g := fun h => by
    have h1 : g < w.heap.size := cell_lt HD1.out
    have h2 := HV6.out.f0 gp rfl
    omega
  clear hw5
  go_region_held3 (fun w' => w'.cell? ⟨gc, 0, none⟩ = some (.int .i64 c.bt) ∧ w'.cell? ⟨gc, 1, none⟩ = some (.int .i64 c.rw) ∧ w'.cell? ⟨gc, 2, none⟩ = some (.int .i64 c.wd) ∧ w'.cell? ⟨gc, 3, none⟩ = some (.int .i64 c.md) ∧ w'.cell? ⟨gc, 4, none⟩ = some (.int .u64 c.sd) ∧ w'.cell? ⟨w.heap.size, 5, none⟩ = some (.slice (some a) n0 k0) ∧ w'.cell? ⟨g, o, none⟩ = some (.int .u64 qk) ∧ w'.cell? ⟨g, o + 1, none⟩ = some (.int .i64 qd)) (first | ((first | (refine ⟨?_, ?_, ?_, ?_, ?_, ?_, ?_, ?_⟩ <;> (first | (with_reducible assumption) | (with_reducible refine cell_up c0 ?_) | (with_reducible refine cell_up c1 ?_) | (with_reducible refine cell_up c2 ?_) | (with_reducible refine cell_up c3 ?_) | (with_reducible refine cell_up c4 ?_) | (with_reducible refine cell_up x5 ?_) | (with_reducible refine cell_up d1 ?_) | (with_reducible refine cell_up d2 ?_)) <;> (repeat' (first | (with_reducible exact Below.refl _ _) | (with_reducible assumption) | (with_reducible refine below_over ?_ _ _) | (with_reducible refine Lw.below_alloc ?_ _) | (with_reducible refine Below.drew ?_) | (with_reducible refine below_drewN ?_ _) | (with_reducible refine Below.setCell ?_ ?_ _) | go_size)))); done) | exact ⟨cell_up (cell_far (i := 1) (v := .int .u64 V) c0 nb1) (grow_below _ _ _), cell_up (cell_far (i := 1) (v := .int .u64 V) c1 nb1) (grow_below _ _ _), cell_up (cell_far (i := 1) (v := .int .u64 V) c2 nb1) (grow_below _ _ _), cell_up (cell_far (i := 1) (v := .int .u64 V) c3 nb1) (grow_below _ _ _), cell_up (cell_far (i := 1) (v := .int .u64 V) c4 nb1) (grow_below _ _ _), cell_up (cell_far (i := 1) (v := .int .u64 V) x5 nb2) (grow_below _ _ _), cell_up (cell_far (i := 1) (v := .int .u64 V) d1 nb3) (grow_below _ _ _), cell_up (cell_far (i := 1) (v := .int .u64 V) d2 nb3) (grow_below _ _ _)⟩) (first | (go_at_call 13; (with_reducible refine (CC.out _).mono ?_); rintro e w' ⟨rfl, hb⟩; obtain ⟨bs, dd, rfl⟩ := below_grow hb; clear hb))
  have hv7 := (HV6.out.turn_0 (boxT gp 45 #[.int .i64 (n : Int), .int .u64 V]) (boxs_set HV6.out.i0 1 (.int .u64 V)) ((Kept.refl (fun k => k = gp) w5).set (.inl rfl) 1 (.int .u64 V)) (fun k hk => .inl hk)).up (grow_below _ bs dd)
  obtain ⟨wz, hwz⟩ : ∃ wz, wz = grow (w5.setCell ⟨gp, 1, none⟩ (.int .u64 V)) bs dd := ⟨_, rfl⟩
  rw [← hwz] at hv7 ⊢
  have HV7 := Lib.hid hv7
  clear hv7 hwz z0 z1 c0 c1 c2 c3 c4 x5 d1 d2 zf
  obtain ⟨z0, z1⟩ := pbox HV7.out.i0
  obtain ⟨c0, c1, c2, c3, c4⟩ := box5 HV7.out.i1
  obtain ⟨_, _, _, _, _, x5⟩ := box6 HV7.out.i3
  go_wp2_with (first
    | (go_at_call 19; (with_reducible refine (CH.out _ (HQ.out.up HV8.out.below)).mono ?_); rintro e w7 ⟨rfl, hb⟩; have HV9 := Lib.hid (HV8.out.up hb); clear hb)
    | (go_at_call 17; (with_reducible refine (CP.out p F _ (stI HV7.out.i2)).mono ?_); rintro e w6 ⟨rfl, hb⟩; have HV8 := Lib.hid (HV7.out.up hb); clear hb; obtain ⟨z0, z1⟩ := pbox HV8.out.i0; obtain ⟨c0, c1, c2, c3, c4⟩ := box5 HV8.out.i1; obtain ⟨_, _, _, _, _, x5⟩ := box6 HV8.out.i3))
  go_ret
  exact ⟨ret_bs (by first | rfl | (simp [*]; done)), HV9.out.below⟩
theorem over_1 (x : Cfg) (A : Option Addr) (n0 k0 : Nat) (qs : Ups) (lv key : Int) (w : World) (hx : x.Ok) (hq : UpdV w A n0 k0 qs) (hkb : 0 ≤ key ∧ key ≤ 18446744073709551615) (Y : Int) (hY : bits .and .i64 x.md 1 = Y) (YB : (Y == 1) = false) :
    Calls Try.prog 5 #[.agg #[.int .i64 x.bt, .int .i64 x.rw, .int .i64 x.wd, .int .i64 x.md, .int .u64 x.sd, .slice A n0 k0], .int .i64 lv, .int .u64 key] w fun e w' => e = .returned (.bool true) ∧ Below w.heap.size w w' := by
  obtain ⟨c, hC⟩ : ∃ c, { anyC x 10 9 with md := 1 } = c := ⟨_, rfl⟩
  have hr0 := any_right x 10 9 (by omega) (by omega) (by omega) (by omega)
  have hbt : 1 ≤ c.bt := by rw [← hC]; exact hr0.1
  have hb5 : c.bt ≤ 59 := by rw [← hC]; exact hr0.2.1
  obtain ⟨X, l, a1, b1, c1, dd1, ee1, ff1⟩ := level_of lv (c.bt + 1) (by omega) (by omega)
  obtain ⟨n, rfl⟩ : ∃ n : Nat, l = n := ⟨l.toNat, by omega⟩
  cases hpl : plainB (upsR c 0 qs 0 60) with
  | false => exact over_1_np x A n0 k0 qs lv key w hx hq hkb c hC Y hY YB X n a1 b1 dd1 ff1 hpl
  | true =>
    by_cases hz : 0 < n0
    · by_cases hev : Int.tmod key 2 = 0
      · exact over_1_f x A n0 k0 qs lv key w hx hq hkb c hC Y hY YB X n a1 b1 dd1 ff1 hpl hz hev
      · exact over_1_k2 x A n0 k0 qs lv key w hx hq hkb c hC Y hY YB X n a1 b1 dd1 ff1 hpl hz hev
    · exact over_1_k1 x A n0 k0 qs lv key w hx hq hkb c hC Y hY YB X n a1 b1 dd1 ff1 hpl hz
theorem over_2 (x : Cfg) (A : Option Addr) (n0 k0 : Nat) (qs : Ups) (lv key : Int) (w : World) (hx : x.Ok) (hq : UpdV w A n0 k0 qs) (hkb : 0 ≤ key ∧ key ≤ 18446744073709551615) (Y : Int) (hY : bits .and .i64 x.md 1 = Y) (YB : (Y == 1) = true) :
    Calls Try.prog 5 #[.agg #[.int .i64 x.bt, .int .i64 x.rw, .int .i64 x.wd, .int .i64 x.md, .int .u64 x.sd, .slice A n0 k0], .int .i64 lv, .int .u64 key] w fun e w' => e = .returned (.bool true) ∧ Below w.heap.size w w' := by
  obtain ⟨c, hC⟩ : ∃ c, { anyC x 10 9 with md := 2 } = c := ⟨_, rfl⟩
  have hr0 := any_right x 10 9 (by omega) (by omega) (by omega) (by omega)
  have hbt : 1 ≤ c.bt := by rw [← hC]; exact hr0.1
  have hb5 : c.bt ≤ 59 := by rw [← hC]; exact hr0.2.1
  obtain ⟨X, l, a1, b1, c1, dd1, ee1, ff1⟩ := level_of lv (c.bt + 1) (by omega) (by omega)
  obtain ⟨n, rfl⟩ : ∃ n : Nat, l = n := ⟨l.toNat, by omega⟩
  cases hpl : plainB (upsR c 0 qs 0 60) with
  | false => exact over_2_np x A n0 k0 qs lv key w hx hq hkb c hC Y hY YB X n a1 b1 dd1 ff1 hpl
  | true =>
    by_cases hz : 0 < n0
    · by_cases hev : Int.tmod key 2 = 0
      · exact over_2_f x A n0 k0 qs lv key w hx hq hkb c hC Y hY YB X n a1 b1 dd1 ff1 hpl hz hev
      · exact over_2_k2 x A n0 k0 qs lv key w hx hq hkb c hC Y hY YB X n a1 b1 dd1 ff1 hpl hz hev
    · exact over_2_k1 x A n0 k0 qs lv key w hx hq hkb c hC Y hY YB X n a1 b1 dd1 ff1 hpl hz
theorem over_law (x : Cfg) (A : Option Addr) (n0 k0 : Nat) (qs : Ups) (lv key : Int) (w : World) (hx : x.Ok) (hq : UpdV w A n0 k0 qs) (hkb : 0 ≤ key ∧ key ≤ 18446744073709551615) :
    Calls Try.prog 5 #[.agg #[.int .i64 x.bt, .int .i64 x.rw, .int .i64 x.wd, .int .i64 x.md, .int .u64 x.sd, .slice A n0 k0], .int .i64 lv, .int .u64 key] w fun e w' => e = .returned (.bool true) ∧ Below w.heap.size w w' := by
  cases hY : (bits .and .i64 x.md 1 == 1) with
  | false => exact over_1 x A n0 k0 qs lv key w hx hq hkb _ rfl hY
  | true => exact over_2 x A n0 k0 qs lv key w hx hq hkb _ rfl hY
namespace stackOver
open Go.ChangeShapes Go.WideShapes Go.ChangeAt Go.Joins
set_option maxRecDepth 100000 in
theorem lifted (os : Os) (started : os.Started) (H : Type) (enc : TypeId × Value → H) :
    ReturnsInHanded {} Try.checked os 5 .any (Rows.stackOverSpec.pre6 enc Try.prog Try.f5 Rows.stackOverRow.domain false) (Rows.stackOverSpec.post enc Try.prog Try.f5 false true false false) := by
  refine Lw.lifted (C := Try.checked) (B := 4) (by kernel_rfl) os started (by kernel_rfl) Try.func5
    (ChangeSpec.witness6 (enc := enc) (C := Try.checked) false ⟨#[], #[.agg #[.int .i64 0, .int .i64 0, .int .i64 0, .int .i64 0, .int .u64 0, .slice none 0 0], .int .i64 0, .int .u64 0], []⟩ 8 (by kernel_rfl) (by kernel_rfl) (by kernel_rfl) (by kernel_rfl)) rfl Try.underlying4 (by kernel_rfl) (by kernel_rfl) (by kernel_rfl) ?_ ?_
  · intro ds h
    rw [Try.params5] at h
    match ds, h with
    | [_, _, _], _ => rfl
  · intro W base args ds p hval hA
    rw [Try.params5] at hA hval
    obtain ⟨v0, vs0, d0, ds0, p0, q0, hargs, rfl, rfl, h0, r0⟩ := trodAll_cons hA
    obtain ⟨v1, vs1, d1, ds1, p1, q1, rfl, rfl, rfl, h1, r1⟩ := trodAll_cons r0
    obtain ⟨v2, vs2, d2, ds2, p2, q2, rfl, rfl, rfl, h2, r2⟩ := trodAll_cons r1
    obtain ⟨rfl, rfl, rfl⟩ := trodAll_nil r2
    obtain rfl : args = #[v0, v1, v2] := by cases args; simp_all
    obtain ⟨x0, A0, n0, k0, qs0, rfl, hx0, hq0⟩ := open_playW (hval 0 27 v0 rfl rfl) h0
    obtain ⟨a1, rfl, rfl, rfl, w1⟩ := open_int Try.underlying3 (hval 1 3 v1 rfl rfl) h1
    have b1 := Lw.wf_i64 w1
    obtain ⟨a2, rfl, rfl, rfl, w2⟩ := open_int Try.underlying22 (hval 2 22 v2 rfl rfl) h2
    have b2 := Lw.wf_u64 w2
    exact over_law x0 A0 n0 k0 qs0 a1 a2 W hx0 hq0 b2
theorem over : Rows.stackOverRow.holds Try.pinned (OpenSpec.ofChange Rows.stackOverSpec) :=
  OpenClaim.holds_of_wide 5 Try.f5 rfl rfl rfl rfl rfl rfl rfl ⟨rfl, rfl, rfl, rfl, rfl⟩ rfl rfl rfl rfl rfl (by kernel_rfl) Try.func5 (by kernel_rfl)
    (of_decide_eq_true (by kernel_rfl)) (by unfold Func.isWrapper; first | (rw [if_pos (by decide +kernel)]; kernel_rfl) | (rw [if_neg (by decide +kernel)]; exact ⟨rfl, rfl⟩))
    (fun os started H enc _ => lifted os started H enc)
theorem proved : Rows.StackOverSaid :=
  over
#print axioms proved
end stackOver
end Go.Proofs.Ytccabgeeglhagaa.Stk
