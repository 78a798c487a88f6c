/- The statement QuantBounds of layer 17 holds. Printed by wip/gen/qnt4.py. -/
import Derived.Test.YtiblpdjehknbcaaGreatMd
import Derived.Test.YtiblpdjehknbcaaGreatMk
import Derived.Test.YtiblpdjehknbcaaGreatMl
import Derived.Test.YtiblpdjehknbcaaGreatMm
import Derived.Deep.LoopGhost
import Derived.Deep.RegionHeld3
import Derived.Deep.DeepCutAuto
import Derived.Deep.QuietTactic
import Derived.BigQuiet
namespace Go.Proofs.YtiblpdjehknbcaaGreat.Qnt
open Go Go.RowKit Lw Grd Lin Con Shp Sk Exa Lev Stk Pcs Spn
set_option linter.unusedVariables false
set_option linter.unusedSimpArgs false
set_option maxRecDepth 100000 in
set_option maxHeartbeats 40000000 in
theorem bnd_1n (x : Cfg) (A : Option Addr) (n0 k0 : Nat) (qs : Ups) (a : Int) (w : World) (hx : x.Ok) (hq : UpdV w A n0 k0 qs) (Y : Int) (hB : bits .and .i64 x.md 1 = Y) (hB1 : (Y == 1) = false) (hpl : plainB (upsR { anyC x 10 9 with md := 1 } 0 qs 0 60) = false) :
    Calls Tryz.prog 5 #[.agg #[.int .i64 x.bt, .int .i64 x.rw, .int .i64 x.wd, .int .i64 x.md, .int .u64 x.sd, .slice A n0 k0], .int .i64 a] w fun e w' => e = .returned (.bool true) ∧ Below w.heap.size w w' := by
  obtain ⟨c, hC⟩ : ∃ c, { anyC x 10 9 with md := 1 } = c := ⟨_, rfl⟩
  have hr0 := any_right x 10 9 (by omega) (by omega) (by omega) (by omega)
  have hco0 := any_ok x hx 10 9 (by omega) (by omega) (by omega) (by omega)
  have hr : IsRight c := by rw [← hC]; exact ⟨hr0.1, hr0.2.1, hr0.2.2.1, hr0.2.2.2.1, hr0.2.2.2.2.1, hr0.2.2.2.2.2.1, (by show (1 : Int) ≤ 1; omega), (by show (1 : Int) ≤ 3; omega)⟩
  have hco : c.Ok := by rw [← hC]; exact ⟨hco0.b0, hco0.b1, hco0.r0, hco0.r1, hco0.w0, hco0.w1, by show -9223372036854775808 ≤ (1 : Int); omega, by show (1 : Int) ≤ 9223372036854775807; omega, hco0.s0, hco0.s1⟩
  have hmd : c.md = 1 := by rw [← hC]
  have FD := Lib.hid (fun w hq => fed_m x A n0 k0 qs 1 (by omega) (by omega) c w hx hq hC)
  have hbt := hr.1
  have hbt2 := hr.2.1
  have hkeys : 1 ≤ keys c 0 := keys_pos.2 ⟨hr, by omega, by omega⟩
  have hkk := keys_bd c 0
  have hul := upsR_len c 0 qs 0 60
  have hui := upsR_in hkeys qs 0 60
  have CPL := Lib.hid (fun w hq => rplain_any c A n0 k0 qs w hco hkeys hq)
  have CH := Lib.hid (fun w n i hq hn i0 i1 => rhas_any c A n0 k0 qs n i w hco hkeys hq hn i0 i1)
  have CH0 := Lib.hid (fun w i hq i0 i1 => rhas_0 c A n0 k0 qs i w hco hkeys hq i0 i1)
  have CBW := Lib.hid (fun w i hq i0 i1 => rbtw_any c A n0 k0 qs 0 i w hco hkeys hq (by omega) (by omega) i0 i1)
  have CK := Lib.hid (fun w => rkeys_any c 0 w hco (by omega) (by omega))
  rw [hC] at hpl
  obtain ⟨us, hus⟩ : ∃ us, upsR c 0 qs 0 60 = us := ⟨_, rfl⟩
  rw [hus] at FD hul hui CPL CH CH0 CBW hpl
  rw [hpl] at CPL
  have htop : ptU c us c.bt.toNat 0 = hasK 0 (upN us c.bt.toNat) := ptU_top hr us
  have htb := ptU_bd hr hui hul (L := c.bt.toNat) (i := 0) (Nat.le_refl _) (by rw [Nat.sub_self]; decide)
  have htb1 : -65970697666560 ≤ ptU c us c.bt.toNat 0 := htb.1
  have htb2 : ptU c us c.bt.toNat 0 ≤ 65970697666560 := htb.2
  have CHT := Lib.hid (fun w hq => CH.out w c.bt.toNat 0 hq (by omega) (by omega) (by omega))
  rw [bt_nat hr] at CHT
  obtain ⟨TV, hTV⟩ : ∃ v, hasK 0 (upN us c.bt.toNat) = v := ⟨_, rfl⟩
  rw [hTV] at CHT htop
  rw [htop] at htb1 htb2
  obtain ⟨Z, hZ⟩ : ∃ Z, stsOf c us = Z := ⟨_, rfl⟩
  rw [hZ] at FD
  have HQ := Lib.hid hq
  have HBX : Hid (Have w (w.alloc (.cells #[.int .i64 x.bt, .int .i64 x.rw, .int .i64 x.wd, .int .i64 x.md, .int .u64 x.sd, .slice A n0 k0] 27)) [boxT w.heap.size 27 #[.int .i64 x.bt, .int .i64 x.rw, .int .i64 x.wd, .int .i64 x.md, .int .u64 x.sd, .slice A n0 k0]]) := Lib.hid (box_new w _ _)
  clear hr hco hr0 hco0 hC hbt hbt2 hkeys hkk hul hui hus htop htb htb1 htb2 hTV hpl hq hx hmd hZ
  go_enter Tryz.func5, Tryz.ntmps5
  go_wp2_with (first
    | (go_at_call 23; (with_reducible refine (CPL.out _ (HQ.out.up HV4.out.below)).mono ?_); rintro e w5 ⟨rfl, hb⟩; have HV5 := Lib.hid (HV4.out.up hb); clear hb; clear c0 c1 c2 c3 c4; obtain ⟨c0, c1, c2, c3, c4⟩ := box5 HV5.out.i0; clear x0 x1 x2 x3 x4 x5; obtain ⟨x0, x1, x2, x3, x4, x5⟩ := box6 HV5.out.i2)
    | (go_at_call 22; (with_reducible refine (CHT.out _ (HQ.out.up HV3.out.below)).mono ?_); rintro e w4 ⟨rfl, hb⟩; have HV4 := Lib.hid (HV3.out.up hb); clear hb; clear c0 c1 c2 c3 c4; obtain ⟨c0, c1, c2, c3, c4⟩ := box5 HV4.out.i0; clear x0 x1 x2 x3 x4 x5; obtain ⟨x0, x1, x2, x3, x4, x5⟩ := box6 HV4.out.i2)
    | (go_at_call 21; (with_reducible refine (FD.out _ (HQ.out.up HV1.out.below)).mono ?_); rintro e w2 ⟨p, F, rfl, hv⟩; have HV2 := Lib.hid (HV1.out.join hv); simp only [List.cons_append, List.nil_append] at HV2; clear hv; have HV3 := Lib.hid (HV2.out.push (boxT w2.heap.size 24 #[.int .i64 c.bt, .int .i64 c.rw, .int .i64 c.wd, .int .i64 c.md, .int .u64 c.sd]) (Lw.below_alloc (Below.refl _ _) _) (heap_alloc_new w2 _) (fun k hk => Nat.le_of_eq hk.symm)); obtain ⟨c0, c1, c2, c3, c4⟩ := box5 HV3.out.i0; clear x0 x1 x2 x3 x4 x5; obtain ⟨x0, x1, x2, x3, x4, x5⟩ := box6 HV3.out.i2)
    | (go_at_call 7; (with_reducible refine (shown_any _).mono ?_); rintro e w1 ⟨rfl, hb⟩; have HV1 := Lib.hid (HBX.out.up hb); clear hb; obtain ⟨x0, x1, x2, x3, x4, x5⟩ := box6 HV1.out.i0))
  go_ret
  exact ⟨ret_bs (by first | rfl | (simp [*]; done)), HV5.out.below⟩
set_option maxRecDepth 100000 in
set_option maxHeartbeats 40000000 in
theorem bnd_1z (x : Cfg) (A : Option Addr) (n0 k0 : Nat) (qs : Ups) (a : Int) (w : World) (hx : x.Ok) (hq : UpdV w A n0 k0 qs) (Y : Int) (hB : bits .and .i64 x.md 1 = Y) (hB1 : (Y == 1) = false) (hpl : plainB (upsR { anyC x 10 9 with md := 1 } 0 qs 0 60) = true) (hT : ¬ 1 ≤ hasK 0 (upN (upsR { anyC x 10 9 with md := 1 } 0 qs 0 60) { anyC x 10 9 with md := 1 }.bt.toNat)) :
    Calls Tryz.prog 5 #[.agg #[.int .i64 x.bt, .int .i64 x.rw, .int .i64 x.wd, .int .i64 x.md, .int .u64 x.sd, .slice A n0 k0], .int .i64 a] w fun e w' => e = .returned (.bool true) ∧ Below w.heap.size w w' := by
  obtain ⟨c, hC⟩ : ∃ c, { anyC x 10 9 with md := 1 } = c := ⟨_, rfl⟩
  have hr0 := any_right x 10 9 (by omega) (by omega) (by omega) (by omega)
  have hco0 := any_ok x hx 10 9 (by omega) (by omega) (by omega) (by omega)
  have hr : IsRight c := by rw [← hC]; exact ⟨hr0.1, hr0.2.1, hr0.2.2.1, hr0.2.2.2.1, hr0.2.2.2.2.1, hr0.2.2.2.2.2.1, (by show (1 : Int) ≤ 1; omega), (by show (1 : Int) ≤ 3; omega)⟩
  have hco : c.Ok := by rw [← hC]; exact ⟨hco0.b0, hco0.b1, hco0.r0, hco0.r1, hco0.w0, hco0.w1, by show -9223372036854775808 ≤ (1 : Int); omega, by show (1 : Int) ≤ 9223372036854775807; omega, hco0.s0, hco0.s1⟩
  have hmd : c.md = 1 := by rw [← hC]
  have FD := Lib.hid (fun w hq => fed_m x A n0 k0 qs 1 (by omega) (by omega) c w hx hq hC)
  have hbt := hr.1
  have hbt2 := hr.2.1
  have hkeys : 1 ≤ keys c 0 := keys_pos.2 ⟨hr, by omega, by omega⟩
  have hkk := keys_bd c 0
  have hul := upsR_len c 0 qs 0 60
  have hui := upsR_in hkeys qs 0 60
  have CPL := Lib.hid (fun w hq => rplain_any c A n0 k0 qs w hco hkeys hq)
  have CH := Lib.hid (fun w n i hq hn i0 i1 => rhas_any c A n0 k0 qs n i w hco hkeys hq hn i0 i1)
  have CH0 := Lib.hid (fun w i hq i0 i1 => rhas_0 c A n0 k0 qs i w hco hkeys hq i0 i1)
  have CBW := Lib.hid (fun w i hq i0 i1 => rbtw_any c A n0 k0 qs 0 i w hco hkeys hq (by omega) (by omega) i0 i1)
  have CK := Lib.hid (fun w => rkeys_any c 0 w hco (by omega) (by omega))
  rw [hC] at hpl hT
  obtain ⟨us, hus⟩ : ∃ us, upsR c 0 qs 0 60 = us := ⟨_, rfl⟩
  rw [hus] at FD hul hui CPL CH CH0 CBW hpl hT
  rw [hpl] at CPL
  have htop : ptU c us c.bt.toNat 0 = hasK 0 (upN us c.bt.toNat) := ptU_top hr us
  have htb := ptU_bd hr hui hul (L := c.bt.toNat) (i := 0) (Nat.le_refl _) (by rw [Nat.sub_self]; decide)
  have htb1 : -65970697666560 ≤ ptU c us c.bt.toNat 0 := htb.1
  have htb2 : ptU c us c.bt.toNat 0 ≤ 65970697666560 := htb.2
  have CHT := Lib.hid (fun w hq => CH.out w c.bt.toNat 0 hq (by omega) (by omega) (by omega))
  rw [bt_nat hr] at CHT
  obtain ⟨TV, hTV⟩ : ∃ v, hasK 0 (upN us c.bt.toNat) = v := ⟨_, rfl⟩
  rw [hTV] at CHT htop hT
  rw [htop] at htb1 htb2
  have hl1 : TV < 1 := by omega
  obtain ⟨Z, hZ⟩ : ∃ Z, stsOf c us = Z := ⟨_, rfl⟩
  rw [hZ] at FD
  have HQ := Lib.hid hq
  have HBX : Hid (Have w (w.alloc (.cells #[.int .i64 x.bt, .int .i64 x.rw, .int .i64 x.wd, .int .i64 x.md, .int .u64 x.sd, .slice A n0 k0] 27)) [boxT w.heap.size 27 #[.int .i64 x.bt, .int .i64 x.rw, .int .i64 x.wd, .int .i64 x.md, .int .u64 x.sd, .slice A n0 k0]]) := Lib.hid (box_new w _ _)
  clear hr hco hr0 hco0 hC hbt hbt2 hkeys hkk hul hui hus htop htb htb1 htb2 hTV hpl hq hx hmd hZ hT
  go_enter Tryz.func5, Tryz.ntmps5
  go_wp2_with (first
    | (go_at_call 23; (with_reducible refine (CPL.out _ (HQ.out.up HV4.out.below)).mono ?_); rintro e w5 ⟨rfl, hb⟩; have HV5 := Lib.hid (HV4.out.up hb); clear hb; clear c0 c1 c2 c3 c4; obtain ⟨c0, c1, c2, c3, c4⟩ := box5 HV5.out.i0; clear x0 x1 x2 x3 x4 x5; obtain ⟨x0, x1, x2, x3, x4, x5⟩ := box6 HV5.out.i2)
    | (go_at_call 22; (with_reducible refine (CHT.out _ (HQ.out.up HV3.out.below)).mono ?_); rintro e w4 ⟨rfl, hb⟩; have HV4 := Lib.hid (HV3.out.up hb); clear hb; clear c0 c1 c2 c3 c4; obtain ⟨c0, c1, c2, c3, c4⟩ := box5 HV4.out.i0; clear x0 x1 x2 x3 x4 x5; obtain ⟨x0, x1, x2, x3, x4, x5⟩ := box6 HV4.out.i2)
    | (go_at_call 21; (with_reducible refine (FD.out _ (HQ.out.up HV1.out.below)).mono ?_); rintro e w2 ⟨p, F, rfl, hv⟩; have HV2 := Lib.hid (HV1.out.join hv); simp only [List.cons_append, List.nil_append] at HV2; clear hv; have HV3 := Lib.hid (HV2.out.push (boxT w2.heap.size 24 #[.int .i64 c.bt, .int .i64 c.rw, .int .i64 c.wd, .int .i64 c.md, .int .u64 c.sd]) (Lw.below_alloc (Below.refl _ _) _) (heap_alloc_new w2 _) (fun k hk => Nat.le_of_eq hk.symm)); obtain ⟨c0, c1, c2, c3, c4⟩ := box5 HV3.out.i0; clear x0 x1 x2 x3 x4 x5; obtain ⟨x0, x1, x2, x3, x4, x5⟩ := box6 HV3.out.i2)
    | (go_at_call 7; (with_reducible refine (shown_any _).mono ?_); rintro e w1 ⟨rfl, hb⟩; have HV1 := Lib.hid (HBX.out.up hb); clear hb; obtain ⟨x0, x1, x2, x3, x4, x5⟩ := box6 HV1.out.i0))
  go_ret
  exact ⟨ret_bs (by first | rfl | (simp [*]; done)), HV5.out.below⟩
set_option maxRecDepth 100000 in
set_option maxHeartbeats 40000000 in
theorem bnd_1y (x : Cfg) (A : Option Addr) (n0 k0 : Nat) (qs : Ups) (a : Int) (w : World) (hx : x.Ok) (hq : UpdV w A n0 k0 qs) (Y : Int) (hB : bits .and .i64 x.md 1 = Y) (hB1 : (Y == 1) = false) (hpl : plainB (upsR { anyC x 10 9 with md := 1 } 0 qs 0 60) = true) (hT : 1 ≤ hasK 0 (upN (upsR { anyC x 10 9 with md := 1 } 0 qs 0 60) { anyC x 10 9 with md := 1 }.bt.toNat)) :
    Calls Tryz.prog 5 #[.agg #[.int .i64 x.bt, .int .i64 x.rw, .int .i64 x.wd, .int .i64 x.md, .int .u64 x.sd, .slice A n0 k0], .int .i64 a] w fun e w' => e = .returned (.bool true) ∧ Below w.heap.size w w' := by
  obtain ⟨c, hC⟩ : ∃ c, { anyC x 10 9 with md := 1 } = c := ⟨_, rfl⟩
  have hr0 := any_right x 10 9 (by omega) (by omega) (by omega) (by omega)
  have hco0 := any_ok x hx 10 9 (by omega) (by omega) (by omega) (by omega)
  have hr : IsRight c := by rw [← hC]; exact ⟨hr0.1, hr0.2.1, hr0.2.2.1, hr0.2.2.2.1, hr0.2.2.2.2.1, hr0.2.2.2.2.2.1, (by show (1 : Int) ≤ 1; omega), (by show (1 : Int) ≤ 3; omega)⟩
  have hco : c.Ok := by rw [← hC]; exact ⟨hco0.b0, hco0.b1, hco0.r0, hco0.r1, hco0.w0, hco0.w1, by show -9223372036854775808 ≤ (1 : Int); omega, by show (1 : Int) ≤ 9223372036854775807; omega, hco0.s0, hco0.s1⟩
  have hmd : c.md = 1 := by rw [← hC]
  have FD := Lib.hid (fun w hq => fed_m x A n0 k0 qs 1 (by omega) (by omega) c w hx hq hC)
  have hbt := hr.1
  have hbt2 := hr.2.1
  have hkeys : 1 ≤ keys c 0 := keys_pos.2 ⟨hr, by omega, by omega⟩
  have hkk := keys_bd c 0
  have hul := upsR_len c 0 qs 0 60
  have hui := upsR_in hkeys qs 0 60
  have CPL := Lib.hid (fun w hq => rplain_any c A n0 k0 qs w hco hkeys hq)
  have CH := Lib.hid (fun w n i hq hn i0 i1 => rhas_any c A n0 k0 qs n i w hco hkeys hq hn i0 i1)
  have CH0 := Lib.hid (fun w i hq i0 i1 => rhas_0 c A n0 k0 qs i w hco hkeys hq i0 i1)
  have CBW := Lib.hid (fun w i hq i0 i1 => rbtw_any c A n0 k0 qs 0 i w hco hkeys hq (by omega) (by omega) i0 i1)
  have CK := Lib.hid (fun w => rkeys_any c 0 w hco (by omega) (by omega))
  rw [hC] at hpl hT
  obtain ⟨us, hus⟩ : ∃ us, upsR c 0 qs 0 60 = us := ⟨_, rfl⟩
  rw [hus] at FD hul hui CPL CH CH0 CBW hpl hT
  rw [hpl] at CPL
  have htop : ptU c us c.bt.toNat 0 = hasK 0 (upN us c.bt.toNat) := ptU_top hr us
  have htb := ptU_bd hr hui hul (L := c.bt.toNat) (i := 0) (Nat.le_refl _) (by rw [Nat.sub_self]; decide)
  have htb1 : -65970697666560 ≤ ptU c us c.bt.toNat 0 := htb.1
  have htb2 : ptU c us c.bt.toNat 0 ≤ 65970697666560 := htb.2
  have CHT := Lib.hid (fun w hq => CH.out w c.bt.toNat 0 hq (by omega) (by omega) (by omega))
  rw [bt_nat hr] at CHT
  obtain ⟨TV, hTV⟩ : ∃ v, hasK 0 (upN us c.bt.toNat) = v := ⟨_, rfl⟩
  rw [hTV] at CHT htop hT
  rw [htop] at htb1 htb2
  have hl1 : ¬ TV < 1 := by omega
  have hT0 : ¬ TV = 0 := by omega
  obtain ⟨V1, R1, K1, a1, a2, a3, a4, a5, a6, a7, a8⟩ := rank_cut a TV hT htb2
  obtain ⟨l, w1, p1, u1⟩ := way_fed hr hui hul (k := K1) a7 (by rw [htop]; omega)
  have q2 := qn_yes (c := c) (pt := (fun L i => spV c (stsOf c us) (L : Int) i)) (k := K1) a7 (by show K1 ≤ ptU c us c.bt.toNat 0; omega) w1
  have hpn := way_plain hr (by omega) hui hpl w1 a7 (by rw [hTV]; omega)
  have CQ := Lib.hid (fun p F w hs => qn_quant p F c (stsOf c us) K1 w hs (by omega) (by omega))
  rw [q2.1, q2.2.2] at CQ
  have CW := Lib.hid (fun p F w hs => qn_way p F c (stsOf c us) K1 w hs (by omega) (by omega))
  rw [q2.1, q2.2.1] at CW
  have CP := Lib.hid (fun p F w hs n i n0 n1 i0 i1 => cs_point p F c (stsOf c us) n i w hs n0 n1 i0 i1)
  obtain ⟨KK, hKK⟩ : ∃ v, ((keyQ l : Nat) : Int) = v := ⟨_, rfl⟩
  have hbtb := bt_bd (lo := 0) (hi := KK) (b := 1099511627776) (by omega) (us := us) (fun u hu => ⟨(hui.1 u hu).2.2.1, (hui.1 u hu).2.2.2⟩)
  have hhb := hasK_bd (k := KK) (b := 1099511627776) (by omega) (us := us) (fun u hu => ⟨(hui.1 u hu).2.2.1, (hui.1 u hu).2.2.2⟩)
  rw [hKK] at hpn CQ u1
  have CBK := Lib.hid (fun w hq => CBW.out w KK hq (by omega) (by omega))
  have CHK := Lib.hid (fun w hq => CH0.out w KK hq (by omega) (by omega))
  obtain ⟨UP, hUP⟩ : ∃ v, bt 0 KK us = v := ⟨_, rfl⟩
  obtain ⟨HK, hHK⟩ : ∃ v, hasK KK us = v := ⟨_, rfl⟩
  rw [hUP] at CBK hpn hbtb
  rw [hHK] at CHK hpn hhb
  obtain ⟨hp1, hp2, hp3⟩ := hpn
  have HBD := Lib.hid (fun j => ov_take hr hui hul p1 j)
  have HNX := Lib.hid (fun j p (h : l[j]? = some p) => take_sum17 (ovQ (ptU c us) us) l h)
  have hall := ov_all (c := c) (us := us) p1
  have hob := HBD.out c.bt.toNat
  obtain ⟨OT, hOT⟩ : ∃ v, (l.map (ovQ (ptU c us) us)).sum = v := ⟨_, rfl⟩
  rw [hOT] at hp2 hp3 hall
  rw [hall] at hob
  have HSP := Lib.hid (fun (L i : Nat) (hL : L ≤ c.bt.toNat) (hi : i < 2 ^ (c.bt.toNat - L)) => (show spV c (stsOf c us) L ((i : Nat) : Int) = ptU c us L ((i : Nat) : Int) ∧ spC c (stsOf c us) L ((i : Nat) : Int) = 0 from ⟨rfl, by rw [(sp_at hr us (n := L) (by omega) ((i : Nat) : Int)).2]; exact st_pc (by omega) (piece_key hr hL hi)⟩))
  have HPB := Lib.hid (fun (L i : Nat) (hL : L ≤ c.bt.toNat) (hi : i < 2 ^ (c.bt.toNat - L)) => ptU_bd hr hui hul (L := L) (i := i) hL hi)
  have HHB := Lib.hid (fun (L : Nat) (i : Int) => hasK_bd (k := i) (b := 1099511627776) (by omega) (us := upN us L) (fun u hu => by
    obtain ⟨v, hv, rfl⟩ := List.mem_map.1 hu
    exact ⟨(hui.1 v hv).2.2.1, (hui.1 v hv).2.2.2⟩))
  have HUL := Lib.hid hul
  have hb2 := bt_nat hr
  obtain ⟨BB, hBB⟩ : ∃ B, c.bt.toNat = B := ⟨_, rfl⟩
  rw [hBB] at p1 hb2 hall HSP HPB
  have hb59 : BB ≤ 59 := by omega
  have HPA := Lib.hid p1
  have HB2 := Lib.hid hb2
  have HLN := Lib.hid p1.len
  have HALL := Lib.hid hall
  have wcb : wrap64 (c.bt + 1) = (BB : Int) + 1 := by rw [IntWalk.wrap64_in _ ⟨by omega, by omega⟩]; omega
  obtain ⟨KN, hKN⟩ : ∃ v, keys c 0 = v := ⟨_, rfl⟩
  rw [hKN] at CK u1
  have dk : decide (KN ≤ KK) = false := decide_eq_false (by omega)
  have HE : Hid (wrap64 (UP - HK) = UP - HK ∧ IntKind.i64.wrap (UP - HK) = UP - HK ∧ wrap64 (UP + OT) = UP + OT ∧ decide (UP - HK < K1) = true ∧ decide (K1 ≤ UP + OT) = true ∧ decide (0 ≤ OT) = true) := Lib.hid ⟨IntWalk.wrap64_in _ ⟨by omega, by omega⟩, IntWalk.i64_in _ ⟨by omega, by omega⟩, IntWalk.wrap64_in _ ⟨by omega, by omega⟩, decide_eq_true hp1, decide_eq_true hp2, decide_eq_true hp3⟩
  obtain ⟨Z, hZ⟩ : ∃ Z, stsOf c us = Z := ⟨_, rfl⟩
  rw [hZ] at FD CW CQ CP HSP
  have HQ := Lib.hid hq
  have HBX : Hid (Have w (w.alloc (.cells #[.int .i64 x.bt, .int .i64 x.rw, .int .i64 x.wd, .int .i64 x.md, .int .u64 x.sd, .slice A n0 k0] 27)) [boxT w.heap.size 27 #[.int .i64 x.bt, .int .i64 x.rw, .int .i64 x.wd, .int .i64 x.md, .int .u64 x.sd, .slice A n0 k0]]) := Lib.hid (box_new w _ _)
  clear hr hco hr0 hco0 hC hbt hbt2 hkeys hkk hul hui hus htop htb htb1 htb2 hTV hpl hq hx hmd hZ hT w1 p1 u1 q2 a7 a8 hb2 hBB hp1 hp2 hp3 hall hob hOT hKK hbtb hhb hUP hHK hKN
  go_enter Tryz.func5, Tryz.ntmps5
  go_wp2_with (first
    | (go_at_call 24; (with_reducible refine (CK.out _).mono ?_); rintro e w8 ⟨rfl, hb⟩; have HV8 := Lib.hid (HV7.out.up hb); clear hb)
    | (go_at_call 15; (with_reducible refine (CW.out p F _ (stI HV6.out.i1)).mono ?_); rintro e w7 ⟨A1, n1, cap1, rfl, h1, h2, hb⟩; have HV7 := Lib.hid (HV6.out.push (pcT A1 n1 cap1 (ints l)) hb h1 h2); have hln := (pcI h1).len; rw [ints_len, HLN.out] at hln; subst hln; clear h1 h2 hb; clear c0 c1 c2 c3 c4; obtain ⟨c0, c1, c2, c3, c4⟩ := box5 HV7.out.i1)
    | (go_at_call 13; (with_reducible refine (CQ.out p F _ (stI HV5.out.i1)).mono ?_); rintro e w6 ⟨rfl, hb⟩; have HV6 := Lib.hid (HV5.out.up hb); clear hb; clear c0 c1 c2 c3 c4; obtain ⟨c0, c1, c2, c3, c4⟩ := box5 HV6.out.i0; clear x0 x1 x2 x3 x4 x5; obtain ⟨x0, x1, x2, x3, x4, x5⟩ := box6 HV6.out.i2)
    | (go_at_call 23; (with_reducible refine (CPL.out _ (HQ.out.up HV4.out.below)).mono ?_); rintro e w5 ⟨rfl, hb⟩; have HV5 := Lib.hid (HV4.out.up hb); clear hb; clear c0 c1 c2 c3 c4; obtain ⟨c0, c1, c2, c3, c4⟩ := box5 HV5.out.i0; clear x0 x1 x2 x3 x4 x5; obtain ⟨x0, x1, x2, x3, x4, x5⟩ := box6 HV5.out.i2)
    | (go_at_call 22; (with_reducible refine (CHT.out _ (HQ.out.up HV3.out.below)).mono ?_); rintro e w4 ⟨rfl, hb⟩; have HV4 := Lib.hid (HV3.out.up hb); clear hb; clear c0 c1 c2 c3 c4; obtain ⟨c0, c1, c2, c3, c4⟩ := box5 HV4.out.i0; clear x0 x1 x2 x3 x4 x5; obtain ⟨x0, x1, x2, x3, x4, x5⟩ := box6 HV4.out.i2)
    | (go_at_call 21; (with_reducible refine (FD.out _ (HQ.out.up HV1.out.below)).mono ?_); rintro e w2 ⟨p, F, rfl, hv⟩; have HV2 := Lib.hid (HV1.out.join hv); simp only [List.cons_append, List.nil_append] at HV2; clear hv; have HV3 := Lib.hid (HV2.out.push (boxT w2.heap.size 24 #[.int .i64 c.bt, .int .i64 c.rw, .int .i64 c.wd, .int .i64 c.md, .int .u64 c.sd]) (Lw.below_alloc (Below.refl _ _) _) (heap_alloc_new w2 _) (fun k hk => Nat.le_of_eq hk.symm)); obtain ⟨c0, c1, c2, c3, c4⟩ := box5 HV3.out.i0; clear x0 x1 x2 x3 x4 x5; obtain ⟨x0, x1, x2, x3, x4, x5⟩ := box6 HV3.out.i2)
    | (go_at_call 7; (with_reducible refine (shown_any _).mono ?_); rintro e w1 ⟨rfl, hb⟩; have HV1 := Lib.hid (HBX.out.up hb); clear hb; obtain ⟨x0, x1, x2, x3, x4, x5⟩ := box6 HV1.out.i0))
  obtain ⟨aa, g, o, rfl, hadd0, -, -, -, -⟩ := (pcI HV8.out.i0).at (ints_get HPA.out.first)
  obtain rfl : aa = ⟨g, o, none⟩ := by rw [← hadd0, Nat.zero_mul, addr_z]
  clear hadd0
  obtain ⟨gc, hgc⟩ : ∃ g, w2.heap.size = g := ⟨_, rfl⟩
  rw [hgc] at HV8 ⊢
  clear hgc HV1 HV2 HV3 HV4 HV5 HV6 HV7 c0 c1 c2 c3 c4 x0 x1 x2 x3 x4 x5 FD CW CQ CK CPL CHT HBX a1 a2 a3 a4 a5 a6 hl1 hT0 wcb dk
  go_loopw [14, 15] (fun sv iv wr => ∃ (k : Nat), k ≤ BB ∧ iv = .int .i64 (k : Int) ∧ sv = .int .i64 (((l.take k).map (ovQ (ptU c us) us)).sum) ∧ Have w wr [pcT (some ⟨g, o, none⟩) (BB + 1) cap1 (ints l), boxT gc 24 #[.int .i64 c.bt, .int .i64 c.rw, .int .i64 c.wd, .int .i64 c.md, .int .u64 c.sd], stT p F c Z, boxT w.heap.size 27 #[.int .i64 x.bt, .int .i64 x.rw, .int .i64 x.wd, .int .i64 x.md, .int .u64 x.sd, .slice A n0 k0]]) (fun _ iv _ => BB - (intOf iv).toNat)
  case atStart => exact ⟨0, Nat.zero_le _, rfl, rfl, HV8.out⟩
  case round =>
    obtain ⟨k, hk, rfl, rfl, hv⟩ := hrel
    have HVr := Lib.hid hv
    clear hv
    obtain ⟨c0, c1, c2, c3, c4⟩ := box5 HVr.out.i1
    obtain ⟨_, _, _, _, _, x5⟩ := box6 HVr.out.i3
    have hbk := HBD.out k
    obtain ⟨X, hX⟩ : ∃ X, ((l.take k).map (ovQ (ptU c us) us)).sum = X := ⟨_, rfl⟩
    have HX := Lib.hid hX
    rw [hX] at hbk ⊢
    clear hX
    by_cases hlt : k < BB
    · obtain ⟨pp, hpp⟩ : ∃ pp, l[k]? = some pp := ⟨_, List.getElem?_eq_getElem (by rw [HLN.out]; omega)⟩
      have hn := HNX.out k pp hpp
      have hi1 := HPA.out.at k pp hpp
      have hbk2 := HBD.out (k + 1)
      obtain ⟨ab, g1, o1, eb, hadd1, d1, d2, kb, db⟩ := (pcI HVr.out.i0).at (ints_get hpp)
      injection eb with eb
      subst eb
      rw [Ord.add_at] at hadd1
      injection hadd1 with ea1 ea2
      subst ea1 ea2
      obtain ⟨LP, IP⟩ := pp
      simp only at hn hi1 d1 d2 kb db
      obtain ⟨LQ, rfl⟩ : ∃ LQ, LP = LQ + 1 := ⟨LP - 1, by omega⟩
      have hov : ovQ (ptU c us) us (LQ + 1, IP) = ptU c us LQ ((2 * IP : Nat) : Int) - hasK ((2 * IP : Nat) : Int) (upN us LQ) := by
        unfold ovQ
        rw [if_neg (by simp)]
        rfl
      have hpw : BB - LQ = k + 1 := by omega
      have hpw2 : 2 * IP < 2 ^ (BB - LQ) := by rw [hpw, Nat.pow_succ]; omega
      have hp59 : 2 ^ (BB - LQ) ≤ 2 ^ 59 := Nat.pow_le_pow_right (by omega) (by omega)
      have e59 : (2 : Nat) ^ 59 = 576460752303423488 := rfl
      have e2 : ((2 * IP : Nat) : Int) = 2 * (IP : Int) := by omega
      have hsp := HSP.out LQ (2 * IP) (by omega) hpw2
      have hpb := HPB.out LQ (2 * IP) (by omega) hpw2
      have hhb := HHB.out LQ ((2 * IP : Nat) : Int)
      have hul9 := HUL.out
      rw [upN_len] at hhb
      have CPJ := Lib.hid (fun w hs => CP.out p F w hs (LQ : Int) ((2 * IP : Nat) : Int) (by omega) (by omega) (by omega) (by omega))
      rw [hsp.1, hsp.2] at CPJ
      have CHJ := Lib.hid (fun w hq => CH.out w LQ ((2 * IP : Nat) : Int) hq (by omega) (by omega) (by omega))
      obtain ⟨PV, hPV⟩ : ∃ v, ptU c us LQ ((2 * IP : Nat) : Int) = v := ⟨_, rfl⟩
      obtain ⟨HV, hHV⟩ : ∃ v, hasK ((2 * IP : Nat) : Int) (upN us LQ) = v := ⟨_, rfl⟩
      rw [hPV, hHV] at hov
      rw [hPV] at CPJ hpb
      rw [hHV] at CHJ hhb
      rw [hov, HX.out] at hn
      rw [hn] at hbk2
      have HN := Lib.hid hn
      rw [e2] at CPJ CHJ
      have f1 : IntKind.i64.wrap (((LQ + 1 : Nat) : Int) - 1) = (LQ : Int) := by rw [IntWalk.i64_in _ ⟨by omega, by omega⟩]; omega
      have f1b : IntKind.i64.wrap (LQ : Int) = (LQ : Int) := IntWalk.i64_in _ ⟨by omega, by omega⟩
      have f2 : IntKind.u64.wrap (2 * (IP : Int)) = 2 * (IP : Int) := by rw [IntKind.wrap_u64]; omega
      have f3 : (k : Int) < c.bt := by have := HB2.out; omega
      have f4 : (k : Int) < (BB : Int) + 1 := by omega
      have f5 : ¬ (k : Int) < 0 := by omega
      have f6 : wrap64 (X + PV) = X + PV := IntWalk.wrap64_in _ ⟨by omega, by omega⟩
      have f7 : wrap64 (X + PV - HV) = X + (PV - HV) := by rw [IntWalk.wrap64_in _ ⟨by omega, by omega⟩]; omega
      clear hpp hn hi1 hbk hbk2 kb db hov hpw hpw2 hp59 e59 e2 hsp hpb hhb hul9 hPV hHV
      have F7 := Lib.hid f7
      clear f7
      have hgl : g < wr.heap.size := cell_lt d1
      go_upto_region 20 with fail
      go_region
      obtain ⟨wz, hwz⟩ : ∃ wz, wz = (wr.alloc (.cells #[.int .i64 (LQ : Int), .int .u64 (2 * (IP : Int))] 61)).drew := ⟨_, rfl⟩
      have HVz : Hid (Have w wz (boxT wr.heap.size 61 #[.int .i64 (LQ : Int), .int .u64 (2 * (IP : Int))] :: [pcT (some ⟨g, o, none⟩) (BB + 1) cap1 (ints l), boxT gc 24 #[.int .i64 c.bt, .int .i64 c.rw, .int .i64 c.wd, .int .i64 c.md, .int .u64 c.sd], stT p F c Z, boxT w.heap.size 27 #[.int .i64 x.bt, .int .i64 x.rw, .int .i64 x.wd, .int .i64 x.md, .int .u64 x.sd, .slice A n0 k0]])) := Lib.hid (by
        rw [hwz]
        exact (HVr.out.push (boxT wr.heap.size 61 #[.int .i64 (LQ : Int), .int .u64 (2 * (IP : Int))]) (Lw.below_alloc (Below.refl _ _) _) (heap_alloc_new wr _) (fun k hk => Nat.le_of_eq hk.symm)).up (Below.drew (Below.refl _ _)))
      rw [← hwz]
      clear hwz hgl d1 d2 c0 c1 c2 c3 c4 x5
      obtain ⟨lb, hlb⟩ : ∃ b, wr.heap.size = b := ⟨_, rfl⟩
      rw [hlb] at HVz ⊢
      clear hlb
      obtain ⟨y0, y1⟩ := box2q HVz.out.i0
      obtain ⟨c0, c1, c2, c3, c4⟩ := box5 HVz.out.i2
      obtain ⟨_, _, _, _, _, x5⟩ := box6 HVz.out.i4
      go_wp2_with (first
        | (go_at_call 22; (with_reducible refine (CHJ.out _ (HQ.out.up HVp.out.below)).mono ?_); rintro e wq ⟨rfl, hb⟩; have HVq := Lib.hid (HVp.out.up hb); clear hb)
        | (go_at_call 25; (with_reducible refine (CPJ.out _ (stI HVz.out.i3)).mono ?_); rintro e wp ⟨rfl, hb⟩; have HVp := Lib.hid (HVz.out.up hb); clear hb y0 y1 c0 c1 c2 c3 c4 x5; obtain ⟨y0, y1⟩ := box2q HVp.out.i0; obtain ⟨c0, c1, c2, c3, c4⟩ := box5 HVp.out.i2; obtain ⟨_, _, _, _, _, x5⟩ := box6 HVp.out.i4))
      go_roundw
      case rel => exact ⟨k + 1, by omega, by go_num, by rw [HN.out, ← F7.out], HVq.out.drop⟩
      case measure => simp [intOf]; omega
    · obtain rfl : k = BB := by omega
      have hXe := HX.out
      rw [HALL.out] at hXe
      subst hXe
      obtain ⟨h1, h2, h3, h4, h5, h6⟩ := HE.out
      have f3 : ¬ (k : Int) < c.bt := by have := HB2.out; omega
      have f4 : decide ((k : Int) < c.bt) = false := decide_eq_false f3
      clear hbk hlt
      go_wp2_with (first
        | (go_at_call 22; (with_reducible refine (CHK.out _ (HQ.out.up HVs.out.below)).mono ?_); rintro e wt ⟨rfl, hb⟩; have HVt := Lib.hid (HVs.out.up hb); clear hb)
        | (go_at_call 26; (with_reducible refine (CBK.out _ (HQ.out.up HVr.out.below)).mono ?_); rintro e ws ⟨rfl, hb⟩; have HVs := Lib.hid (HVr.out.up hb); clear hb c0 c1 c2 c3 c4 x5; obtain ⟨c0, c1, c2, c3, c4⟩ := box5 HVs.out.i1; obtain ⟨_, _, _, _, _, x5⟩ := box6 HVs.out.i3))
      go_ret
      exact ⟨ret_bs (by first | rfl | (simp [*]; done)), HVt.out.below⟩
set_option maxRecDepth 100000 in
set_option maxHeartbeats 40000000 in
theorem bnd_2n (x : Cfg) (A : Option Addr) (n0 k0 : Nat) (qs : Ups) (a : Int) (w : World) (hx : x.Ok) (hq : UpdV w A n0 k0 qs) (Y : Int) (hB : bits .and .i64 x.md 1 = Y) (hB1 : (Y == 1) = true) (hpl : plainB (upsR { anyC x 10 9 with md := 2 } 0 qs 0 60) = false) :
    Calls Tryz.prog 5 #[.agg #[.int .i64 x.bt, .int .i64 x.rw, .int .i64 x.wd, .int .i64 x.md, .int .u64 x.sd, .slice A n0 k0], .int .i64 a] w fun e w' => e = .returned (.bool true) ∧ Below w.heap.size w w' := by
  obtain ⟨c, hC⟩ : ∃ c, { anyC x 10 9 with md := 2 } = c := ⟨_, rfl⟩
  have hr0 := any_right x 10 9 (by omega) (by omega) (by omega) (by omega)
  have hco0 := any_ok x hx 10 9 (by omega) (by omega) (by omega) (by omega)
  have hr : IsRight c := by rw [← hC]; exact ⟨hr0.1, hr0.2.1, hr0.2.2.1, hr0.2.2.2.1, hr0.2.2.2.2.1, hr0.2.2.2.2.2.1, (by show (1 : Int) ≤ 2; omega), (by show (2 : Int) ≤ 3; omega)⟩
  have hco : c.Ok := by rw [← hC]; exact ⟨hco0.b0, hco0.b1, hco0.r0, hco0.r1, hco0.w0, hco0.w1, by show -9223372036854775808 ≤ (2 : Int); omega, by show (2 : Int) ≤ 9223372036854775807; omega, hco0.s0, hco0.s1⟩
  have hmd : c.md = 2 := by rw [← hC]
  have FD := Lib.hid (fun w hq => fed_m x A n0 k0 qs 2 (by omega) (by omega) c w hx hq hC)
  have hbt := hr.1
  have hbt2 := hr.2.1
  have hkeys : 1 ≤ keys c 0 := keys_pos.2 ⟨hr, by omega, by omega⟩
  have hkk := keys_bd c 0
  have hul := upsR_len c 0 qs 0 60
  have hui := upsR_in hkeys qs 0 60
  have CPL := Lib.hid (fun w hq => rplain_any c A n0 k0 qs w hco hkeys hq)
  have CH := Lib.hid (fun w n i hq hn i0 i1 => rhas_any c A n0 k0 qs n i w hco hkeys hq hn i0 i1)
  have CH0 := Lib.hid (fun w i hq i0 i1 => rhas_0 c A n0 k0 qs i w hco hkeys hq i0 i1)
  have CBW := Lib.hid (fun w i hq i0 i1 => rbtw_any c A n0 k0 qs 0 i w hco hkeys hq (by omega) (by omega) i0 i1)
  have CK := Lib.hid (fun w => rkeys_any c 0 w hco (by omega) (by omega))
  rw [hC] at hpl
  obtain ⟨us, hus⟩ : ∃ us, upsR c 0 qs 0 60 = us := ⟨_, rfl⟩
  rw [hus] at FD hul hui CPL CH CH0 CBW hpl
  rw [hpl] at CPL
  have htop : ptU c us c.bt.toNat 0 = hasK 0 (upN us c.bt.toNat) := ptU_top hr us
  have htb := ptU_bd hr hui hul (L := c.bt.toNat) (i := 0) (Nat.le_refl _) (by rw [Nat.sub_self]; decide)
  have htb1 : -65970697666560 ≤ ptU c us c.bt.toNat 0 := htb.1
  have htb2 : ptU c us c.bt.toNat 0 ≤ 65970697666560 := htb.2
  have CHT := Lib.hid (fun w hq => CH.out w c.bt.toNat 0 hq (by omega) (by omega) (by omega))
  rw [bt_nat hr] at CHT
  obtain ⟨TV, hTV⟩ : ∃ v, hasK 0 (upN us c.bt.toNat) = v := ⟨_, rfl⟩
  rw [hTV] at CHT htop
  rw [htop] at htb1 htb2
  obtain ⟨Z, hZ⟩ : ∃ Z, stsOf c us = Z := ⟨_, rfl⟩
  rw [hZ] at FD
  have HQ := Lib.hid hq
  have HBX : Hid (Have w (w.alloc (.cells #[.int .i64 x.bt, .int .i64 x.rw, .int .i64 x.wd, .int .i64 x.md, .int .u64 x.sd, .slice A n0 k0] 27)) [boxT w.heap.size 27 #[.int .i64 x.bt, .int .i64 x.rw, .int .i64 x.wd, .int .i64 x.md, .int .u64 x.sd, .slice A n0 k0]]) := Lib.hid (box_new w _ _)
  clear hr hco hr0 hco0 hC hbt hbt2 hkeys hkk hul hui hus htop htb htb1 htb2 hTV hpl hq hx hmd hZ
  go_enter Tryz.func5, Tryz.ntmps5
  go_wp2_with (first
    | (go_at_call 23; (with_reducible refine (CPL.out _ (HQ.out.up HV4.out.below)).mono ?_); rintro e w5 ⟨rfl, hb⟩; have HV5 := Lib.hid (HV4.out.up hb); clear hb; clear c0 c1 c2 c3 c4; obtain ⟨c0, c1, c2, c3, c4⟩ := box5 HV5.out.i0; clear x0 x1 x2 x3 x4 x5; obtain ⟨x0, x1, x2, x3, x4, x5⟩ := box6 HV5.out.i2)
    | (go_at_call 22; (with_reducible refine (CHT.out _ (HQ.out.up HV3.out.below)).mono ?_); rintro e w4 ⟨rfl, hb⟩; have HV4 := Lib.hid (HV3.out.up hb); clear hb; clear c0 c1 c2 c3 c4; obtain ⟨c0, c1, c2, c3, c4⟩ := box5 HV4.out.i0; clear x0 x1 x2 x3 x4 x5; obtain ⟨x0, x1, x2, x3, x4, x5⟩ := box6 HV4.out.i2)
    | (go_at_call 21; (with_reducible refine (FD.out _ (HQ.out.up HV1.out.below)).mono ?_); rintro e w2 ⟨p, F, rfl, hv⟩; have HV2 := Lib.hid (HV1.out.join hv); simp only [List.cons_append, List.nil_append] at HV2; clear hv; have HV3 := Lib.hid (HV2.out.push (boxT w2.heap.size 24 #[.int .i64 c.bt, .int .i64 c.rw, .int .i64 c.wd, .int .i64 c.md, .int .u64 c.sd]) (Lw.below_alloc (Below.refl _ _) _) (heap_alloc_new w2 _) (fun k hk => Nat.le_of_eq hk.symm)); obtain ⟨c0, c1, c2, c3, c4⟩ := box5 HV3.out.i0; clear x0 x1 x2 x3 x4 x5; obtain ⟨x0, x1, x2, x3, x4, x5⟩ := box6 HV3.out.i2)
    | (go_at_call 7; (with_reducible refine (shown_any _).mono ?_); rintro e w1 ⟨rfl, hb⟩; have HV1 := Lib.hid (HBX.out.up hb); clear hb; obtain ⟨x0, x1, x2, x3, x4, x5⟩ := box6 HV1.out.i0))
  go_ret
  exact ⟨ret_bs (by first | rfl | (simp [*]; done)), HV5.out.below⟩
set_option maxRecDepth 100000 in
set_option maxHeartbeats 40000000 in
theorem bnd_2z (x : Cfg) (A : Option Addr) (n0 k0 : Nat) (qs : Ups) (a : Int) (w : World) (hx : x.Ok) (hq : UpdV w A n0 k0 qs) (Y : Int) (hB : bits .and .i64 x.md 1 = Y) (hB1 : (Y == 1) = true) (hpl : plainB (upsR { anyC x 10 9 with md := 2 } 0 qs 0 60) = true) (hT : ¬ 1 ≤ hasK 0 (upN (upsR { anyC x 10 9 with md := 2 } 0 qs 0 60) { anyC x 10 9 with md := 2 }.bt.toNat)) :
    Calls Tryz.prog 5 #[.agg #[.int .i64 x.bt, .int .i64 x.rw, .int .i64 x.wd, .int .i64 x.md, .int .u64 x.sd, .slice A n0 k0], .int .i64 a] w fun e w' => e = .returned (.bool true) ∧ Below w.heap.size w w' := by
  obtain ⟨c, hC⟩ : ∃ c, { anyC x 10 9 with md := 2 } = c := ⟨_, rfl⟩
  have hr0 := any_right x 10 9 (by omega) (by omega) (by omega) (by omega)
  have hco0 := any_ok x hx 10 9 (by omega) (by omega) (by omega) (by omega)
  have hr : IsRight c := by rw [← hC]; exact ⟨hr0.1, hr0.2.1, hr0.2.2.1, hr0.2.2.2.1, hr0.2.2.2.2.1, hr0.2.2.2.2.2.1, (by show (1 : Int) ≤ 2; omega), (by show (2 : Int) ≤ 3; omega)⟩
  have hco : c.Ok := by rw [← hC]; exact ⟨hco0.b0, hco0.b1, hco0.r0, hco0.r1, hco0.w0, hco0.w1, by show -9223372036854775808 ≤ (2 : Int); omega, by show (2 : Int) ≤ 9223372036854775807; omega, hco0.s0, hco0.s1⟩
  have hmd : c.md = 2 := by rw [← hC]
  have FD := Lib.hid (fun w hq => fed_m x A n0 k0 qs 2 (by omega) (by omega) c w hx hq hC)
  have hbt := hr.1
  have hbt2 := hr.2.1
  have hkeys : 1 ≤ keys c 0 := keys_pos.2 ⟨hr, by omega, by omega⟩
  have hkk := keys_bd c 0
  have hul := upsR_len c 0 qs 0 60
  have hui := upsR_in hkeys qs 0 60
  have CPL := Lib.hid (fun w hq => rplain_any c A n0 k0 qs w hco hkeys hq)
  have CH := Lib.hid (fun w n i hq hn i0 i1 => rhas_any c A n0 k0 qs n i w hco hkeys hq hn i0 i1)
  have CH0 := Lib.hid (fun w i hq i0 i1 => rhas_0 c A n0 k0 qs i w hco hkeys hq i0 i1)
  have CBW := Lib.hid (fun w i hq i0 i1 => rbtw_any c A n0 k0 qs 0 i w hco hkeys hq (by omega) (by omega) i0 i1)
  have CK := Lib.hid (fun w => rkeys_any c 0 w hco (by omega) (by omega))
  rw [hC] at hpl hT
  obtain ⟨us, hus⟩ : ∃ us, upsR c 0 qs 0 60 = us := ⟨_, rfl⟩
  rw [hus] at FD hul hui CPL CH CH0 CBW hpl hT
  rw [hpl] at CPL
  have htop : ptU c us c.bt.toNat 0 = hasK 0 (upN us c.bt.toNat) := ptU_top hr us
  have htb := ptU_bd hr hui hul (L := c.bt.toNat) (i := 0) (Nat.le_refl _) (by rw [Nat.sub_self]; decide)
  have htb1 : -65970697666560 ≤ ptU c us c.bt.toNat 0 := htb.1
  have htb2 : ptU c us c.bt.toNat 0 ≤ 65970697666560 := htb.2
  have CHT := Lib.hid (fun w hq => CH.out w c.bt.toNat 0 hq (by omega) (by omega) (by omega))
  rw [bt_nat hr] at CHT
  obtain ⟨TV, hTV⟩ : ∃ v, hasK 0 (upN us c.bt.toNat) = v := ⟨_, rfl⟩
  rw [hTV] at CHT htop hT
  rw [htop] at htb1 htb2
  have hl1 : TV < 1 := by omega
  obtain ⟨Z, hZ⟩ : ∃ Z, stsOf c us = Z := ⟨_, rfl⟩
  rw [hZ] at FD
  have HQ := Lib.hid hq
  have HBX : Hid (Have w (w.alloc (.cells #[.int .i64 x.bt, .int .i64 x.rw, .int .i64 x.wd, .int .i64 x.md, .int .u64 x.sd, .slice A n0 k0] 27)) [boxT w.heap.size 27 #[.int .i64 x.bt, .int .i64 x.rw, .int .i64 x.wd, .int .i64 x.md, .int .u64 x.sd, .slice A n0 k0]]) := Lib.hid (box_new w _ _)
  clear hr hco hr0 hco0 hC hbt hbt2 hkeys hkk hul hui hus htop htb htb1 htb2 hTV hpl hq hx hmd hZ hT
  go_enter Tryz.func5, Tryz.ntmps5
  go_wp2_with (first
    | (go_at_call 23; (with_reducible refine (CPL.out _ (HQ.out.up HV4.out.below)).mono ?_); rintro e w5 ⟨rfl, hb⟩; have HV5 := Lib.hid (HV4.out.up hb); clear hb; clear c0 c1 c2 c3 c4; obtain ⟨c0, c1, c2, c3, c4⟩ := box5 HV5.out.i0; clear x0 x1 x2 x3 x4 x5; obtain ⟨x0, x1, x2, x3, x4, x5⟩ := box6 HV5.out.i2)
    | (go_at_call 22; (with_reducible refine (CHT.out _ (HQ.out.up HV3.out.below)).mono ?_); rintro e w4 ⟨rfl, hb⟩; have HV4 := Lib.hid (HV3.out.up hb); clear hb; clear c0 c1 c2 c3 c4; obtain ⟨c0, c1, c2, c3, c4⟩ := box5 HV4.out.i0; clear x0 x1 x2 x3 x4 x5; obtain ⟨x0, x1, x2, x3, x4, x5⟩ := box6 HV4.out.i2)
    | (go_at_call 21; (with_reducible refine (FD.out _ (HQ.out.up HV1.out.below)).mono ?_); rintro e w2 ⟨p, F, rfl, hv⟩; have HV2 := Lib.hid (HV1.out.join hv); simp only [List.cons_append, List.nil_append] at HV2; clear hv; have HV3 := Lib.hid (HV2.out.push (boxT w2.heap.size 24 #[.int .i64 c.bt, .int .i64 c.rw, .int .i64 c.wd, .int .i64 c.md, .int .u64 c.sd]) (Lw.below_alloc (Below.refl _ _) _) (heap_alloc_new w2 _) (fun k hk => Nat.le_of_eq hk.symm)); obtain ⟨c0, c1, c2, c3, c4⟩ := box5 HV3.out.i0; clear x0 x1 x2 x3 x4 x5; obtain ⟨x0, x1, x2, x3, x4, x5⟩ := box6 HV3.out.i2)
    | (go_at_call 7; (with_reducible refine (shown_any _).mono ?_); rintro e w1 ⟨rfl, hb⟩; have HV1 := Lib.hid (HBX.out.up hb); clear hb; obtain ⟨x0, x1, x2, x3, x4, x5⟩ := box6 HV1.out.i0))
  go_ret
  exact ⟨ret_bs (by first | rfl | (simp [*]; done)), HV5.out.below⟩
set_option maxRecDepth 100000 in
set_option maxHeartbeats 40000000 in
theorem bnd_2y (x : Cfg) (A : Option Addr) (n0 k0 : Nat) (qs : Ups) (a : Int) (w : World) (hx : x.Ok) (hq : UpdV w A n0 k0 qs) (Y : Int) (hB : bits .and .i64 x.md 1 = Y) (hB1 : (Y == 1) = true) (hpl : plainB (upsR { anyC x 10 9 with md := 2 } 0 qs 0 60) = true) (hT : 1 ≤ hasK 0 (upN (upsR { anyC x 10 9 with md := 2 } 0 qs 0 60) { anyC x 10 9 with md := 2 }.bt.toNat)) :
    Calls Tryz.prog 5 #[.agg #[.int .i64 x.bt, .int .i64 x.rw, .int .i64 x.wd, .int .i64 x.md, .int .u64 x.sd, .slice A n0 k0], .int .i64 a] w fun e w' => e = .returned (.bool true) ∧ Below w.heap.size w w' := by
  obtain ⟨c, hC⟩ : ∃ c, { anyC x 10 9 with md := 2 } = c := ⟨_, rfl⟩
  have hr0 := any_right x 10 9 (by omega) (by omega) (by omega) (by omega)
  have hco0 := any_ok x hx 10 9 (by omega) (by omega) (by omega) (by omega)
  have hr : IsRight c := by rw [← hC]; exact ⟨hr0.1, hr0.2.1, hr0.2.2.1, hr0.2.2.2.1, hr0.2.2.2.2.1, hr0.2.2.2.2.2.1, (by show (1 : Int) ≤ 2; omega), (by show (2 : Int) ≤ 3; omega)⟩
  have hco : c.Ok := by rw [← hC]; exact ⟨hco0.b0, hco0.b1, hco0.r0, hco0.r1, hco0.w0, hco0.w1, by show -9223372036854775808 ≤ (2 : Int); omega, by show (2 : Int) ≤ 9223372036854775807; omega, hco0.s0, hco0.s1⟩
  have hmd : c.md = 2 := by rw [← hC]
  have FD := Lib.hid (fun w hq => fed_m x A n0 k0 qs 2 (by omega) (by omega) c w hx hq hC)
  have hbt := hr.1
  have hbt2 := hr.2.1
  have hkeys : 1 ≤ keys c 0 := keys_pos.2 ⟨hr, by omega, by omega⟩
  have hkk := keys_bd c 0
  have hul := upsR_len c 0 qs 0 60
  have hui := upsR_in hkeys qs 0 60
  have CPL := Lib.hid (fun w hq => rplain_any c A n0 k0 qs w hco hkeys hq)
  have CH := Lib.hid (fun w n i hq hn i0 i1 => rhas_any c A n0 k0 qs n i w hco hkeys hq hn i0 i1)
  have CH0 := Lib.hid (fun w i hq i0 i1 => rhas_0 c A n0 k0 qs i w hco hkeys hq i0 i1)
  have CBW := Lib.hid (fun w i hq i0 i1 => rbtw_any c A n0 k0 qs 0 i w hco hkeys hq (by omega) (by omega) i0 i1)
  have CK := Lib.hid (fun w => rkeys_any c 0 w hco (by omega) (by omega))
  rw [hC] at hpl hT
  obtain ⟨us, hus⟩ : ∃ us, upsR c 0 qs 0 60 = us := ⟨_, rfl⟩
  rw [hus] at FD hul hui CPL CH CH0 CBW hpl hT
  rw [hpl] at CPL
  have htop : ptU c us c.bt.toNat 0 = hasK 0 (upN us c.bt.toNat) := ptU_top hr us
  have htb := ptU_bd hr hui hul (L := c.bt.toNat) (i := 0) (Nat.le_refl _) (by rw [Nat.sub_self]; decide)
  have htb1 : -65970697666560 ≤ ptU c us c.bt.toNat 0 := htb.1
  have htb2 : ptU c us c.bt.toNat 0 ≤ 65970697666560 := htb.2
  have CHT := Lib.hid (fun w hq => CH.out w c.bt.toNat 0 hq (by omega) (by omega) (by omega))
  rw [bt_nat hr] at CHT
  obtain ⟨TV, hTV⟩ : ∃ v, hasK 0 (upN us c.bt.toNat) = v := ⟨_, rfl⟩
  rw [hTV] at CHT htop hT
  rw [htop] at htb1 htb2
  have hl1 : ¬ TV < 1 := by omega
  have hT0 : ¬ TV = 0 := by omega
  obtain ⟨V1, R1, K1, a1, a2, a3, a4, a5, a6, a7, a8⟩ := rank_cut a TV hT htb2
  obtain ⟨l, w1, p1, u1⟩ := way_fed hr hui hul (k := K1) a7 (by rw [htop]; omega)
  have q2 := qn_yes (c := c) (pt := (fun L i => spV c (stsOf c us) (L : Int) i)) (k := K1) a7 (by show K1 ≤ ptU c us c.bt.toNat 0; omega) w1
  have hpn := way_plain hr (by omega) hui hpl w1 a7 (by rw [hTV]; omega)
  have CQ := Lib.hid (fun p F w hs => qn_quant p F c (stsOf c us) K1 w hs (by omega) (by omega))
  rw [q2.1, q2.2.2] at CQ
  have CW := Lib.hid (fun p F w hs => qn_way p F c (stsOf c us) K1 w hs (by omega) (by omega))
  rw [q2.1, q2.2.1] at CW
  have CP := Lib.hid (fun p F w hs n i n0 n1 i0 i1 => cs_point p F c (stsOf c us) n i w hs n0 n1 i0 i1)
  obtain ⟨KK, hKK⟩ : ∃ v, ((keyQ l : Nat) : Int) = v := ⟨_, rfl⟩
  have hbtb := bt_bd (lo := 0) (hi := KK) (b := 1099511627776) (by omega) (us := us) (fun u hu => ⟨(hui.1 u hu).2.2.1, (hui.1 u hu).2.2.2⟩)
  have hhb := hasK_bd (k := KK) (b := 1099511627776) (by omega) (us := us) (fun u hu => ⟨(hui.1 u hu).2.2.1, (hui.1 u hu).2.2.2⟩)
  rw [hKK] at hpn CQ u1
  have CBK := Lib.hid (fun w hq => CBW.out w KK hq (by omega) (by omega))
  have CHK := Lib.hid (fun w hq => CH0.out w KK hq (by omega) (by omega))
  obtain ⟨UP, hUP⟩ : ∃ v, bt 0 KK us = v := ⟨_, rfl⟩
  obtain ⟨HK, hHK⟩ : ∃ v, hasK KK us = v := ⟨_, rfl⟩
  rw [hUP] at CBK hpn hbtb
  rw [hHK] at CHK hpn hhb
  obtain ⟨hp1, hp2, hp3⟩ := hpn
  have HBD := Lib.hid (fun j => ov_take hr hui hul p1 j)
  have HNX := Lib.hid (fun j p (h : l[j]? = some p) => take_sum17 (ovQ (ptU c us) us) l h)
  have hall := ov_all (c := c) (us := us) p1
  have hob := HBD.out c.bt.toNat
  obtain ⟨OT, hOT⟩ : ∃ v, (l.map (ovQ (ptU c us) us)).sum = v := ⟨_, rfl⟩
  rw [hOT] at hp2 hp3 hall
  rw [hall] at hob
  have HSP := Lib.hid (fun (L i : Nat) (hL : L ≤ c.bt.toNat) (hi : i < 2 ^ (c.bt.toNat - L)) => (show spV c (stsOf c us) L ((i : Nat) : Int) = ptU c us L ((i : Nat) : Int) ∧ spC c (stsOf c us) L ((i : Nat) : Int) = 0 from ⟨rfl, by rw [(sp_at hr us (n := L) (by omega) ((i : Nat) : Int)).2]; exact st_pc (by omega) (piece_key hr hL hi)⟩))
  have HPB := Lib.hid (fun (L i : Nat) (hL : L ≤ c.bt.toNat) (hi : i < 2 ^ (c.bt.toNat - L)) => ptU_bd hr hui hul (L := L) (i := i) hL hi)
  have HHB := Lib.hid (fun (L : Nat) (i : Int) => hasK_bd (k := i) (b := 1099511627776) (by omega) (us := upN us L) (fun u hu => by
    obtain ⟨v, hv, rfl⟩ := List.mem_map.1 hu
    exact ⟨(hui.1 v hv).2.2.1, (hui.1 v hv).2.2.2⟩))
  have HUL := Lib.hid hul
  have hb2 := bt_nat hr
  obtain ⟨BB, hBB⟩ : ∃ B, c.bt.toNat = B := ⟨_, rfl⟩
  rw [hBB] at p1 hb2 hall HSP HPB
  have hb59 : BB ≤ 59 := by omega
  have HPA := Lib.hid p1
  have HB2 := Lib.hid hb2
  have HLN := Lib.hid p1.len
  have HALL := Lib.hid hall
  have wcb : wrap64 (c.bt + 1) = (BB : Int) + 1 := by rw [IntWalk.wrap64_in _ ⟨by omega, by omega⟩]; omega
  obtain ⟨KN, hKN⟩ : ∃ v, keys c 0 = v := ⟨_, rfl⟩
  rw [hKN] at CK u1
  have dk : decide (KN ≤ KK) = false := decide_eq_false (by omega)
  have HE : Hid (wrap64 (UP - HK) = UP - HK ∧ IntKind.i64.wrap (UP - HK) = UP - HK ∧ wrap64 (UP + OT) = UP + OT ∧ decide (UP - HK < K1) = true ∧ decide (K1 ≤ UP + OT) = true ∧ decide (0 ≤ OT) = true) := Lib.hid ⟨IntWalk.wrap64_in _ ⟨by omega, by omega⟩, IntWalk.i64_in _ ⟨by omega, by omega⟩, IntWalk.wrap64_in _ ⟨by omega, by omega⟩, decide_eq_true hp1, decide_eq_true hp2, decide_eq_true hp3⟩
  obtain ⟨Z, hZ⟩ : ∃ Z, stsOf c us = Z := ⟨_, rfl⟩
  rw [hZ] at FD CW CQ CP HSP
  have HQ := Lib.hid hq
  have HBX : Hid (Have w (w.alloc (.cells #[.int .i64 x.bt, .int .i64 x.rw, .int .i64 x.wd, .int .i64 x.md, .int .u64 x.sd, .slice A n0 k0] 27)) [boxT w.heap.size 27 #[.int .i64 x.bt, .int .i64 x.rw, .int .i64 x.wd, .int .i64 x.md, .int .u64 x.sd, .slice A n0 k0]]) := Lib.hid (box_new w _ _)
  clear hr hco hr0 hco0 hC hbt hbt2 hkeys hkk hul hui hus htop htb htb1 htb2 hTV hpl hq hx hmd hZ hT w1 p1 u1 q2 a7 a8 hb2 hBB hp1 hp2 hp3 hall hob hOT hKK hbtb hhb hUP hHK hKN
  go_enter Tryz.func5, Tryz.ntmps5
  go_wp2_with (first
    | (go_at_call 24; (with_reducible refine (CK.out _).mono ?_); rintro e w8 ⟨rfl, hb⟩; have HV8 := Lib.hid (HV7.out.up hb); clear hb)
    | (go_at_call 15; (with_reducible refine (CW.out p F _ (stI HV6.out.i1)).mono ?_); rintro e w7 ⟨A1, n1, cap1, rfl, h1, h2, hb⟩; have HV7 := Lib.hid (HV6.out.push (pcT A1 n1 cap1 (ints l)) hb h1 h2); have hln := (pcI h1).len; rw [ints_len, HLN.out] at hln; subst hln; clear h1 h2 hb; clear c0 c1 c2 c3 c4; obtain ⟨c0, c1, c2, c3, c4⟩ := box5 HV7.out.i1)
    | (go_at_call 13; (with_reducible refine (CQ.out p F _ (stI HV5.out.i1)).mono ?_); rintro e w6 ⟨rfl, hb⟩; have HV6 := Lib.hid (HV5.out.up hb); clear hb; clear c0 c1 c2 c3 c4; obtain ⟨c0, c1, c2, c3, c4⟩ := box5 HV6.out.i0; clear x0 x1 x2 x3 x4 x5; obtain ⟨x0, x1, x2, x3, x4, x5⟩ := box6 HV6.out.i2)
    | (go_at_call 23; (with_reducible refine (CPL.out _ (HQ.out.up HV4.out.below)).mono ?_); rintro e w5 ⟨rfl, hb⟩; have HV5 := Lib.hid (HV4.out.up hb); clear hb; clear c0 c1 c2 c3 c4; obtain ⟨c0, c1, c2, c3, c4⟩ := box5 HV5.out.i0; clear x0 x1 x2 x3 x4 x5; obtain ⟨x0, x1, x2, x3, x4, x5⟩ := box6 HV5.out.i2)
    | (go_at_call 22; (with_reducible refine (CHT.out _ (HQ.out.up HV3.out.below)).mono ?_); rintro e w4 ⟨rfl, hb⟩; have HV4 := Lib.hid (HV3.out.up hb); clear hb; clear c0 c1 c2 c3 c4; obtain ⟨c0, c1, c2, c3, c4⟩ := box5 HV4.out.i0; clear x0 x1 x2 x3 x4 x5; obtain ⟨x0, x1, x2, x3, x4, x5⟩ := box6 HV4.out.i2)
    | (go_at_call 21; (with_reducible refine (FD.out _ (HQ.out.up HV1.out.below)).mono ?_); rintro e w2 ⟨p, F, rfl, hv⟩; have HV2 := Lib.hid (HV1.out.join hv); simp only [List.cons_append, List.nil_append] at HV2; clear hv; have HV3 := Lib.hid (HV2.out.push (boxT w2.heap.size 24 #[.int .i64 c.bt, .int .i64 c.rw, .int .i64 c.wd, .int .i64 c.md, .int .u64 c.sd]) (Lw.below_alloc (Below.refl _ _) _) (heap_alloc_new w2 _) (fun k hk => Nat.le_of_eq hk.symm)); obtain ⟨c0, c1, c2, c3, c4⟩ := box5 HV3.out.i0; clear x0 x1 x2 x3 x4 x5; obtain ⟨x0, x1, x2, x3, x4, x5⟩ := box6 HV3.out.i2)
    | (go_at_call 7; (with_reducible refine (shown_any _).mono ?_); rintro e w1 ⟨rfl, hb⟩; have HV1 := Lib.hid (HBX.out.up hb); clear hb; obtain ⟨x0, x1, x2, x3, x4, x5⟩ := box6 HV1.out.i0))
  obtain ⟨aa, g, o, rfl, hadd0, -, -, -, -⟩ := (pcI HV8.out.i0).at (ints_get HPA.out.first)
  obtain rfl : aa = ⟨g, o, none⟩ := by rw [← hadd0, Nat.zero_mul, addr_z]
  clear hadd0
  obtain ⟨gc, hgc⟩ : ∃ g, w2.heap.size = g := ⟨_, rfl⟩
  rw [hgc] at HV8 ⊢
  clear hgc HV1 HV2 HV3 HV4 HV5 HV6 HV7 c0 c1 c2 c3 c4 x0 x1 x2 x3 x4 x5 FD CW CQ CK CPL CHT HBX a1 a2 a3 a4 a5 a6 hl1 hT0 wcb dk
  go_loopw [14, 15] (fun sv iv wr => ∃ (k : Nat), k ≤ BB ∧ iv = .int .i64 (k : Int) ∧ sv = .int .i64 (((l.take k).map (ovQ (ptU c us) us)).sum) ∧ Have w wr [pcT (some ⟨g, o, none⟩) (BB + 1) cap1 (ints l), boxT gc 24 #[.int .i64 c.bt, .int .i64 c.rw, .int .i64 c.wd, .int .i64 c.md, .int .u64 c.sd], stT p F c Z, boxT w.heap.size 27 #[.int .i64 x.bt, .int .i64 x.rw, .int .i64 x.wd, .int .i64 x.md, .int .u64 x.sd, .slice A n0 k0]]) (fun _ iv _ => BB - (intOf iv).toNat)
  case atStart => exact ⟨0, Nat.zero_le _, rfl, rfl, HV8.out⟩
  case round =>
    obtain ⟨k, hk, rfl, rfl, hv⟩ := hrel
    have HVr := Lib.hid hv
    clear hv
    obtain ⟨c0, c1, c2, c3, c4⟩ := box5 HVr.out.i1
    obtain ⟨_, _, _, _, _, x5⟩ := box6 HVr.out.i3
    have hbk := HBD.out k
    obtain ⟨X, hX⟩ : ∃ X, ((l.take k).map (ovQ (ptU c us) us)).sum = X := ⟨_, rfl⟩
    have HX := Lib.hid hX
    rw [hX] at hbk ⊢
    clear hX
    by_cases hlt : k < BB
    · obtain ⟨pp, hpp⟩ : ∃ pp, l[k]? = some pp := ⟨_, List.getElem?_eq_getElem (by rw [HLN.out]; omega)⟩
      have hn := HNX.out k pp hpp
      have hi1 := HPA.out.at k pp hpp
      have hbk2 := HBD.out (k + 1)
      obtain ⟨ab, g1, o1, eb, hadd1, d1, d2, kb, db⟩ := (pcI HVr.out.i0).at (ints_get hpp)
      injection eb with eb
      subst eb
      rw [Ord.add_at] at hadd1
      injection hadd1 with ea1 ea2
      subst ea1 ea2
      obtain ⟨LP, IP⟩ := pp
      simp only at hn hi1 d1 d2 kb db
      obtain ⟨LQ, rfl⟩ : ∃ LQ, LP = LQ + 1 := ⟨LP - 1, by omega⟩
      have hov : ovQ (ptU c us) us (LQ + 1, IP) = ptU c us LQ ((2 * IP : Nat) : Int) - hasK ((2 * IP : Nat) : Int) (upN us LQ) := by
        unfold ovQ
        rw [if_neg (by simp)]
        rfl
      have hpw : BB - LQ = k + 1 := by omega
      have hpw2 : 2 * IP < 2 ^ (BB - LQ) := by rw [hpw, Nat.pow_succ]; omega
      have hp59 : 2 ^ (BB - LQ) ≤ 2 ^ 59 := Nat.pow_le_pow_right (by omega) (by omega)
      have e59 : (2 : Nat) ^ 59 = 576460752303423488 := rfl
      have e2 : ((2 * IP : Nat) : Int) = 2 * (IP : Int) := by omega
      have hsp := HSP.out LQ (2 * IP) (by omega) hpw2
      have hpb := HPB.out LQ (2 * IP) (by omega) hpw2
      have hhb := HHB.out LQ ((2 * IP : Nat) : Int)
      have hul9 := HUL.out
      rw [upN_len] at hhb
      have CPJ := Lib.hid (fun w hs => CP.out p F w hs (LQ : Int) ((2 * IP : Nat) : Int) (by omega) (by omega) (by omega) (by omega))
      rw [hsp.1, hsp.2] at CPJ
      have CHJ := Lib.hid (fun w hq => CH.out w LQ ((2 * IP : Nat) : Int) hq (by omega) (by omega) (by omega))
      obtain ⟨PV, hPV⟩ : ∃ v, ptU c us LQ ((2 * IP : Nat) : Int) = v := ⟨_, rfl⟩
      obtain ⟨HV, hHV⟩ : ∃ v, hasK ((2 * IP : Nat) : Int) (upN us LQ) = v := ⟨_, rfl⟩
      rw [hPV, hHV] at hov
      rw [hPV] at CPJ hpb
      rw [hHV] at CHJ hhb
      rw [hov, HX.out] at hn
      rw [hn] at hbk2
      have HN := Lib.hid hn
      rw [e2] at CPJ CHJ
      have f1 : IntKind.i64.wrap (((LQ + 1 : Nat) : Int) - 1) = (LQ : Int) := by rw [IntWalk.i64_in _ ⟨by omega, by omega⟩]; omega
      have f1b : IntKind.i64.wrap (LQ : Int) = (LQ : Int) := IntWalk.i64_in _ ⟨by omega, by omega⟩
      have f2 : IntKind.u64.wrap (2 * (IP : Int)) = 2 * (IP : Int) := by rw [IntKind.wrap_u64]; omega
      have f3 : (k : Int) < c.bt := by have := HB2.out; omega
      have f4 : (k : Int) < (BB : Int) + 1 := by omega
      have f5 : ¬ (k : Int) < 0 := by omega
      have f6 : wrap64 (X + PV) = X + PV := IntWalk.wrap64_in _ ⟨by omega, by omega⟩
      have f7 : wrap64 (X + PV - HV) = X + (PV - HV) := by rw [IntWalk.wrap64_in _ ⟨by omega, by omega⟩]; omega
      clear hpp hn hi1 hbk hbk2 kb db hov hpw hpw2 hp59 e59 e2 hsp hpb hhb hul9 hPV hHV
      have F7 := Lib.hid f7
      clear f7
      have hgl : g < wr.heap.size := cell_lt d1
      go_upto_region 20 with fail
      go_region
      obtain ⟨wz, hwz⟩ : ∃ wz, wz = (wr.alloc (.cells #[.int .i64 (LQ : Int), .int .u64 (2 * (IP : Int))] 61)).drew := ⟨_, rfl⟩
      have HVz : Hid (Have w wz (boxT wr.heap.size 61 #[.int .i64 (LQ : Int), .int .u64 (2 * (IP : Int))] :: [pcT (some ⟨g, o, none⟩) (BB + 1) cap1 (ints l), boxT gc 24 #[.int .i64 c.bt, .int .i64 c.rw, .int .i64 c.wd, .int .i64 c.md, .int .u64 c.sd], stT p F c Z, boxT w.heap.size 27 #[.int .i64 x.bt, .int .i64 x.rw, .int .i64 x.wd, .int .i64 x.md, .int .u64 x.sd, .slice A n0 k0]])) := Lib.hid (by
        rw [hwz]
        exact (HVr.out.push (boxT wr.heap.size 61 #[.int .i64 (LQ : Int), .int .u64 (2 * (IP : Int))]) (Lw.below_alloc (Below.refl _ _) _) (heap_alloc_new wr _) (fun k hk => Nat.le_of_eq hk.symm)).up (Below.drew (Below.refl _ _)))
      rw [← hwz]
      clear hwz hgl d1 d2 c0 c1 c2 c3 c4 x5
      obtain ⟨lb, hlb⟩ : ∃ b, wr.heap.size = b := ⟨_, rfl⟩
      rw [hlb] at HVz ⊢
      clear hlb
      obtain ⟨y0, y1⟩ := box2q HVz.out.i0
      obtain ⟨c0, c1, c2, c3, c4⟩ := box5 HVz.out.i2
      obtain ⟨_, _, _, _, _, x5⟩ := box6 HVz.out.i4
      go_wp2_with (first
        | (go_at_call 22; (with_reducible refine (CHJ.out _ (HQ.out.up HVp.out.below)).mono ?_); rintro e wq ⟨rfl, hb⟩; have HVq := Lib.hid (HVp.out.up hb); clear hb)
        | (go_at_call 25; (with_reducible refine (CPJ.out _ (stI HVz.out.i3)).mono ?_); rintro e wp ⟨rfl, hb⟩; have HVp := Lib.hid (HVz.out.up hb); clear hb y0 y1 c0 c1 c2 c3 c4 x5; obtain ⟨y0, y1⟩ := box2q HVp.out.i0; obtain ⟨c0, c1, c2, c3, c4⟩ := box5 HVp.out.i2; obtain ⟨_, _, _, _, _, x5⟩ := box6 HVp.out.i4))
      go_roundw
      case rel => exact ⟨k + 1, by omega, by go_num, by rw [HN.out, ← F7.out], HVq.out.drop⟩
      case measure => simp [intOf]; omega
    · obtain rfl : k = BB := by omega
      have hXe := HX.out
      rw [HALL.out] at hXe
      subst hXe
      obtain ⟨h1, h2, h3, h4, h5, h6⟩ := HE.out
      have f3 : ¬ (k : Int) < c.bt := by have := HB2.out; omega
      have f4 : decide ((k : Int) < c.bt) = false := decide_eq_false f3
      clear hbk hlt
      go_wp2_with (first
        | (go_at_call 22; (with_reducible refine (CHK.out _ (HQ.out.up HVs.out.below)).mono ?_); rintro e wt ⟨rfl, hb⟩; have HVt := Lib.hid (HVs.out.up hb); clear hb)
        | (go_at_call 26; (with_reducible refine (CBK.out _ (HQ.out.up HVr.out.below)).mono ?_); rintro e ws ⟨rfl, hb⟩; have HVs := Lib.hid (HVr.out.up hb); clear hb c0 c1 c2 c3 c4 x5; obtain ⟨c0, c1, c2, c3, c4⟩ := box5 HVs.out.i1; obtain ⟨_, _, _, _, _, x5⟩ := box6 HVs.out.i3))
      go_ret
      exact ⟨ret_bs (by first | rfl | (simp [*]; done)), HVt.out.below⟩
theorem bnd_law (x : Cfg) (A : Option Addr) (n0 k0 : Nat) (qs : Ups) (a : Int) (w : World) (hx : x.Ok) (hq : UpdV w A n0 k0 qs) :
    Calls Tryz.prog 5 #[.agg #[.int .i64 x.bt, .int .i64 x.rw, .int .i64 x.wd, .int .i64 x.md, .int .u64 x.sd, .slice A n0 k0], .int .i64 a] w fun e w' => e = .returned (.bool true) ∧ Below w.heap.size w w' := by
  cases hB1 : (bits .and .i64 x.md 1 == 1) with
  | true =>
    cases hp : plainB (upsR { anyC x 10 9 with md := 2 } 0 qs 0 60) with
    | true =>
      by_cases hT : 1 ≤ hasK 0 (upN (upsR { anyC x 10 9 with md := 2 } 0 qs 0 60) { anyC x 10 9 with md := 2 }.bt.toNat)
      · exact bnd_2y x A n0 k0 qs a w hx hq _ rfl hB1 hp hT
      · exact bnd_2z x A n0 k0 qs a w hx hq _ rfl hB1 hp hT
    | false => exact bnd_2n x A n0 k0 qs a w hx hq _ rfl hB1 hp
  | false =>
    cases hp : plainB (upsR { anyC x 10 9 with md := 1 } 0 qs 0 60) with
    | true =>
      by_cases hT : 1 ≤ hasK 0 (upN (upsR { anyC x 10 9 with md := 1 } 0 qs 0 60) { anyC x 10 9 with md := 1 }.bt.toNat)
      · exact bnd_1y x A n0 k0 qs a w hx hq _ rfl hB1 hp hT
      · exact bnd_1z x A n0 k0 qs a w hx hq _ rfl hB1 hp hT
    | false => exact bnd_1n x A n0 k0 qs a w hx hq _ rfl hB1 hp
namespace quantBounds
open Go.ChangeShapes Go.WideShapes Go.ChangeAt Go.Joins
set_option maxRecDepth 100000 in
theorem lifted (os : Os) (started : os.Started) (H : Type) (enc : TypeId × Value → H) :
    ReturnsInHanded {} Tryz.checked os 5 .any (Rows.quantBoundsSpec.pre6 enc Tryz.prog Tryz.f5 Rows.quantBoundsRow.domain false) (Rows.quantBoundsSpec.post enc Tryz.prog Tryz.f5 false true false false) := by
  refine Lw.lifted (C := Tryz.checked) (B := 4) (by kernel_rfl) os started (by kernel_rfl) Tryz.func5
    (ChangeSpec.witness6 (enc := enc) (C := Tryz.checked) false ⟨#[], #[.agg #[.int .i64 0, .int .i64 0, .int .i64 0, .int .i64 0, .int .u64 0, .slice none 0 0], .int .i64 0], []⟩ 8 (by kernel_rfl) (by kernel_rfl) (by kernel_rfl) (by kernel_rfl)) rfl Tryz.underlying4 (by kernel_rfl) (by kernel_rfl) (by kernel_rfl) ?_ ?_
  · intro ds h
    rw [Tryz.params5] at h
    match ds, h with
    | [_, _], _ => rfl
  · intro W base args ds p hval hA
    rw [Tryz.params5] at hA hval
    obtain ⟨v0, vs0, d0, ds0, p0, q0, hargs, rfl, rfl, h0, r0⟩ := trodAll_cons hA
    obtain ⟨v1, vs1, d1, ds1, p1, q1, rfl, rfl, rfl, h1, r1⟩ := trodAll_cons r0
    obtain ⟨rfl, rfl, rfl⟩ := trodAll_nil r1
    obtain rfl : args = #[v0, v1] := by cases args; simp_all
    obtain ⟨x0, A0, n0, k0, qs0, rfl, hx0, hq0⟩ := open_playX (hval 0 27 v0 rfl rfl) h0
    obtain ⟨a1, rfl, rfl, rfl, w1⟩ := open_int Tryz.underlying2 (hval 1 2 v1 rfl rfl) h1
    have b1 := Lw.wf_i64 w1
    exact bnd_law x0 A0 n0 k0 qs0 a1 W hx0 hq0
theorem over : Rows.quantBoundsRow.holds Tryz.pinned (OpenSpec.ofChange Rows.quantBoundsSpec) :=
  OpenClaim.holds_of_wide 5 Tryz.f5 rfl rfl rfl rfl rfl rfl rfl ⟨rfl, rfl, rfl, rfl, rfl⟩ rfl rfl rfl rfl rfl (by kernel_rfl) Tryz.func5 (by kernel_rfl)
    (of_decide_eq_true (by kernel_rfl)) (by unfold Func.isWrapper; first | (rw [if_pos (by decide +kernel)]; kernel_rfl) | (rw [if_neg (by decide +kernel)]; exact ⟨rfl, rfl⟩))
    (fun os started H enc _ => lifted os started H enc)
theorem proved : Rows.QuantBoundsSaid :=
  over
#print axioms proved
end quantBounds
end Go.Proofs.YtiblpdjehknbcaaGreat.Qnt
