/- The statement SpanOver of layer 16 holds. Printed by wip/gen/spn7.py. -/
import Derived.Test.YtbifihhfoanmgaaGreatMe
import Derived.Test.YtbifihhfoanmgaaGreatMi
import Derived.Test.YtbifihhfoanmgaaGreatMk
import Derived.Test.YtbifihhfoanmgaaGreatMl
import Derived.Test.YtbifihhfoanmgaaGreatMn
import Derived.Deep.LoopGhost
import Derived.Deep.RegionHeld3
import Derived.Deep.DeepCutAuto
import Derived.Deep.QuietTactic
import Derived.BigQuiet
namespace Go.Proofs.YtbifihhfoanmgaaGreat.Spn
open Go Go.RowKit Lw Grd Lin Con Shp Sk Exa Lev Stk Pcs
set_option linter.unusedVariables false
set_option linter.unusedSimpArgs false
theorem rg_over {c : Cfg} (hr : IsRight c) (hm : c.md ≠ 3) {us : Ups} (h : UpsIn c 0 us) (hl : us.length ≤ 60) {lo hi : Int} (h0 : 0 ≤ lo) (h1 : lo ≤ hi) (h2 : hi < keys c 0) :
    rgC c (fun L i => spV c (stsOf c us) (L : Int) i) lo hi = 0 ∧ (plainB us = true → bt lo hi us ≤ rgV c (fun L i => spV c (stsOf c us) (L : Int) i) lo hi) := by
  obtain ⟨l, hc⟩ := Cov.ex (B := c.bt.toNat) (e := hi.toNat + 1) (hi.toNat + 1 - lo.toNat) lo.toNat rfl (by omega)
  obtain ⟨-, -, h3, h4⟩ := rg_fed hr h hl h0 h1 h2 hc
  refine ⟨h3, fun hp => ?_⟩
  rw [h4, bt_btw h0 (by omega), ← cov_sum hc (fun u hu => (h.1 u hu).1)]
  refine sum_le (fun p hp3 => ?_)
  have hp2 := cov_in hr h0 h1 h2 hc hp3
  exact over_le hr hm h hp hp2.1 (by omega) hp2.2
set_option maxRecDepth 100000 in
set_option maxHeartbeats 40000000 in
theorem over_1p (x : Cfg) (A : Option Addr) (n0 k0 : Nat) (qs : Ups) (a b : Int) (w : World) (hx : x.Ok) (hq : UpdV w A n0 k0 qs) (ha : 0 ≤ a ∧ a ≤ 18446744073709551615) (hb2 : 0 ≤ b ∧ b ≤ 18446744073709551615) (c : Cfg) (hC : { anyC x 10 9 with md := 1 } = c) (Y : Int) (hB : bits .and .i64 x.md 1 = Y) (hB1 : (Y == 1) = false) (hpl : plainB (upsR c 0 qs 0 60) = true) :
    Calls Tryz.prog 5 #[.agg #[.int .i64 x.bt, .int .i64 x.rw, .int .i64 x.wd, .int .i64 x.md, .int .u64 x.sd, .slice A n0 k0], .int .u64 a, .int .u64 b] w fun e w' => e = .returned (.bool true) ∧ Below w.heap.size w w' := by
  have hr0 := any_right x 10 9 (by omega) (by omega) (by omega) (by omega)
  have hco0 := any_ok x hx 10 9 (by omega) (by omega) (by omega) (by omega)
  have hr : IsRight c := by rw [← hC]; exact ⟨hr0.1, hr0.2.1, hr0.2.2.1, hr0.2.2.2.1, hr0.2.2.2.2.1, hr0.2.2.2.2.2.1, (by show (1 : Int) ≤ 1; omega), (by show (1 : Int) ≤ 3; omega)⟩
  have hco : c.Ok := by rw [← hC]; exact ⟨hco0.b0, hco0.b1, hco0.r0, hco0.r1, hco0.w0, hco0.w1, by show -9223372036854775808 ≤ (1 : Int); omega, by show (1 : Int) ≤ 9223372036854775807; omega, hco0.s0, hco0.s1⟩
  have hmd : c.md = 1 := by rw [← hC]
  have hbt := hr.1
  have hkeys : 1 ≤ keys c 0 := keys_pos.2 ⟨hr, by omega, by omega⟩
  have hkk := keys_bd c 0
  have FD := Lib.hid (fun w hq => fed_m x A n0 k0 qs 1 (by omega) (by omega) a b c w hx hq ha.1 ha.2 hb2.1 hb2.2 hC)
  have CPL := Lib.hid (fun w hq => rplain_any c A n0 k0 qs w hco hkeys hq)
  rw [hpl] at CPL
  have hlh := lohi hkeys a b
  have hul := upsR_len c 0 qs 0 60
  have hui := upsR_in hkeys qs 0 60
  obtain ⟨LO, hLO⟩ : ∃ v, loK c a b = v := ⟨_, rfl⟩
  obtain ⟨HI, hHI⟩ : ∃ v, hiK c a b = v := ⟨_, rfl⟩
  rw [hLO, hHI] at FD hlh
  have CB1 := Lib.hid (fun w hq => rbtw_any c A n0 k0 qs LO HI w hco hkeys hq (by omega) (by omega) (by omega) (by omega))
  have CB0 := Lib.hid (fun w hq => rbtw_any c A n0 k0 qs 0 HI w hco hkeys hq (by omega) (by omega) (by omega) (by omega))
  obtain ⟨us, hus⟩ : ∃ us, upsR c 0 qs 0 60 = us := ⟨_, rfl⟩
  rw [hus] at FD hul hui CB1 CB0 hpl
  have o1 := rg_over hr (by omega) hui hul (lo := LO) (hi := HI) (by omega) (by omega) (by omega)
  have o0 := rg_over hr (by omega) hui hul (lo := 0) (hi := HI) (by omega) (by omega) (by omega)
  have CR := Lib.hid (fun p F w hs => sp_range p F c (stsOf c us) LO HI w hs (by omega) (by omega) (by omega) (by omega))
  have CK := Lib.hid (fun p F w hs => sp_rank p F c (stsOf c us) HI w hs (by omega) (by omega))
  rw [o1.1] at CR
  rw [o0.1] at CK
  have o1 := o1.2
  have o0 := o0.2
  obtain ⟨RV, hRV⟩ : ∃ v, rgV c (fun L i => spV c (stsOf c us) (L : Int) i) LO HI = v := ⟨_, rfl⟩
  obtain ⟨KV, hKV⟩ : ∃ v, rgV c (fun L i => spV c (stsOf c us) (L : Int) i) 0 HI = v := ⟨_, rfl⟩
  rw [hRV] at CR o1
  rw [hKV] at CK o0
  obtain ⟨BL, hBL⟩ : ∃ v, bt LO HI us = v := ⟨_, rfl⟩
  obtain ⟨BZ, hBZ⟩ : ∃ v, bt 0 HI us = v := ⟨_, rfl⟩
  rw [hBL] at CB1 o1
  rw [hBZ] at CB0 o0
  obtain ⟨Z, hZ⟩ : ∃ Z, stsOf c us = Z := ⟨_, rfl⟩
  rw [hZ] at FD CR CK
  have o1 := o1 hpl
  have o0 := o0 hpl
  have d1 : decide (BL ≤ RV) = true := decide_eq_true o1
  have d0 : decide (BZ ≤ KV) = true := decide_eq_true o0
  have HQ := Lib.hid hq
  have HBX : Hid (Have w (w.alloc (.cells #[.int .i64 x.bt, .int .i64 x.rw, .int .i64 x.wd, .int .i64 x.md, .int .u64 x.sd, .slice A n0 k0] 27)) [boxT w.heap.size 27 #[.int .i64 x.bt, .int .i64 x.rw, .int .i64 x.wd, .int .i64 x.md, .int .u64 x.sd, .slice A n0 k0]]) := Lib.hid (box_new w _ _)
  clear hr hco hr0 hco0 hC hbt hkeys hkk hlh hul hui hLO hHI hus hpl hRV hKV hBL hBZ hZ hq hx hmd o1 o0
  go_enter Tryz.func5, Tryz.ntmps5
  go_wp2_with (first
    | (go_at_call 24; (with_reducible refine (CB0.out _ (HQ.out.up HV7.out.below)).mono ?_); rintro e w8 ⟨rfl, hb⟩; have HV8 := Lib.hid (HV7.out.up hb); clear hb)
    | (go_at_call 24; (with_reducible refine (CB1.out _ (HQ.out.up HV6.out.below)).mono ?_); rintro e w7 ⟨rfl, hb⟩; have HV7 := Lib.hid (HV6.out.up hb); clear hb; clear c0 c1 c2 c3 c4; obtain ⟨c0, c1, c2, c3, c4⟩ := box5 HV7.out.i0; clear x0 x1 x2 x3 x4 x5; obtain ⟨x0, x1, x2, x3, x4, x5⟩ := box6 HV7.out.i2)
    | (go_at_call 23; (with_reducible refine (CPL.out _ (HQ.out.up HV5.out.below)).mono ?_); rintro e w6 ⟨rfl, hb⟩; have HV6 := Lib.hid (HV5.out.up hb); clear hb; clear c0 c1 c2 c3 c4; obtain ⟨c0, c1, c2, c3, c4⟩ := box5 HV6.out.i0; clear x0 x1 x2 x3 x4 x5; obtain ⟨x0, x1, x2, x3, x4, x5⟩ := box6 HV6.out.i2)
    | (go_at_call 18; (with_reducible refine (CK.out p F _ (stI HV4.out.i1)).mono ?_); rintro e w5 ⟨rfl, hb⟩; have HV5 := Lib.hid (HV4.out.up hb); clear hb; clear c0 c1 c2 c3 c4; obtain ⟨c0, c1, c2, c3, c4⟩ := box5 HV5.out.i0; clear x0 x1 x2 x3 x4 x5; obtain ⟨x0, x1, x2, x3, x4, x5⟩ := box6 HV5.out.i2)
    | (go_at_call 16; (with_reducible refine (CR.out p F _ (stI HV3.out.i1)).mono ?_); rintro e w4 ⟨rfl, hb⟩; have HV4 := Lib.hid (HV3.out.up hb); clear hb; clear c0 c1 c2 c3 c4; obtain ⟨c0, c1, c2, c3, c4⟩ := box5 HV4.out.i0; clear x0 x1 x2 x3 x4 x5; obtain ⟨x0, x1, x2, x3, x4, x5⟩ := box6 HV4.out.i2)
    | (go_at_call 20; (with_reducible refine (FD.out _ (HQ.out.up HV1.out.below)).mono ?_); rintro e w2 ⟨p, F, rfl, hv⟩; have HV2 := Lib.hid (HV1.out.join hv); simp only [List.cons_append, List.nil_append] at HV2; clear hv; have HV3 := Lib.hid (HV2.out.push (boxT w2.heap.size 24 #[.int .i64 c.bt, .int .i64 c.rw, .int .i64 c.wd, .int .i64 c.md, .int .u64 c.sd]) (Lw.below_alloc (Below.refl _ _) _) (heap_alloc_new w2 _) (fun k hk => Nat.le_of_eq hk.symm)); obtain ⟨c0, c1, c2, c3, c4⟩ := box5 HV3.out.i0; clear x0 x1 x2 x3 x4 x5; obtain ⟨x0, x1, x2, x3, x4, x5⟩ := box6 HV3.out.i2)
    | (go_at_call 8; (with_reducible refine (shown_any _).mono ?_); rintro e w1 ⟨rfl, hb⟩; have HV1 := Lib.hid (HBX.out.up hb); clear hb; obtain ⟨x0, x1, x2, x3, x4, x5⟩ := box6 HV1.out.i0))
  go_ret
  exact ⟨ret_bs (by first | rfl | (simp [*]; done)), HV8.out.below⟩
set_option maxRecDepth 100000 in
set_option maxHeartbeats 40000000 in
theorem over_1n (x : Cfg) (A : Option Addr) (n0 k0 : Nat) (qs : Ups) (a b : Int) (w : World) (hx : x.Ok) (hq : UpdV w A n0 k0 qs) (ha : 0 ≤ a ∧ a ≤ 18446744073709551615) (hb2 : 0 ≤ b ∧ b ≤ 18446744073709551615) (c : Cfg) (hC : { anyC x 10 9 with md := 1 } = c) (Y : Int) (hB : bits .and .i64 x.md 1 = Y) (hB1 : (Y == 1) = false) (hpl : plainB (upsR c 0 qs 0 60) = false) :
    Calls Tryz.prog 5 #[.agg #[.int .i64 x.bt, .int .i64 x.rw, .int .i64 x.wd, .int .i64 x.md, .int .u64 x.sd, .slice A n0 k0], .int .u64 a, .int .u64 b] w fun e w' => e = .returned (.bool true) ∧ Below w.heap.size w w' := by
  have hr0 := any_right x 10 9 (by omega) (by omega) (by omega) (by omega)
  have hco0 := any_ok x hx 10 9 (by omega) (by omega) (by omega) (by omega)
  have hr : IsRight c := by rw [← hC]; exact ⟨hr0.1, hr0.2.1, hr0.2.2.1, hr0.2.2.2.1, hr0.2.2.2.2.1, hr0.2.2.2.2.2.1, (by show (1 : Int) ≤ 1; omega), (by show (1 : Int) ≤ 3; omega)⟩
  have hco : c.Ok := by rw [← hC]; exact ⟨hco0.b0, hco0.b1, hco0.r0, hco0.r1, hco0.w0, hco0.w1, by show -9223372036854775808 ≤ (1 : Int); omega, by show (1 : Int) ≤ 9223372036854775807; omega, hco0.s0, hco0.s1⟩
  have hmd : c.md = 1 := by rw [← hC]
  have hbt := hr.1
  have hkeys : 1 ≤ keys c 0 := keys_pos.2 ⟨hr, by omega, by omega⟩
  have hkk := keys_bd c 0
  have FD := Lib.hid (fun w hq => fed_m x A n0 k0 qs 1 (by omega) (by omega) a b c w hx hq ha.1 ha.2 hb2.1 hb2.2 hC)
  have CPL := Lib.hid (fun w hq => rplain_any c A n0 k0 qs w hco hkeys hq)
  rw [hpl] at CPL
  have hlh := lohi hkeys a b
  have hul := upsR_len c 0 qs 0 60
  have hui := upsR_in hkeys qs 0 60
  obtain ⟨LO, hLO⟩ : ∃ v, loK c a b = v := ⟨_, rfl⟩
  obtain ⟨HI, hHI⟩ : ∃ v, hiK c a b = v := ⟨_, rfl⟩
  rw [hLO, hHI] at FD hlh
  have CB1 := Lib.hid (fun w hq => rbtw_any c A n0 k0 qs LO HI w hco hkeys hq (by omega) (by omega) (by omega) (by omega))
  have CB0 := Lib.hid (fun w hq => rbtw_any c A n0 k0 qs 0 HI w hco hkeys hq (by omega) (by omega) (by omega) (by omega))
  obtain ⟨us, hus⟩ : ∃ us, upsR c 0 qs 0 60 = us := ⟨_, rfl⟩
  rw [hus] at FD hul hui CB1 CB0 hpl
  have o1 := rg_over hr (by omega) hui hul (lo := LO) (hi := HI) (by omega) (by omega) (by omega)
  have o0 := rg_over hr (by omega) hui hul (lo := 0) (hi := HI) (by omega) (by omega) (by omega)
  have CR := Lib.hid (fun p F w hs => sp_range p F c (stsOf c us) LO HI w hs (by omega) (by omega) (by omega) (by omega))
  have CK := Lib.hid (fun p F w hs => sp_rank p F c (stsOf c us) HI w hs (by omega) (by omega))
  rw [o1.1] at CR
  rw [o0.1] at CK
  have o1 := o1.2
  have o0 := o0.2
  obtain ⟨RV, hRV⟩ : ∃ v, rgV c (fun L i => spV c (stsOf c us) (L : Int) i) LO HI = v := ⟨_, rfl⟩
  obtain ⟨KV, hKV⟩ : ∃ v, rgV c (fun L i => spV c (stsOf c us) (L : Int) i) 0 HI = v := ⟨_, rfl⟩
  rw [hRV] at CR o1
  rw [hKV] at CK o0
  obtain ⟨BL, hBL⟩ : ∃ v, bt LO HI us = v := ⟨_, rfl⟩
  obtain ⟨BZ, hBZ⟩ : ∃ v, bt 0 HI us = v := ⟨_, rfl⟩
  rw [hBL] at CB1 o1
  rw [hBZ] at CB0 o0
  obtain ⟨Z, hZ⟩ : ∃ Z, stsOf c us = Z := ⟨_, rfl⟩
  rw [hZ] at FD CR CK
  have HQ := Lib.hid hq
  have HBX : Hid (Have w (w.alloc (.cells #[.int .i64 x.bt, .int .i64 x.rw, .int .i64 x.wd, .int .i64 x.md, .int .u64 x.sd, .slice A n0 k0] 27)) [boxT w.heap.size 27 #[.int .i64 x.bt, .int .i64 x.rw, .int .i64 x.wd, .int .i64 x.md, .int .u64 x.sd, .slice A n0 k0]]) := Lib.hid (box_new w _ _)
  clear hr hco hr0 hco0 hC hbt hkeys hkk hlh hul hui hLO hHI hus hpl hRV hKV hBL hBZ hZ hq hx hmd o1 o0
  go_enter Tryz.func5, Tryz.ntmps5
  go_wp2_with (first
    | (go_at_call 23; (with_reducible refine (CPL.out _ (HQ.out.up HV5.out.below)).mono ?_); rintro e w6 ⟨rfl, hb⟩; have HV6 := Lib.hid (HV5.out.up hb); clear hb; clear c0 c1 c2 c3 c4; obtain ⟨c0, c1, c2, c3, c4⟩ := box5 HV6.out.i0; clear x0 x1 x2 x3 x4 x5; obtain ⟨x0, x1, x2, x3, x4, x5⟩ := box6 HV6.out.i2)
    | (go_at_call 18; (with_reducible refine (CK.out p F _ (stI HV4.out.i1)).mono ?_); rintro e w5 ⟨rfl, hb⟩; have HV5 := Lib.hid (HV4.out.up hb); clear hb; clear c0 c1 c2 c3 c4; obtain ⟨c0, c1, c2, c3, c4⟩ := box5 HV5.out.i0; clear x0 x1 x2 x3 x4 x5; obtain ⟨x0, x1, x2, x3, x4, x5⟩ := box6 HV5.out.i2)
    | (go_at_call 16; (with_reducible refine (CR.out p F _ (stI HV3.out.i1)).mono ?_); rintro e w4 ⟨rfl, hb⟩; have HV4 := Lib.hid (HV3.out.up hb); clear hb; clear c0 c1 c2 c3 c4; obtain ⟨c0, c1, c2, c3, c4⟩ := box5 HV4.out.i0; clear x0 x1 x2 x3 x4 x5; obtain ⟨x0, x1, x2, x3, x4, x5⟩ := box6 HV4.out.i2)
    | (go_at_call 20; (with_reducible refine (FD.out _ (HQ.out.up HV1.out.below)).mono ?_); rintro e w2 ⟨p, F, rfl, hv⟩; have HV2 := Lib.hid (HV1.out.join hv); simp only [List.cons_append, List.nil_append] at HV2; clear hv; have HV3 := Lib.hid (HV2.out.push (boxT w2.heap.size 24 #[.int .i64 c.bt, .int .i64 c.rw, .int .i64 c.wd, .int .i64 c.md, .int .u64 c.sd]) (Lw.below_alloc (Below.refl _ _) _) (heap_alloc_new w2 _) (fun k hk => Nat.le_of_eq hk.symm)); obtain ⟨c0, c1, c2, c3, c4⟩ := box5 HV3.out.i0; clear x0 x1 x2 x3 x4 x5; obtain ⟨x0, x1, x2, x3, x4, x5⟩ := box6 HV3.out.i2)
    | (go_at_call 8; (with_reducible refine (shown_any _).mono ?_); rintro e w1 ⟨rfl, hb⟩; have HV1 := Lib.hid (HBX.out.up hb); clear hb; obtain ⟨x0, x1, x2, x3, x4, x5⟩ := box6 HV1.out.i0))
  go_ret
  exact ⟨ret_bs (by first | rfl | (simp [*]; done)), HV6.out.below⟩
set_option maxRecDepth 100000 in
set_option maxHeartbeats 40000000 in
theorem over_2p (x : Cfg) (A : Option Addr) (n0 k0 : Nat) (qs : Ups) (a b : Int) (w : World) (hx : x.Ok) (hq : UpdV w A n0 k0 qs) (ha : 0 ≤ a ∧ a ≤ 18446744073709551615) (hb2 : 0 ≤ b ∧ b ≤ 18446744073709551615) (c : Cfg) (hC : { anyC x 10 9 with md := 2 } = c) (Y : Int) (hB : bits .and .i64 x.md 1 = Y) (hB1 : (Y == 1) = true) (hpl : plainB (upsR c 0 qs 0 60) = true) :
    Calls Tryz.prog 5 #[.agg #[.int .i64 x.bt, .int .i64 x.rw, .int .i64 x.wd, .int .i64 x.md, .int .u64 x.sd, .slice A n0 k0], .int .u64 a, .int .u64 b] w fun e w' => e = .returned (.bool true) ∧ Below w.heap.size w w' := by
  have hr0 := any_right x 10 9 (by omega) (by omega) (by omega) (by omega)
  have hco0 := any_ok x hx 10 9 (by omega) (by omega) (by omega) (by omega)
  have hr : IsRight c := by rw [← hC]; exact ⟨hr0.1, hr0.2.1, hr0.2.2.1, hr0.2.2.2.1, hr0.2.2.2.2.1, hr0.2.2.2.2.2.1, (by show (1 : Int) ≤ 2; omega), (by show (2 : Int) ≤ 3; omega)⟩
  have hco : c.Ok := by rw [← hC]; exact ⟨hco0.b0, hco0.b1, hco0.r0, hco0.r1, hco0.w0, hco0.w1, by show -9223372036854775808 ≤ (2 : Int); omega, by show (2 : Int) ≤ 9223372036854775807; omega, hco0.s0, hco0.s1⟩
  have hmd : c.md = 2 := by rw [← hC]
  have hbt := hr.1
  have hkeys : 1 ≤ keys c 0 := keys_pos.2 ⟨hr, by omega, by omega⟩
  have hkk := keys_bd c 0
  have FD := Lib.hid (fun w hq => fed_m x A n0 k0 qs 2 (by omega) (by omega) a b c w hx hq ha.1 ha.2 hb2.1 hb2.2 hC)
  have CPL := Lib.hid (fun w hq => rplain_any c A n0 k0 qs w hco hkeys hq)
  rw [hpl] at CPL
  have hlh := lohi hkeys a b
  have hul := upsR_len c 0 qs 0 60
  have hui := upsR_in hkeys qs 0 60
  obtain ⟨LO, hLO⟩ : ∃ v, loK c a b = v := ⟨_, rfl⟩
  obtain ⟨HI, hHI⟩ : ∃ v, hiK c a b = v := ⟨_, rfl⟩
  rw [hLO, hHI] at FD hlh
  have CB1 := Lib.hid (fun w hq => rbtw_any c A n0 k0 qs LO HI w hco hkeys hq (by omega) (by omega) (by omega) (by omega))
  have CB0 := Lib.hid (fun w hq => rbtw_any c A n0 k0 qs 0 HI w hco hkeys hq (by omega) (by omega) (by omega) (by omega))
  obtain ⟨us, hus⟩ : ∃ us, upsR c 0 qs 0 60 = us := ⟨_, rfl⟩
  rw [hus] at FD hul hui CB1 CB0 hpl
  have o1 := rg_over hr (by omega) hui hul (lo := LO) (hi := HI) (by omega) (by omega) (by omega)
  have o0 := rg_over hr (by omega) hui hul (lo := 0) (hi := HI) (by omega) (by omega) (by omega)
  have CR := Lib.hid (fun p F w hs => sp_range p F c (stsOf c us) LO HI w hs (by omega) (by omega) (by omega) (by omega))
  have CK := Lib.hid (fun p F w hs => sp_rank p F c (stsOf c us) HI w hs (by omega) (by omega))
  rw [o1.1] at CR
  rw [o0.1] at CK
  have o1 := o1.2
  have o0 := o0.2
  obtain ⟨RV, hRV⟩ : ∃ v, rgV c (fun L i => spV c (stsOf c us) (L : Int) i) LO HI = v := ⟨_, rfl⟩
  obtain ⟨KV, hKV⟩ : ∃ v, rgV c (fun L i => spV c (stsOf c us) (L : Int) i) 0 HI = v := ⟨_, rfl⟩
  rw [hRV] at CR o1
  rw [hKV] at CK o0
  obtain ⟨BL, hBL⟩ : ∃ v, bt LO HI us = v := ⟨_, rfl⟩
  obtain ⟨BZ, hBZ⟩ : ∃ v, bt 0 HI us = v := ⟨_, rfl⟩
  rw [hBL] at CB1 o1
  rw [hBZ] at CB0 o0
  obtain ⟨Z, hZ⟩ : ∃ Z, stsOf c us = Z := ⟨_, rfl⟩
  rw [hZ] at FD CR CK
  have o1 := o1 hpl
  have o0 := o0 hpl
  have d1 : decide (BL ≤ RV) = true := decide_eq_true o1
  have d0 : decide (BZ ≤ KV) = true := decide_eq_true o0
  have HQ := Lib.hid hq
  have HBX : Hid (Have w (w.alloc (.cells #[.int .i64 x.bt, .int .i64 x.rw, .int .i64 x.wd, .int .i64 x.md, .int .u64 x.sd, .slice A n0 k0] 27)) [boxT w.heap.size 27 #[.int .i64 x.bt, .int .i64 x.rw, .int .i64 x.wd, .int .i64 x.md, .int .u64 x.sd, .slice A n0 k0]]) := Lib.hid (box_new w _ _)
  clear hr hco hr0 hco0 hC hbt hkeys hkk hlh hul hui hLO hHI hus hpl hRV hKV hBL hBZ hZ hq hx hmd o1 o0
  go_enter Tryz.func5, Tryz.ntmps5
  go_wp2_with (first
    | (go_at_call 24; (with_reducible refine (CB0.out _ (HQ.out.up HV7.out.below)).mono ?_); rintro e w8 ⟨rfl, hb⟩; have HV8 := Lib.hid (HV7.out.up hb); clear hb)
    | (go_at_call 24; (with_reducible refine (CB1.out _ (HQ.out.up HV6.out.below)).mono ?_); rintro e w7 ⟨rfl, hb⟩; have HV7 := Lib.hid (HV6.out.up hb); clear hb; clear c0 c1 c2 c3 c4; obtain ⟨c0, c1, c2, c3, c4⟩ := box5 HV7.out.i0; clear x0 x1 x2 x3 x4 x5; obtain ⟨x0, x1, x2, x3, x4, x5⟩ := box6 HV7.out.i2)
    | (go_at_call 23; (with_reducible refine (CPL.out _ (HQ.out.up HV5.out.below)).mono ?_); rintro e w6 ⟨rfl, hb⟩; have HV6 := Lib.hid (HV5.out.up hb); clear hb; clear c0 c1 c2 c3 c4; obtain ⟨c0, c1, c2, c3, c4⟩ := box5 HV6.out.i0; clear x0 x1 x2 x3 x4 x5; obtain ⟨x0, x1, x2, x3, x4, x5⟩ := box6 HV6.out.i2)
    | (go_at_call 18; (with_reducible refine (CK.out p F _ (stI HV4.out.i1)).mono ?_); rintro e w5 ⟨rfl, hb⟩; have HV5 := Lib.hid (HV4.out.up hb); clear hb; clear c0 c1 c2 c3 c4; obtain ⟨c0, c1, c2, c3, c4⟩ := box5 HV5.out.i0; clear x0 x1 x2 x3 x4 x5; obtain ⟨x0, x1, x2, x3, x4, x5⟩ := box6 HV5.out.i2)
    | (go_at_call 16; (with_reducible refine (CR.out p F _ (stI HV3.out.i1)).mono ?_); rintro e w4 ⟨rfl, hb⟩; have HV4 := Lib.hid (HV3.out.up hb); clear hb; clear c0 c1 c2 c3 c4; obtain ⟨c0, c1, c2, c3, c4⟩ := box5 HV4.out.i0; clear x0 x1 x2 x3 x4 x5; obtain ⟨x0, x1, x2, x3, x4, x5⟩ := box6 HV4.out.i2)
    | (go_at_call 20; (with_reducible refine (FD.out _ (HQ.out.up HV1.out.below)).mono ?_); rintro e w2 ⟨p, F, rfl, hv⟩; have HV2 := Lib.hid (HV1.out.join hv); simp only [List.cons_append, List.nil_append] at HV2; clear hv; have HV3 := Lib.hid (HV2.out.push (boxT w2.heap.size 24 #[.int .i64 c.bt, .int .i64 c.rw, .int .i64 c.wd, .int .i64 c.md, .int .u64 c.sd]) (Lw.below_alloc (Below.refl _ _) _) (heap_alloc_new w2 _) (fun k hk => Nat.le_of_eq hk.symm)); obtain ⟨c0, c1, c2, c3, c4⟩ := box5 HV3.out.i0; clear x0 x1 x2 x3 x4 x5; obtain ⟨x0, x1, x2, x3, x4, x5⟩ := box6 HV3.out.i2)
    | (go_at_call 8; (with_reducible refine (shown_any _).mono ?_); rintro e w1 ⟨rfl, hb⟩; have HV1 := Lib.hid (HBX.out.up hb); clear hb; obtain ⟨x0, x1, x2, x3, x4, x5⟩ := box6 HV1.out.i0))
  go_ret
  exact ⟨ret_bs (by first | rfl | (simp [*]; done)), HV8.out.below⟩
set_option maxRecDepth 100000 in
set_option maxHeartbeats 40000000 in
theorem over_2n (x : Cfg) (A : Option Addr) (n0 k0 : Nat) (qs : Ups) (a b : Int) (w : World) (hx : x.Ok) (hq : UpdV w A n0 k0 qs) (ha : 0 ≤ a ∧ a ≤ 18446744073709551615) (hb2 : 0 ≤ b ∧ b ≤ 18446744073709551615) (c : Cfg) (hC : { anyC x 10 9 with md := 2 } = c) (Y : Int) (hB : bits .and .i64 x.md 1 = Y) (hB1 : (Y == 1) = true) (hpl : plainB (upsR c 0 qs 0 60) = false) :
    Calls Tryz.prog 5 #[.agg #[.int .i64 x.bt, .int .i64 x.rw, .int .i64 x.wd, .int .i64 x.md, .int .u64 x.sd, .slice A n0 k0], .int .u64 a, .int .u64 b] w fun e w' => e = .returned (.bool true) ∧ Below w.heap.size w w' := by
  have hr0 := any_right x 10 9 (by omega) (by omega) (by omega) (by omega)
  have hco0 := any_ok x hx 10 9 (by omega) (by omega) (by omega) (by omega)
  have hr : IsRight c := by rw [← hC]; exact ⟨hr0.1, hr0.2.1, hr0.2.2.1, hr0.2.2.2.1, hr0.2.2.2.2.1, hr0.2.2.2.2.2.1, (by show (1 : Int) ≤ 2; omega), (by show (2 : Int) ≤ 3; omega)⟩
  have hco : c.Ok := by rw [← hC]; exact ⟨hco0.b0, hco0.b1, hco0.r0, hco0.r1, hco0.w0, hco0.w1, by show -9223372036854775808 ≤ (2 : Int); omega, by show (2 : Int) ≤ 9223372036854775807; omega, hco0.s0, hco0.s1⟩
  have hmd : c.md = 2 := by rw [← hC]
  have hbt := hr.1
  have hkeys : 1 ≤ keys c 0 := keys_pos.2 ⟨hr, by omega, by omega⟩
  have hkk := keys_bd c 0
  have FD := Lib.hid (fun w hq => fed_m x A n0 k0 qs 2 (by omega) (by omega) a b c w hx hq ha.1 ha.2 hb2.1 hb2.2 hC)
  have CPL := Lib.hid (fun w hq => rplain_any c A n0 k0 qs w hco hkeys hq)
  rw [hpl] at CPL
  have hlh := lohi hkeys a b
  have hul := upsR_len c 0 qs 0 60
  have hui := upsR_in hkeys qs 0 60
  obtain ⟨LO, hLO⟩ : ∃ v, loK c a b = v := ⟨_, rfl⟩
  obtain ⟨HI, hHI⟩ : ∃ v, hiK c a b = v := ⟨_, rfl⟩
  rw [hLO, hHI] at FD hlh
  have CB1 := Lib.hid (fun w hq => rbtw_any c A n0 k0 qs LO HI w hco hkeys hq (by omega) (by omega) (by omega) (by omega))
  have CB0 := Lib.hid (fun w hq => rbtw_any c A n0 k0 qs 0 HI w hco hkeys hq (by omega) (by omega) (by omega) (by omega))
  obtain ⟨us, hus⟩ : ∃ us, upsR c 0 qs 0 60 = us := ⟨_, rfl⟩
  rw [hus] at FD hul hui CB1 CB0 hpl
  have o1 := rg_over hr (by omega) hui hul (lo := LO) (hi := HI) (by omega) (by omega) (by omega)
  have o0 := rg_over hr (by omega) hui hul (lo := 0) (hi := HI) (by omega) (by omega) (by omega)
  have CR := Lib.hid (fun p F w hs => sp_range p F c (stsOf c us) LO HI w hs (by omega) (by omega) (by omega) (by omega))
  have CK := Lib.hid (fun p F w hs => sp_rank p F c (stsOf c us) HI w hs (by omega) (by omega))
  rw [o1.1] at CR
  rw [o0.1] at CK
  have o1 := o1.2
  have o0 := o0.2
  obtain ⟨RV, hRV⟩ : ∃ v, rgV c (fun L i => spV c (stsOf c us) (L : Int) i) LO HI = v := ⟨_, rfl⟩
  obtain ⟨KV, hKV⟩ : ∃ v, rgV c (fun L i => spV c (stsOf c us) (L : Int) i) 0 HI = v := ⟨_, rfl⟩
  rw [hRV] at CR o1
  rw [hKV] at CK o0
  obtain ⟨BL, hBL⟩ : ∃ v, bt LO HI us = v := ⟨_, rfl⟩
  obtain ⟨BZ, hBZ⟩ : ∃ v, bt 0 HI us = v := ⟨_, rfl⟩
  rw [hBL] at CB1 o1
  rw [hBZ] at CB0 o0
  obtain ⟨Z, hZ⟩ : ∃ Z, stsOf c us = Z := ⟨_, rfl⟩
  rw [hZ] at FD CR CK
  have HQ := Lib.hid hq
  have HBX : Hid (Have w (w.alloc (.cells #[.int .i64 x.bt, .int .i64 x.rw, .int .i64 x.wd, .int .i64 x.md, .int .u64 x.sd, .slice A n0 k0] 27)) [boxT w.heap.size 27 #[.int .i64 x.bt, .int .i64 x.rw, .int .i64 x.wd, .int .i64 x.md, .int .u64 x.sd, .slice A n0 k0]]) := Lib.hid (box_new w _ _)
  clear hr hco hr0 hco0 hC hbt hkeys hkk hlh hul hui hLO hHI hus hpl hRV hKV hBL hBZ hZ hq hx hmd o1 o0
  go_enter Tryz.func5, Tryz.ntmps5
  go_wp2_with (first
    | (go_at_call 23; (with_reducible refine (CPL.out _ (HQ.out.up HV5.out.below)).mono ?_); rintro e w6 ⟨rfl, hb⟩; have HV6 := Lib.hid (HV5.out.up hb); clear hb; clear c0 c1 c2 c3 c4; obtain ⟨c0, c1, c2, c3, c4⟩ := box5 HV6.out.i0; clear x0 x1 x2 x3 x4 x5; obtain ⟨x0, x1, x2, x3, x4, x5⟩ := box6 HV6.out.i2)
    | (go_at_call 18; (with_reducible refine (CK.out p F _ (stI HV4.out.i1)).mono ?_); rintro e w5 ⟨rfl, hb⟩; have HV5 := Lib.hid (HV4.out.up hb); clear hb; clear c0 c1 c2 c3 c4; obtain ⟨c0, c1, c2, c3, c4⟩ := box5 HV5.out.i0; clear x0 x1 x2 x3 x4 x5; obtain ⟨x0, x1, x2, x3, x4, x5⟩ := box6 HV5.out.i2)
    | (go_at_call 16; (with_reducible refine (CR.out p F _ (stI HV3.out.i1)).mono ?_); rintro e w4 ⟨rfl, hb⟩; have HV4 := Lib.hid (HV3.out.up hb); clear hb; clear c0 c1 c2 c3 c4; obtain ⟨c0, c1, c2, c3, c4⟩ := box5 HV4.out.i0; clear x0 x1 x2 x3 x4 x5; obtain ⟨x0, x1, x2, x3, x4, x5⟩ := box6 HV4.out.i2)
    | (go_at_call 20; (with_reducible refine (FD.out _ (HQ.out.up HV1.out.below)).mono ?_); rintro e w2 ⟨p, F, rfl, hv⟩; have HV2 := Lib.hid (HV1.out.join hv); simp only [List.cons_append, List.nil_append] at HV2; clear hv; have HV3 := Lib.hid (HV2.out.push (boxT w2.heap.size 24 #[.int .i64 c.bt, .int .i64 c.rw, .int .i64 c.wd, .int .i64 c.md, .int .u64 c.sd]) (Lw.below_alloc (Below.refl _ _) _) (heap_alloc_new w2 _) (fun k hk => Nat.le_of_eq hk.symm)); obtain ⟨c0, c1, c2, c3, c4⟩ := box5 HV3.out.i0; clear x0 x1 x2 x3 x4 x5; obtain ⟨x0, x1, x2, x3, x4, x5⟩ := box6 HV3.out.i2)
    | (go_at_call 8; (with_reducible refine (shown_any _).mono ?_); rintro e w1 ⟨rfl, hb⟩; have HV1 := Lib.hid (HBX.out.up hb); clear hb; obtain ⟨x0, x1, x2, x3, x4, x5⟩ := box6 HV1.out.i0))
  go_ret
  exact ⟨ret_bs (by first | rfl | (simp [*]; done)), HV6.out.below⟩
theorem over_law (x : Cfg) (A : Option Addr) (n0 k0 : Nat) (qs : Ups) (a b : Int) (w : World) (hx : x.Ok) (hq : UpdV w A n0 k0 qs) (ha : 0 ≤ a ∧ a ≤ 18446744073709551615) (hb2 : 0 ≤ b ∧ b ≤ 18446744073709551615) :
    Calls Tryz.prog 5 #[.agg #[.int .i64 x.bt, .int .i64 x.rw, .int .i64 x.wd, .int .i64 x.md, .int .u64 x.sd, .slice A n0 k0], .int .u64 a, .int .u64 b] w fun e w' => e = .returned (.bool true) ∧ Below w.heap.size w w' := by
  cases hB1 : (bits .and .i64 x.md 1 == 1) with
  | true =>
    cases hp : plainB (upsR { anyC x 10 9 with md := 2 } 0 qs 0 60) with
    | true => exact over_2p x A n0 k0 qs a b w hx hq ha hb2 _ rfl _ rfl hB1 hp
    | false => exact over_2n x A n0 k0 qs a b w hx hq ha hb2 _ rfl _ rfl hB1 hp
  | false =>
    cases hp : plainB (upsR { anyC x 10 9 with md := 1 } 0 qs 0 60) with
    | true => exact over_1p x A n0 k0 qs a b w hx hq ha hb2 _ rfl _ rfl hB1 hp
    | false => exact over_1n x A n0 k0 qs a b w hx hq ha hb2 _ rfl _ rfl hB1 hp
namespace spanOver
open Go.ChangeShapes Go.WideShapes Go.ChangeAt Go.Joins
set_option maxRecDepth 100000 in
theorem lifted (os : Os) (started : os.Started) (H : Type) (enc : TypeId × Value → H) :
    ReturnsInHanded {} Tryz.checked os 5 .any (Rows.spanOverSpec.pre6 enc Tryz.prog Tryz.f5 Rows.spanOverRow.domain false) (Rows.spanOverSpec.post enc Tryz.prog Tryz.f5 false true false false) := by
  refine Lw.lifted (C := Tryz.checked) (B := 4) (by kernel_rfl) os started (by kernel_rfl) Tryz.func5
    (ChangeSpec.witness6 (enc := enc) (C := Tryz.checked) false ⟨#[], #[.agg #[.int .i64 0, .int .i64 0, .int .i64 0, .int .i64 0, .int .u64 0, .slice none 0 0], .int .u64 0, .int .u64 0], []⟩ 8 (by kernel_rfl) (by kernel_rfl) (by kernel_rfl) (by kernel_rfl)) rfl Tryz.underlying4 (by kernel_rfl) (by kernel_rfl) (by kernel_rfl) ?_ ?_
  · intro ds h
    rw [Tryz.params5] at h
    match ds, h with
    | [_, _, _], _ => rfl
  · intro W base args ds p hval hA
    rw [Tryz.params5] at hA hval
    obtain ⟨v0, vs0, d0, ds0, p0, q0, hargs, rfl, rfl, h0, r0⟩ := trodAll_cons hA
    obtain ⟨v1, vs1, d1, ds1, p1, q1, rfl, rfl, rfl, h1, r1⟩ := trodAll_cons r0
    obtain ⟨v2, vs2, d2, ds2, p2, q2, rfl, rfl, rfl, h2, r2⟩ := trodAll_cons r1
    obtain ⟨rfl, rfl, rfl⟩ := trodAll_nil r2
    obtain rfl : args = #[v0, v1, v2] := by cases args; simp_all
    obtain ⟨x0, A0, n0, k0, qs0, rfl, hx0, hq0⟩ := open_playX (hval 0 27 v0 rfl rfl) h0
    obtain ⟨a1, rfl, rfl, rfl, w1⟩ := open_int Tryz.underlying22 (hval 1 22 v1 rfl rfl) h1
    have b1 := Lw.wf_u64 w1
    obtain ⟨a2, rfl, rfl, rfl, w2⟩ := open_int Tryz.underlying22 (hval 2 22 v2 rfl rfl) h2
    have b2 := Lw.wf_u64 w2
    exact over_law x0 A0 n0 k0 qs0 a1 a2 W hx0 hq0 b1 b2
theorem over : Rows.spanOverRow.holds Tryz.pinned (OpenSpec.ofChange Rows.spanOverSpec) :=
  OpenClaim.holds_of_wide 5 Tryz.f5 rfl rfl rfl rfl rfl rfl rfl ⟨rfl, rfl, rfl, rfl, rfl⟩ rfl rfl rfl rfl rfl (by kernel_rfl) Tryz.func5 (by kernel_rfl)
    (of_decide_eq_true (by kernel_rfl)) (by unfold Func.isWrapper; first | (rw [if_pos (by decide +kernel)]; kernel_rfl) | (rw [if_neg (by decide +kernel)]; exact ⟨rfl, rfl⟩))
    (fun os started H enc _ => lifted os started H enc)
theorem proved : Rows.SpanOverSaid :=
  over
#print axioms proved
end spanOver
end Go.Proofs.YtbifihhfoanmgaaGreat.Spn
