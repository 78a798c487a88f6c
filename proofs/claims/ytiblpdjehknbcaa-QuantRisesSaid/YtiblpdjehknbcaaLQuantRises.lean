/- The statement QuantRises of layer 17 holds. Printed by wip/gen/qnt4.py. -/
import Derived.Test.YtiblpdjehknbcaaMd
import Derived.Test.YtiblpdjehknbcaaMi
import Derived.Test.YtiblpdjehknbcaaMj
import Derived.Deep.LoopGhost
import Derived.Deep.RegionHeld3
import Derived.Deep.DeepCutAuto
import Derived.Deep.QuietTactic
import Derived.BigQuiet
namespace Go.Proofs.Ytiblpdjehknbcaa.Qnt
open Go Go.RowKit Lw Grd Lin Con Shp Sk Exa Lev Stk Pcs Spn
set_option linter.unusedVariables false
set_option linter.unusedSimpArgs false
set_option maxRecDepth 100000 in
set_option maxHeartbeats 40000000 in
theorem rises_n (x : Cfg) (A : Option Addr) (n0 k0 : Nat) (qs : Ups) (a b : Int) (w : World) (hx : x.Ok) (hq : UpdV w A n0 k0 qs) (hT : ¬ 1 ≤ spV (anyC x 10 9) (stsOf (anyC x 10 9) (upsR (anyC x 10 9) 0 qs 0 60)) (anyC x 10 9).bt 0) :
    Calls Try.prog 3 #[.agg #[.int .i64 x.bt, .int .i64 x.rw, .int .i64 x.wd, .int .i64 x.md, .int .u64 x.sd, .slice A n0 k0], .int .i64 a, .int .i64 b] w fun e w' => e = .returned (.bool true) ∧ Below w.heap.size w w' := by
  obtain ⟨c, hC⟩ : ∃ c, anyC x 10 9 = c := ⟨_, rfl⟩
  have hr := any_right x 10 9 (by omega) (by omega) (by omega) (by omega)
  have hco := any_ok x hx 10 9 (by omega) (by omega) (by omega) (by omega)
  have FD := Lib.hid (fun w hq => fed_z x A n0 k0 qs c w hx hq hC)
  rw [hC] at hr hco
  have hbt := hr.1
  have hbt2 := hr.2.1
  have hkeys : 1 ≤ keys c 0 := keys_pos.2 ⟨hr, by omega, by omega⟩
  have hul := upsR_len c 0 qs 0 60
  have hui := upsR_in hkeys qs 0 60
  obtain ⟨us, hus⟩ : ∃ us, upsR c 0 qs 0 60 = us := ⟨_, rfl⟩
  rw [hus] at FD hul hui
  rw [hC, hus] at hT
  have etop := has_all hr us
  have htb := ptU_bd hr hui hul (L := c.bt.toNat) (i := 0) (Nat.le_refl _) (by rw [Nat.sub_self]; decide)
  have CT0 := Lib.hid (fun p F w hs => cs_total p F c (stsOf c us) w hs)
  have htb1 : -65970697666560 ≤ ptU c us c.bt.toNat 0 := htb.1
  have htb2 : ptU c us c.bt.toNat 0 ≤ 65970697666560 := htb.2
  obtain ⟨TV, hTV⟩ : ∃ v, ptU c us c.bt.toNat 0 = v := ⟨_, rfl⟩
  rw [etop, hTV] at CT0
  rw [hTV] at htb1 htb2
  rw [etop, hTV] at hT
  have C1 : Hid (∀ (p : Addr) (F : Nat → Prop) (k : Int) (w : World), ST w p F c (stsOf c us) → TV < k → k ≤ 9223372036854775807 → Calls Try.prog 8 #[.pointer (some p), .int .i64 k] w fun e w' => e = .returned (.tuple #[.int .u64 0, .int .i64 6]) ∧ Below w.heap.size w w') := Lib.hid (fun p F k w hs k1 k2 => by
    have h := qn_quant p F c (stsOf c us) k w hs (by omega) (by omega)
    have q1 := qn_rank (c := c) (pt := (fun L i => spV c (stsOf c us) (L : Int) i)) (k := k) (.inr (by show ptU c us c.bt.toNat 0 < k; omega))
    rw [q1.1, q1.2.2] at h
    exact h)
  have q0 := qn_rank (c := c) (pt := (fun L i => spV c (stsOf c us) (L : Int) i)) (k := 0) (.inl (by omega))
  have C0 := Lib.hid (fun p F w hs => qn_quant p F c (stsOf c us) 0 w hs (by omega) (by omega))
  rw [q0.1, q0.2.2] at C0
  have hl1 : TV < 1 := by omega
  obtain ⟨Z, hZ⟩ : ∃ Z, stsOf c us = Z := ⟨_, rfl⟩
  rw [hZ] at FD CT0 C0 C1
  have HQ := Lib.hid hq
  have HTB := Lib.hid htb2
  have HBX : Hid (Have w (w.alloc (.cells #[.int .i64 x.bt, .int .i64 x.rw, .int .i64 x.wd, .int .i64 x.md, .int .u64 x.sd, .slice A n0 k0] 27)) [boxT w.heap.size 27 #[.int .i64 x.bt, .int .i64 x.rw, .int .i64 x.wd, .int .i64 x.md, .int .u64 x.sd, .slice A n0 k0]]) := Lib.hid (box_new w _ _)
  clear hr hco hC hbt hbt2 hkeys hul hui hus etop htb htb1 htb2 hTV hT q0 hZ hq hx
  go_enter Try.func3, Try.ntmps3
  go_wp2_with (first
    | (go_at_call 8; (with_reducible refine (C1.out p F _ _ (stI HV5.out.i1) (by omega) (by have := HTB.out; omega)).mono ?_); rintro e w6 ⟨rfl, hb⟩; have HV6 := Lib.hid (HV5.out.up hb); clear hb; clear c0 c1 c2 c3 c4; obtain ⟨c0, c1, c2, c3, c4⟩ := box5 HV6.out.i0; clear x0 x1 x2 x3 x4 x5; obtain ⟨x0, x1, x2, x3, x4, x5⟩ := box6 HV6.out.i2)
    | (go_at_call 8; (with_reducible refine (C0.out p F _ (stI HV4.out.i1)).mono ?_); rintro e w5 ⟨rfl, hb⟩; have HV5 := Lib.hid (HV4.out.up hb); clear hb; clear c0 c1 c2 c3 c4; obtain ⟨c0, c1, c2, c3, c4⟩ := box5 HV5.out.i0; clear x0 x1 x2 x3 x4 x5; obtain ⟨x0, x1, x2, x3, x4, x5⟩ := box6 HV5.out.i2)
    | (go_at_call 7; (with_reducible refine (CT0.out p F _ (stI HV3.out.i1)).mono ?_); rintro e w4 ⟨rfl, hb⟩; have HV4 := Lib.hid (HV3.out.up hb); clear hb; clear c0 c1 c2 c3 c4; obtain ⟨c0, c1, c2, c3, c4⟩ := box5 HV4.out.i0; clear x0 x1 x2 x3 x4 x5; obtain ⟨x0, x1, x2, x3, x4, x5⟩ := box6 HV4.out.i2)
    | (go_at_call 6; (with_reducible refine (FD.out _ (HQ.out.up HV1.out.below)).mono ?_); rintro e w2 ⟨p, F, rfl, hv⟩; have HV2 := Lib.hid (HV1.out.join hv); simp only [List.cons_append, List.nil_append] at HV2; clear hv; have HV3 := Lib.hid (HV2.out.push (boxT w2.heap.size 24 #[.int .i64 c.bt, .int .i64 c.rw, .int .i64 c.wd, .int .i64 c.md, .int .u64 c.sd]) (Lw.below_alloc (Below.refl _ _) _) (heap_alloc_new w2 _) (fun k hk => Nat.le_of_eq hk.symm)); obtain ⟨c0, c1, c2, c3, c4⟩ := box5 HV3.out.i0; clear x0 x1 x2 x3 x4 x5; obtain ⟨x0, x1, x2, x3, x4, x5⟩ := box6 HV3.out.i2)
    | (go_at_call 5; (with_reducible refine (shown_any _).mono ?_); rintro e w1 ⟨rfl, hb⟩; have HV1 := Lib.hid (HBX.out.up hb); clear hb; obtain ⟨x0, x1, x2, x3, x4, x5⟩ := box6 HV1.out.i0))
  all_goals go_ret
  all_goals exact ⟨ret_bs (by first | rfl | (simp [*]; done)), HV6.out.below⟩
set_option maxRecDepth 100000 in
set_option maxHeartbeats 40000000 in
theorem rises_l (x : Cfg) (A : Option Addr) (n0 k0 : Nat) (qs : Ups) (a b : Int) (w : World) (hx : x.Ok) (hq : UpdV w A n0 k0 qs) (hT : 1 ≤ spV (anyC x 10 9) (stsOf (anyC x 10 9) (upsR (anyC x 10 9) 0 qs 0 60)) (anyC x 10 9).bt 0) (T0 : Int) (hT2 : spV (anyC x 10 9) (stsOf (anyC x 10 9) (upsR (anyC x 10 9) 0 qs 0 60)) (anyC x 10 9).bt 0 = T0) (V1 R1 K1 V2 R2 K2 : Int) (a1 : bits .and .i64 a 4611686018427387903 = V1) (a2 : Int.tmod V1 T0 = R1) (a3 : IntKind.i64.wrap R1 = R1) (a4 : wrap64 R1 = R1) (a5 : wrap64 (1 + R1) = K1) (a6 : IntKind.i64.wrap (1 + R1) = K1) (a7 : 1 ≤ K1) (a8 : K1 ≤ T0) (b1 : bits .and .i64 b 4611686018427387903 = V2) (b2 : Int.tmod V2 T0 = R2) (b3 : IntKind.i64.wrap R2 = R2) (b4 : wrap64 R2 = R2) (b5 : wrap64 (1 + R2) = K2) (b6 : IntKind.i64.wrap (1 + R2) = K2) (b7 : 1 ≤ K2) (b8 : K2 ≤ T0) (hKK : K1 < K2) :
    Calls Try.prog 3 #[.agg #[.int .i64 x.bt, .int .i64 x.rw, .int .i64 x.wd, .int .i64 x.md, .int .u64 x.sd, .slice A n0 k0], .int .i64 a, .int .i64 b] w fun e w' => e = .returned (.bool true) ∧ Below w.heap.size w w' := by
  obtain ⟨c, hC⟩ : ∃ c, anyC x 10 9 = c := ⟨_, rfl⟩
  have hr := any_right x 10 9 (by omega) (by omega) (by omega) (by omega)
  have hco := any_ok x hx 10 9 (by omega) (by omega) (by omega) (by omega)
  have FD := Lib.hid (fun w hq => fed_z x A n0 k0 qs c w hx hq hC)
  rw [hC] at hr hco
  have hbt := hr.1
  have hbt2 := hr.2.1
  have hkeys : 1 ≤ keys c 0 := keys_pos.2 ⟨hr, by omega, by omega⟩
  have hul := upsR_len c 0 qs 0 60
  have hui := upsR_in hkeys qs 0 60
  obtain ⟨us, hus⟩ : ∃ us, upsR c 0 qs 0 60 = us := ⟨_, rfl⟩
  rw [hus] at FD hul hui
  rw [hC, hus] at hT hT2
  have etop := has_all hr us
  have htb := ptU_bd hr hui hul (L := c.bt.toNat) (i := 0) (Nat.le_refl _) (by rw [Nat.sub_self]; decide)
  have CT0 := Lib.hid (fun p F w hs => cs_total p F c (stsOf c us) w hs)
  have htb1 : -65970697666560 ≤ ptU c us c.bt.toNat 0 := htb.1
  have htb2 : ptU c us c.bt.toNat 0 ≤ 65970697666560 := htb.2
  obtain ⟨TV, hTV⟩ : ∃ v, ptU c us c.bt.toNat 0 = v := ⟨_, rfl⟩
  rw [etop, hTV] at CT0
  rw [hTV] at htb1 htb2
  rw [etop, hTV] at hT hT2
  subst hT2
  have C1 : Hid (∀ (p : Addr) (F : Nat → Prop) (k : Int) (w : World), ST w p F c (stsOf c us) → TV < k → k ≤ 9223372036854775807 → Calls Try.prog 8 #[.pointer (some p), .int .i64 k] w fun e w' => e = .returned (.tuple #[.int .u64 0, .int .i64 6]) ∧ Below w.heap.size w w') := Lib.hid (fun p F k w hs k1 k2 => by
    have h := qn_quant p F c (stsOf c us) k w hs (by omega) (by omega)
    have q1 := qn_rank (c := c) (pt := (fun L i => spV c (stsOf c us) (L : Int) i)) (k := k) (.inr (by show ptU c us c.bt.toNat 0 < k; omega))
    rw [q1.1, q1.2.2] at h
    exact h)
  have q0 := qn_rank (c := c) (pt := (fun L i => spV c (stsOf c us) (L : Int) i)) (k := 0) (.inl (by omega))
  have C0 := Lib.hid (fun p F w hs => qn_quant p F c (stsOf c us) 0 w hs (by omega) (by omega))
  rw [q0.1, q0.2.2] at C0
  have hl1 : ¬ TV < 1 := by omega
  have hT0 : ¬ TV = 0 := by omega
  have hT9 : 0 < TV := by omega
  have hT8 : ¬ TV < 0 := by omega
  have hT7 : ¬ TV ≤ 0 := by omega
  have wT : wrap64 (TV + 1) = TV + 1 := IntWalk.wrap64_in _ ⟨by omega, by omega⟩
  have wT2 : IntKind.i64.wrap (TV + 1) = TV + 1 := IntWalk.i64_in _ ⟨by omega, by omega⟩
  obtain ⟨l1, w1, p1, u1⟩ := way_fed hr hui hul (k := K1) (by omega) (by rw [hTV]; omega)
  obtain ⟨l2, w2, p2, u2⟩ := way_fed hr hui hul (k := K2) (by omega) (by rw [hTV]; omega)
  have hkk := keys_bd c 0
  have q2 := qn_yes (c := c) (pt := (fun L i => spV c (stsOf c us) (L : Int) i)) (k := K1) (by omega) (by show K1 ≤ ptU c us c.bt.toNat 0; omega) w1
  have q3 := qn_yes (c := c) (pt := (fun L i => spV c (stsOf c us) (L : Int) i)) (k := K2) (by omega) (by show K2 ≤ ptU c us c.bt.toNat 0; omega) w2
  have CA := Lib.hid (fun p F w hs => qn_quant p F c (stsOf c us) K1 w hs (by omega) (by omega))
  rw [q2.1, q2.2.2] at CA
  have CB := Lib.hid (fun p F w hs => qn_quant p F c (stsOf c us) K2 w hs (by omega) (by omega))
  rw [q3.1, q3.2.2] at CB
  have hri : ((keyQ l1 : Nat) : Int) ≤ ((keyQ l2 : Nat) : Int) := by have := way_rises w1 w2 (by omega); omega
  obtain ⟨X1, hX1⟩ : ∃ v, ((keyQ l1 : Nat) : Int) = v := ⟨_, rfl⟩
  obtain ⟨X2, hX2⟩ : ∃ v, ((keyQ l2 : Nat) : Int) = v := ⟨_, rfl⟩
  rw [hX1] at CA hri
  rw [hX2] at CB hri
  have dri : decide (X1 ≤ X2) = true := decide_eq_true hri
  have z1 : ¬ K2 < K1 := by omega
  have z2 : K1 ≤ K2 := by omega
  have z3 : ¬ K2 ≤ K1 := by omega
  have z4 : K1 < K2 := by omega
  obtain ⟨Z, hZ⟩ : ∃ Z, stsOf c us = Z := ⟨_, rfl⟩
  rw [hZ] at FD CT0 C0 C1 CA CB
  have HQ := Lib.hid hq
  have HTB := Lib.hid htb2
  have HBX : Hid (Have w (w.alloc (.cells #[.int .i64 x.bt, .int .i64 x.rw, .int .i64 x.wd, .int .i64 x.md, .int .u64 x.sd, .slice A n0 k0] 27)) [boxT w.heap.size 27 #[.int .i64 x.bt, .int .i64 x.rw, .int .i64 x.wd, .int .i64 x.md, .int .u64 x.sd, .slice A n0 k0]]) := Lib.hid (box_new w _ _)
  clear hr hco hC hbt hbt2 hkeys hul hui hus etop htb htb1 htb2 hTV hT q0 hZ hq hx q2 q3 w1 w2 p1 p2 u1 u2 hkk hX1 hX2 a7 a8 b7 b8 hri hKK
  go_enter Try.func3, Try.ntmps3
  go_wp2_with (first
    | (go_at_call 8; (with_reducible refine (CB.out p F _ (stI HV7.out.i1)).mono ?_); rintro e w8 ⟨rfl, hb⟩; have HV8 := Lib.hid (HV7.out.up hb); clear hb; clear c0 c1 c2 c3 c4; obtain ⟨c0, c1, c2, c3, c4⟩ := box5 HV8.out.i0; clear x0 x1 x2 x3 x4 x5; obtain ⟨x0, x1, x2, x3, x4, x5⟩ := box6 HV8.out.i2)
    | (go_at_call 8; (with_reducible refine (CA.out p F _ (stI HV6.out.i1)).mono ?_); rintro e w7 ⟨rfl, hb⟩; have HV7 := Lib.hid (HV6.out.up hb); clear hb; clear c0 c1 c2 c3 c4; obtain ⟨c0, c1, c2, c3, c4⟩ := box5 HV7.out.i0; clear x0 x1 x2 x3 x4 x5; obtain ⟨x0, x1, x2, x3, x4, x5⟩ := box6 HV7.out.i2)
    | (go_at_call 8; (with_reducible refine (C1.out p F _ _ (stI HV5.out.i1) (by omega) (by have := HTB.out; omega)).mono ?_); rintro e w6 ⟨rfl, hb⟩; have HV6 := Lib.hid (HV5.out.up hb); clear hb; clear c0 c1 c2 c3 c4; obtain ⟨c0, c1, c2, c3, c4⟩ := box5 HV6.out.i0; clear x0 x1 x2 x3 x4 x5; obtain ⟨x0, x1, x2, x3, x4, x5⟩ := box6 HV6.out.i2)
    | (go_at_call 8; (with_reducible refine (C0.out p F _ (stI HV4.out.i1)).mono ?_); rintro e w5 ⟨rfl, hb⟩; have HV5 := Lib.hid (HV4.out.up hb); clear hb; clear c0 c1 c2 c3 c4; obtain ⟨c0, c1, c2, c3, c4⟩ := box5 HV5.out.i0; clear x0 x1 x2 x3 x4 x5; obtain ⟨x0, x1, x2, x3, x4, x5⟩ := box6 HV5.out.i2)
    | (go_at_call 7; (with_reducible refine (CT0.out p F _ (stI HV3.out.i1)).mono ?_); rintro e w4 ⟨rfl, hb⟩; have HV4 := Lib.hid (HV3.out.up hb); clear hb; clear c0 c1 c2 c3 c4; obtain ⟨c0, c1, c2, c3, c4⟩ := box5 HV4.out.i0; clear x0 x1 x2 x3 x4 x5; obtain ⟨x0, x1, x2, x3, x4, x5⟩ := box6 HV4.out.i2)
    | (go_at_call 6; (with_reducible refine (FD.out _ (HQ.out.up HV1.out.below)).mono ?_); rintro e w2 ⟨p, F, rfl, hv⟩; have HV2 := Lib.hid (HV1.out.join hv); simp only [List.cons_append, List.nil_append] at HV2; clear hv; have HV3 := Lib.hid (HV2.out.push (boxT w2.heap.size 24 #[.int .i64 c.bt, .int .i64 c.rw, .int .i64 c.wd, .int .i64 c.md, .int .u64 c.sd]) (Lw.below_alloc (Below.refl _ _) _) (heap_alloc_new w2 _) (fun k hk => Nat.le_of_eq hk.symm)); obtain ⟨c0, c1, c2, c3, c4⟩ := box5 HV3.out.i0; clear x0 x1 x2 x3 x4 x5; obtain ⟨x0, x1, x2, x3, x4, x5⟩ := box6 HV3.out.i2)
    | (go_at_call 5; (with_reducible refine (shown_any _).mono ?_); rintro e w1 ⟨rfl, hb⟩; have HV1 := Lib.hid (HBX.out.up hb); clear hb; obtain ⟨x0, x1, x2, x3, x4, x5⟩ := box6 HV1.out.i0))
  all_goals go_ret
  all_goals exact ⟨ret_bs (by first | rfl | (simp [*]; done)), HV8.out.below⟩
set_option maxRecDepth 100000 in
set_option maxHeartbeats 40000000 in
theorem rises_g (x : Cfg) (A : Option Addr) (n0 k0 : Nat) (qs : Ups) (a b : Int) (w : World) (hx : x.Ok) (hq : UpdV w A n0 k0 qs) (hT : 1 ≤ spV (anyC x 10 9) (stsOf (anyC x 10 9) (upsR (anyC x 10 9) 0 qs 0 60)) (anyC x 10 9).bt 0) (T0 : Int) (hT2 : spV (anyC x 10 9) (stsOf (anyC x 10 9) (upsR (anyC x 10 9) 0 qs 0 60)) (anyC x 10 9).bt 0 = T0) (V1 R1 K1 V2 R2 K2 : Int) (a1 : bits .and .i64 a 4611686018427387903 = V1) (a2 : Int.tmod V1 T0 = R1) (a3 : IntKind.i64.wrap R1 = R1) (a4 : wrap64 R1 = R1) (a5 : wrap64 (1 + R1) = K1) (a6 : IntKind.i64.wrap (1 + R1) = K1) (a7 : 1 ≤ K1) (a8 : K1 ≤ T0) (b1 : bits .and .i64 b 4611686018427387903 = V2) (b2 : Int.tmod V2 T0 = R2) (b3 : IntKind.i64.wrap R2 = R2) (b4 : wrap64 R2 = R2) (b5 : wrap64 (1 + R2) = K2) (b6 : IntKind.i64.wrap (1 + R2) = K2) (b7 : 1 ≤ K2) (b8 : K2 ≤ T0) (hKK : K2 < K1) :
    Calls Try.prog 3 #[.agg #[.int .i64 x.bt, .int .i64 x.rw, .int .i64 x.wd, .int .i64 x.md, .int .u64 x.sd, .slice A n0 k0], .int .i64 a, .int .i64 b] w fun e w' => e = .returned (.bool true) ∧ Below w.heap.size w w' := by
  obtain ⟨c, hC⟩ : ∃ c, anyC x 10 9 = c := ⟨_, rfl⟩
  have hr := any_right x 10 9 (by omega) (by omega) (by omega) (by omega)
  have hco := any_ok x hx 10 9 (by omega) (by omega) (by omega) (by omega)
  have FD := Lib.hid (fun w hq => fed_z x A n0 k0 qs c w hx hq hC)
  rw [hC] at hr hco
  have hbt := hr.1
  have hbt2 := hr.2.1
  have hkeys : 1 ≤ keys c 0 := keys_pos.2 ⟨hr, by omega, by omega⟩
  have hul := upsR_len c 0 qs 0 60
  have hui := upsR_in hkeys qs 0 60
  obtain ⟨us, hus⟩ : ∃ us, upsR c 0 qs 0 60 = us := ⟨_, rfl⟩
  rw [hus] at FD hul hui
  rw [hC, hus] at hT hT2
  have etop := has_all hr us
  have htb := ptU_bd hr hui hul (L := c.bt.toNat) (i := 0) (Nat.le_refl _) (by rw [Nat.sub_self]; decide)
  have CT0 := Lib.hid (fun p F w hs => cs_total p F c (stsOf c us) w hs)
  have htb1 : -65970697666560 ≤ ptU c us c.bt.toNat 0 := htb.1
  have htb2 : ptU c us c.bt.toNat 0 ≤ 65970697666560 := htb.2
  obtain ⟨TV, hTV⟩ : ∃ v, ptU c us c.bt.toNat 0 = v := ⟨_, rfl⟩
  rw [etop, hTV] at CT0
  rw [hTV] at htb1 htb2
  rw [etop, hTV] at hT hT2
  subst hT2
  have C1 : Hid (∀ (p : Addr) (F : Nat → Prop) (k : Int) (w : World), ST w p F c (stsOf c us) → TV < k → k ≤ 9223372036854775807 → Calls Try.prog 8 #[.pointer (some p), .int .i64 k] w fun e w' => e = .returned (.tuple #[.int .u64 0, .int .i64 6]) ∧ Below w.heap.size w w') := Lib.hid (fun p F k w hs k1 k2 => by
    have h := qn_quant p F c (stsOf c us) k w hs (by omega) (by omega)
    have q1 := qn_rank (c := c) (pt := (fun L i => spV c (stsOf c us) (L : Int) i)) (k := k) (.inr (by show ptU c us c.bt.toNat 0 < k; omega))
    rw [q1.1, q1.2.2] at h
    exact h)
  have q0 := qn_rank (c := c) (pt := (fun L i => spV c (stsOf c us) (L : Int) i)) (k := 0) (.inl (by omega))
  have C0 := Lib.hid (fun p F w hs => qn_quant p F c (stsOf c us) 0 w hs (by omega) (by omega))
  rw [q0.1, q0.2.2] at C0
  have hl1 : ¬ TV < 1 := by omega
  have hT0 : ¬ TV = 0 := by omega
  have hT9 : 0 < TV := by omega
  have hT8 : ¬ TV < 0 := by omega
  have hT7 : ¬ TV ≤ 0 := by omega
  have wT : wrap64 (TV + 1) = TV + 1 := IntWalk.wrap64_in _ ⟨by omega, by omega⟩
  have wT2 : IntKind.i64.wrap (TV + 1) = TV + 1 := IntWalk.i64_in _ ⟨by omega, by omega⟩
  obtain ⟨l1, w1, p1, u1⟩ := way_fed hr hui hul (k := K2) (by omega) (by rw [hTV]; omega)
  obtain ⟨l2, w2, p2, u2⟩ := way_fed hr hui hul (k := K1) (by omega) (by rw [hTV]; omega)
  have hkk := keys_bd c 0
  have q2 := qn_yes (c := c) (pt := (fun L i => spV c (stsOf c us) (L : Int) i)) (k := K2) (by omega) (by show K2 ≤ ptU c us c.bt.toNat 0; omega) w1
  have q3 := qn_yes (c := c) (pt := (fun L i => spV c (stsOf c us) (L : Int) i)) (k := K1) (by omega) (by show K1 ≤ ptU c us c.bt.toNat 0; omega) w2
  have CA := Lib.hid (fun p F w hs => qn_quant p F c (stsOf c us) K2 w hs (by omega) (by omega))
  rw [q2.1, q2.2.2] at CA
  have CB := Lib.hid (fun p F w hs => qn_quant p F c (stsOf c us) K1 w hs (by omega) (by omega))
  rw [q3.1, q3.2.2] at CB
  have hri : ((keyQ l1 : Nat) : Int) ≤ ((keyQ l2 : Nat) : Int) := by have := way_rises w1 w2 (by omega); omega
  obtain ⟨X1, hX1⟩ : ∃ v, ((keyQ l1 : Nat) : Int) = v := ⟨_, rfl⟩
  obtain ⟨X2, hX2⟩ : ∃ v, ((keyQ l2 : Nat) : Int) = v := ⟨_, rfl⟩
  rw [hX1] at CA hri
  rw [hX2] at CB hri
  have dri : decide (X1 ≤ X2) = true := decide_eq_true hri
  have z1 : ¬ K1 < K2 := by omega
  have z2 : K2 ≤ K1 := by omega
  have z3 : ¬ K1 ≤ K2 := by omega
  have z4 : K2 < K1 := by omega
  obtain ⟨Z, hZ⟩ : ∃ Z, stsOf c us = Z := ⟨_, rfl⟩
  rw [hZ] at FD CT0 C0 C1 CA CB
  have HQ := Lib.hid hq
  have HTB := Lib.hid htb2
  have HBX : Hid (Have w (w.alloc (.cells #[.int .i64 x.bt, .int .i64 x.rw, .int .i64 x.wd, .int .i64 x.md, .int .u64 x.sd, .slice A n0 k0] 27)) [boxT w.heap.size 27 #[.int .i64 x.bt, .int .i64 x.rw, .int .i64 x.wd, .int .i64 x.md, .int .u64 x.sd, .slice A n0 k0]]) := Lib.hid (box_new w _ _)
  clear hr hco hC hbt hbt2 hkeys hul hui hus etop htb htb1 htb2 hTV hT q0 hZ hq hx q2 q3 w1 w2 p1 p2 u1 u2 hkk hX1 hX2 a7 a8 b7 b8 hri hKK
  go_enter Try.func3, Try.ntmps3
  go_wp2_with (first
    | (go_at_call 8; (with_reducible refine (CB.out p F _ (stI HV7.out.i1)).mono ?_); rintro e w8 ⟨rfl, hb⟩; have HV8 := Lib.hid (HV7.out.up hb); clear hb; clear c0 c1 c2 c3 c4; obtain ⟨c0, c1, c2, c3, c4⟩ := box5 HV8.out.i0; clear x0 x1 x2 x3 x4 x5; obtain ⟨x0, x1, x2, x3, x4, x5⟩ := box6 HV8.out.i2)
    | (go_at_call 8; (with_reducible refine (CA.out p F _ (stI HV6.out.i1)).mono ?_); rintro e w7 ⟨rfl, hb⟩; have HV7 := Lib.hid (HV6.out.up hb); clear hb; clear c0 c1 c2 c3 c4; obtain ⟨c0, c1, c2, c3, c4⟩ := box5 HV7.out.i0; clear x0 x1 x2 x3 x4 x5; obtain ⟨x0, x1, x2, x3, x4, x5⟩ := box6 HV7.out.i2)
    | (go_at_call 8; (with_reducible refine (C1.out p F _ _ (stI HV5.out.i1) (by omega) (by have := HTB.out; omega)).mono ?_); rintro e w6 ⟨rfl, hb⟩; have HV6 := Lib.hid (HV5.out.up hb); clear hb; clear c0 c1 c2 c3 c4; obtain ⟨c0, c1, c2, c3, c4⟩ := box5 HV6.out.i0; clear x0 x1 x2 x3 x4 x5; obtain ⟨x0, x1, x2, x3, x4, x5⟩ := box6 HV6.out.i2)
    | (go_at_call 8; (with_reducible refine (C0.out p F _ (stI HV4.out.i1)).mono ?_); rintro e w5 ⟨rfl, hb⟩; have HV5 := Lib.hid (HV4.out.up hb); clear hb; clear c0 c1 c2 c3 c4; obtain ⟨c0, c1, c2, c3, c4⟩ := box5 HV5.out.i0; clear x0 x1 x2 x3 x4 x5; obtain ⟨x0, x1, x2, x3, x4, x5⟩ := box6 HV5.out.i2)
    | (go_at_call 7; (with_reducible refine (CT0.out p F _ (stI HV3.out.i1)).mono ?_); rintro e w4 ⟨rfl, hb⟩; have HV4 := Lib.hid (HV3.out.up hb); clear hb; clear c0 c1 c2 c3 c4; obtain ⟨c0, c1, c2, c3, c4⟩ := box5 HV4.out.i0; clear x0 x1 x2 x3 x4 x5; obtain ⟨x0, x1, x2, x3, x4, x5⟩ := box6 HV4.out.i2)
    | (go_at_call 6; (with_reducible refine (FD.out _ (HQ.out.up HV1.out.below)).mono ?_); rintro e w2 ⟨p, F, rfl, hv⟩; have HV2 := Lib.hid (HV1.out.join hv); simp only [List.cons_append, List.nil_append] at HV2; clear hv; have HV3 := Lib.hid (HV2.out.push (boxT w2.heap.size 24 #[.int .i64 c.bt, .int .i64 c.rw, .int .i64 c.wd, .int .i64 c.md, .int .u64 c.sd]) (Lw.below_alloc (Below.refl _ _) _) (heap_alloc_new w2 _) (fun k hk => Nat.le_of_eq hk.symm)); obtain ⟨c0, c1, c2, c3, c4⟩ := box5 HV3.out.i0; clear x0 x1 x2 x3 x4 x5; obtain ⟨x0, x1, x2, x3, x4, x5⟩ := box6 HV3.out.i2)
    | (go_at_call 5; (with_reducible refine (shown_any _).mono ?_); rintro e w1 ⟨rfl, hb⟩; have HV1 := Lib.hid (HBX.out.up hb); clear hb; obtain ⟨x0, x1, x2, x3, x4, x5⟩ := box6 HV1.out.i0))
  all_goals go_ret
  all_goals exact ⟨ret_bs (by first | rfl | (simp [*]; done)), HV8.out.below⟩
set_option maxRecDepth 100000 in
set_option maxHeartbeats 40000000 in
theorem rises_e (x : Cfg) (A : Option Addr) (n0 k0 : Nat) (qs : Ups) (a b : Int) (w : World) (hx : x.Ok) (hq : UpdV w A n0 k0 qs) (hT : 1 ≤ spV (anyC x 10 9) (stsOf (anyC x 10 9) (upsR (anyC x 10 9) 0 qs 0 60)) (anyC x 10 9).bt 0) (T0 : Int) (hT2 : spV (anyC x 10 9) (stsOf (anyC x 10 9) (upsR (anyC x 10 9) 0 qs 0 60)) (anyC x 10 9).bt 0 = T0) (V1 R1 K1 V2 R2 : Int) (a1 : bits .and .i64 a 4611686018427387903 = V1) (a2 : Int.tmod V1 T0 = R1) (a3 : IntKind.i64.wrap R1 = R1) (a4 : wrap64 R1 = R1) (a5 : wrap64 (1 + R1) = K1) (a6 : IntKind.i64.wrap (1 + R1) = K1) (a7 : 1 ≤ K1) (a8 : K1 ≤ T0) (b1 : bits .and .i64 b 4611686018427387903 = V2) (b2 : Int.tmod V2 T0 = R2) (b3 : IntKind.i64.wrap R2 = R2) (b4 : wrap64 R2 = R2) (b5 : wrap64 (1 + R2) = K1) (b6 : IntKind.i64.wrap (1 + R2) = K1) (b7 : 1 ≤ K1) (b8 : K1 ≤ T0) :
    Calls Try.prog 3 #[.agg #[.int .i64 x.bt, .int .i64 x.rw, .int .i64 x.wd, .int .i64 x.md, .int .u64 x.sd, .slice A n0 k0], .int .i64 a, .int .i64 b] w fun e w' => e = .returned (.bool true) ∧ Below w.heap.size w w' := by
  obtain ⟨c, hC⟩ : ∃ c, anyC x 10 9 = c := ⟨_, rfl⟩
  have hr := any_right x 10 9 (by omega) (by omega) (by omega) (by omega)
  have hco := any_ok x hx 10 9 (by omega) (by omega) (by omega) (by omega)
  have FD := Lib.hid (fun w hq => fed_z x A n0 k0 qs c w hx hq hC)
  rw [hC] at hr hco
  have hbt := hr.1
  have hbt2 := hr.2.1
  have hkeys : 1 ≤ keys c 0 := keys_pos.2 ⟨hr, by omega, by omega⟩
  have hul := upsR_len c 0 qs 0 60
  have hui := upsR_in hkeys qs 0 60
  obtain ⟨us, hus⟩ : ∃ us, upsR c 0 qs 0 60 = us := ⟨_, rfl⟩
  rw [hus] at FD hul hui
  rw [hC, hus] at hT hT2
  have etop := has_all hr us
  have htb := ptU_bd hr hui hul (L := c.bt.toNat) (i := 0) (Nat.le_refl _) (by rw [Nat.sub_self]; decide)
  have CT0 := Lib.hid (fun p F w hs => cs_total p F c (stsOf c us) w hs)
  have htb1 : -65970697666560 ≤ ptU c us c.bt.toNat 0 := htb.1
  have htb2 : ptU c us c.bt.toNat 0 ≤ 65970697666560 := htb.2
  obtain ⟨TV, hTV⟩ : ∃ v, ptU c us c.bt.toNat 0 = v := ⟨_, rfl⟩
  rw [etop, hTV] at CT0
  rw [hTV] at htb1 htb2
  rw [etop, hTV] at hT hT2
  subst hT2
  have C1 : Hid (∀ (p : Addr) (F : Nat → Prop) (k : Int) (w : World), ST w p F c (stsOf c us) → TV < k → k ≤ 9223372036854775807 → Calls Try.prog 8 #[.pointer (some p), .int .i64 k] w fun e w' => e = .returned (.tuple #[.int .u64 0, .int .i64 6]) ∧ Below w.heap.size w w') := Lib.hid (fun p F k w hs k1 k2 => by
    have h := qn_quant p F c (stsOf c us) k w hs (by omega) (by omega)
    have q1 := qn_rank (c := c) (pt := (fun L i => spV c (stsOf c us) (L : Int) i)) (k := k) (.inr (by show ptU c us c.bt.toNat 0 < k; omega))
    rw [q1.1, q1.2.2] at h
    exact h)
  have q0 := qn_rank (c := c) (pt := (fun L i => spV c (stsOf c us) (L : Int) i)) (k := 0) (.inl (by omega))
  have C0 := Lib.hid (fun p F w hs => qn_quant p F c (stsOf c us) 0 w hs (by omega) (by omega))
  rw [q0.1, q0.2.2] at C0
  have hl1 : ¬ TV < 1 := by omega
  have hT0 : ¬ TV = 0 := by omega
  have hT9 : 0 < TV := by omega
  have hT8 : ¬ TV < 0 := by omega
  have hT7 : ¬ TV ≤ 0 := by omega
  have wT : wrap64 (TV + 1) = TV + 1 := IntWalk.wrap64_in _ ⟨by omega, by omega⟩
  have wT2 : IntKind.i64.wrap (TV + 1) = TV + 1 := IntWalk.i64_in _ ⟨by omega, by omega⟩
  obtain ⟨l1, w1, p1, u1⟩ := way_fed hr hui hul (k := K1) (by omega) (by rw [hTV]; omega)
  obtain ⟨l2, w2, p2, u2⟩ := way_fed hr hui hul (k := K1) (by omega) (by rw [hTV]; omega)
  have hkk := keys_bd c 0
  have q2 := qn_yes (c := c) (pt := (fun L i => spV c (stsOf c us) (L : Int) i)) (k := K1) (by omega) (by show K1 ≤ ptU c us c.bt.toNat 0; omega) w1
  have q3 := qn_yes (c := c) (pt := (fun L i => spV c (stsOf c us) (L : Int) i)) (k := K1) (by omega) (by show K1 ≤ ptU c us c.bt.toNat 0; omega) w2
  have CA := Lib.hid (fun p F w hs => qn_quant p F c (stsOf c us) K1 w hs (by omega) (by omega))
  rw [q2.1, q2.2.2] at CA
  have CB := Lib.hid (fun p F w hs => qn_quant p F c (stsOf c us) K1 w hs (by omega) (by omega))
  rw [q3.1, q3.2.2] at CB
  have hri : ((keyQ l1 : Nat) : Int) ≤ ((keyQ l2 : Nat) : Int) := by have := way_rises w1 w2 (Int.le_refl _); omega
  obtain ⟨X1, hX1⟩ : ∃ v, ((keyQ l1 : Nat) : Int) = v := ⟨_, rfl⟩
  obtain ⟨X2, hX2⟩ : ∃ v, ((keyQ l2 : Nat) : Int) = v := ⟨_, rfl⟩
  rw [hX1] at CA hri
  rw [hX2] at CB hri
  have dri : decide (X1 ≤ X2) = true := decide_eq_true hri
  obtain ⟨Z, hZ⟩ : ∃ Z, stsOf c us = Z := ⟨_, rfl⟩
  rw [hZ] at FD CT0 C0 C1 CA CB
  have HQ := Lib.hid hq
  have HTB := Lib.hid htb2
  have HBX : Hid (Have w (w.alloc (.cells #[.int .i64 x.bt, .int .i64 x.rw, .int .i64 x.wd, .int .i64 x.md, .int .u64 x.sd, .slice A n0 k0] 27)) [boxT w.heap.size 27 #[.int .i64 x.bt, .int .i64 x.rw, .int .i64 x.wd, .int .i64 x.md, .int .u64 x.sd, .slice A n0 k0]]) := Lib.hid (box_new w _ _)
  clear hr hco hC hbt hbt2 hkeys hul hui hus etop htb htb1 htb2 hTV hT q0 hZ hq hx q2 q3 w1 w2 p1 p2 u1 u2 hkk hX1 hX2 a7 a8 b7 b8 hri
  go_enter Try.func3, Try.ntmps3
  go_wp2_with (first
    | (go_at_call 8; (with_reducible refine (CB.out p F _ (stI HV7.out.i1)).mono ?_); rintro e w8 ⟨rfl, hb⟩; have HV8 := Lib.hid (HV7.out.up hb); clear hb; clear c0 c1 c2 c3 c4; obtain ⟨c0, c1, c2, c3, c4⟩ := box5 HV8.out.i0; clear x0 x1 x2 x3 x4 x5; obtain ⟨x0, x1, x2, x3, x4, x5⟩ := box6 HV8.out.i2)
    | (go_at_call 8; (with_reducible refine (CA.out p F _ (stI HV6.out.i1)).mono ?_); rintro e w7 ⟨rfl, hb⟩; have HV7 := Lib.hid (HV6.out.up hb); clear hb; clear c0 c1 c2 c3 c4; obtain ⟨c0, c1, c2, c3, c4⟩ := box5 HV7.out.i0; clear x0 x1 x2 x3 x4 x5; obtain ⟨x0, x1, x2, x3, x4, x5⟩ := box6 HV7.out.i2)
    | (go_at_call 8; (with_reducible refine (C1.out p F _ _ (stI HV5.out.i1) (by omega) (by have := HTB.out; omega)).mono ?_); rintro e w6 ⟨rfl, hb⟩; have HV6 := Lib.hid (HV5.out.up hb); clear hb; clear c0 c1 c2 c3 c4; obtain ⟨c0, c1, c2, c3, c4⟩ := box5 HV6.out.i0; clear x0 x1 x2 x3 x4 x5; obtain ⟨x0, x1, x2, x3, x4, x5⟩ := box6 HV6.out.i2)
    | (go_at_call 8; (with_reducible refine (C0.out p F _ (stI HV4.out.i1)).mono ?_); rintro e w5 ⟨rfl, hb⟩; have HV5 := Lib.hid (HV4.out.up hb); clear hb; clear c0 c1 c2 c3 c4; obtain ⟨c0, c1, c2, c3, c4⟩ := box5 HV5.out.i0; clear x0 x1 x2 x3 x4 x5; obtain ⟨x0, x1, x2, x3, x4, x5⟩ := box6 HV5.out.i2)
    | (go_at_call 7; (with_reducible refine (CT0.out p F _ (stI HV3.out.i1)).mono ?_); rintro e w4 ⟨rfl, hb⟩; have HV4 := Lib.hid (HV3.out.up hb); clear hb; clear c0 c1 c2 c3 c4; obtain ⟨c0, c1, c2, c3, c4⟩ := box5 HV4.out.i0; clear x0 x1 x2 x3 x4 x5; obtain ⟨x0, x1, x2, x3, x4, x5⟩ := box6 HV4.out.i2)
    | (go_at_call 6; (with_reducible refine (FD.out _ (HQ.out.up HV1.out.below)).mono ?_); rintro e w2 ⟨p, F, rfl, hv⟩; have HV2 := Lib.hid (HV1.out.join hv); simp only [List.cons_append, List.nil_append] at HV2; clear hv; have HV3 := Lib.hid (HV2.out.push (boxT w2.heap.size 24 #[.int .i64 c.bt, .int .i64 c.rw, .int .i64 c.wd, .int .i64 c.md, .int .u64 c.sd]) (Lw.below_alloc (Below.refl _ _) _) (heap_alloc_new w2 _) (fun k hk => Nat.le_of_eq hk.symm)); obtain ⟨c0, c1, c2, c3, c4⟩ := box5 HV3.out.i0; clear x0 x1 x2 x3 x4 x5; obtain ⟨x0, x1, x2, x3, x4, x5⟩ := box6 HV3.out.i2)
    | (go_at_call 5; (with_reducible refine (shown_any _).mono ?_); rintro e w1 ⟨rfl, hb⟩; have HV1 := Lib.hid (HBX.out.up hb); clear hb; obtain ⟨x0, x1, x2, x3, x4, x5⟩ := box6 HV1.out.i0))
  all_goals go_ret
  all_goals exact ⟨ret_bs (by first | rfl | (simp [*]; done)), HV8.out.below⟩
theorem rises_law (x : Cfg) (A : Option Addr) (n0 k0 : Nat) (qs : Ups) (a b : Int) (w : World) (hx : x.Ok) (hq : UpdV w A n0 k0 qs) :
    Calls Try.prog 3 #[.agg #[.int .i64 x.bt, .int .i64 x.rw, .int .i64 x.wd, .int .i64 x.md, .int .u64 x.sd, .slice A n0 k0], .int .i64 a, .int .i64 b] w fun e w' => e = .returned (.bool true) ∧ Below w.heap.size w w' := by
  have hr := any_right x 10 9 (by omega) (by omega) (by omega) (by omega)
  have hbt := hr.1
  have hkeys : 1 ≤ keys (anyC x 10 9) 0 := keys_pos.2 ⟨hr, by omega, by omega⟩
  have htb := ptU_bd hr (upsR_in hkeys qs 0 60) (upsR_len (anyC x 10 9) 0 qs 0 60) (L := (anyC x 10 9).bt.toNat) (i := 0) (Nat.le_refl _) (by rw [Nat.sub_self]; decide)
  have htb2 : spV (anyC x 10 9) (stsOf (anyC x 10 9) (upsR (anyC x 10 9) 0 qs 0 60)) (anyC x 10 9).bt 0 ≤ 65970697666560 := by rw [has_all hr]; exact htb.2
  by_cases hT : 1 ≤ spV (anyC x 10 9) (stsOf (anyC x 10 9) (upsR (anyC x 10 9) 0 qs 0 60)) (anyC x 10 9).bt 0
  · obtain ⟨V1, R1, K1, a1, a2, a3, a4, a5, a6, a7, a8⟩ := rank_cut a _ hT htb2
    obtain ⟨V2, R2, K2, b1, b2, b3, b4, b5, b6, b7, b8⟩ := rank_cut b _ hT htb2
    rcases Int.lt_trichotomy K1 K2 with h | h | h
    · exact rises_l x A n0 k0 qs a b w hx hq hT _ rfl V1 R1 K1 V2 R2 K2 a1 a2 a3 a4 a5 a6 a7 a8 b1 b2 b3 b4 b5 b6 b7 b8 h
    · subst h
      exact rises_e x A n0 k0 qs a b w hx hq hT _ rfl V1 R1 K1 V2 R2 a1 a2 a3 a4 a5 a6 a7 a8 b1 b2 b3 b4 b5 b6 b7 b8
    · exact rises_g x A n0 k0 qs a b w hx hq hT _ rfl V1 R1 K1 V2 R2 K2 a1 a2 a3 a4 a5 a6 a7 a8 b1 b2 b3 b4 b5 b6 b7 b8 h
  · exact rises_n x A n0 k0 qs a b w hx hq hT
namespace quantRises
open Go.ChangeShapes Go.WideShapes Go.ChangeAt Go.Joins
set_option maxRecDepth 100000 in
theorem lifted (os : Os) (started : os.Started) (H : Type) (enc : TypeId × Value → H) :
    ReturnsInHanded {} Try.checked os 3 .any (Rows.quantRisesSpec.pre6 enc Try.prog Try.f3 Rows.quantRisesRow.domain false) (Rows.quantRisesSpec.post enc Try.prog Try.f3 false true false false) := by
  refine Lw.lifted (C := Try.checked) (B := 4) (by kernel_rfl) os started (by kernel_rfl) Try.func3
    (ChangeSpec.witness6 (enc := enc) (C := Try.checked) false ⟨#[], #[.agg #[.int .i64 0, .int .i64 0, .int .i64 0, .int .i64 0, .int .u64 0, .slice none 0 0], .int .i64 0, .int .i64 0], []⟩ 8 (by kernel_rfl) (by kernel_rfl) (by kernel_rfl) (by kernel_rfl)) rfl Try.underlying4 (by kernel_rfl) (by kernel_rfl) (by kernel_rfl) ?_ ?_
  · intro ds h
    rw [Try.params3] at h
    match ds, h with
    | [_, _, _], _ => rfl
  · intro W base args ds p hval hA
    rw [Try.params3] at hA hval
    obtain ⟨v0, vs0, d0, ds0, p0, q0, hargs, rfl, rfl, h0, r0⟩ := trodAll_cons hA
    obtain ⟨v1, vs1, d1, ds1, p1, q1, rfl, rfl, rfl, h1, r1⟩ := trodAll_cons r0
    obtain ⟨v2, vs2, d2, ds2, p2, q2, rfl, rfl, rfl, h2, r2⟩ := trodAll_cons r1
    obtain ⟨rfl, rfl, rfl⟩ := trodAll_nil r2
    obtain rfl : args = #[v0, v1, v2] := by cases args; simp_all
    obtain ⟨x0, A0, n0, k0, qs0, rfl, hx0, hq0⟩ := open_playX (hval 0 27 v0 rfl rfl) h0
    obtain ⟨a1, rfl, rfl, rfl, w1⟩ := open_int Try.underlying2 (hval 1 2 v1 rfl rfl) h1
    have b1 := Lw.wf_i64 w1
    obtain ⟨a2, rfl, rfl, rfl, w2⟩ := open_int Try.underlying2 (hval 2 2 v2 rfl rfl) h2
    have b2 := Lw.wf_i64 w2
    exact rises_law x0 A0 n0 k0 qs0 a1 a2 W hx0 hq0
theorem over : Rows.quantRisesRow.holds Try.pinned (OpenSpec.ofChange Rows.quantRisesSpec) :=
  OpenClaim.holds_of_wide 3 Try.f3 rfl rfl rfl rfl rfl rfl rfl ⟨rfl, rfl, rfl, rfl, rfl⟩ rfl rfl rfl rfl rfl (by kernel_rfl) Try.func3 (by kernel_rfl)
    (of_decide_eq_true (by kernel_rfl)) (by unfold Func.isWrapper; first | (rw [if_pos (by decide +kernel)]; kernel_rfl) | (rw [if_neg (by decide +kernel)]; exact ⟨rfl, rfl⟩))
    (fun os started H enc _ => lifted os started H enc)
theorem proved : Rows.QuantRisesSaid :=
  over
#print axioms proved
end quantRises
end Go.Proofs.Ytiblpdjehknbcaa.Qnt
