/- The statement QuantWay of layer 17 holds. Printed by wip/gen/qnt4.py. -/
import Derived.Test.YtiblpdjehknbcaaMd
import Derived.Test.YtiblpdjehknbcaaMi
import Derived.Test.YtiblpdjehknbcaaMj
import Derived.Deep.LoopGhost
import Derived.Deep.RegionHeld3
import Derived.Deep.DeepCutAuto
import Derived.Deep.QuietTactic
import Derived.BigQuiet
namespace Go.Proofs.Ytiblpdjehknbcaa.Qnt
open Go Go.RowKit Lw Grd Lin Con Shp Sk Exa Lev Stk Pcs Spn
set_option linter.unusedVariables false
set_option linter.unusedSimpArgs false
set_option maxRecDepth 100000 in
set_option maxHeartbeats 40000000 in
theorem way_n (x : Cfg) (A : Option Addr) (n0 k0 : Nat) (qs : Ups) (a : Int) (w : World) (hx : x.Ok) (hq : UpdV w A n0 k0 qs) (hT : ¬ 1 ≤ spV (anyC x 10 9) (stsOf (anyC x 10 9) (upsR (anyC x 10 9) 0 qs 0 60)) (anyC x 10 9).bt 0) :
    Calls Try.prog 4 #[.agg #[.int .i64 x.bt, .int .i64 x.rw, .int .i64 x.wd, .int .i64 x.md, .int .u64 x.sd, .slice A n0 k0], .int .i64 a] w fun e w' => e = .returned (.bool true) ∧ Below w.heap.size w w' := by
  obtain ⟨c, hC⟩ : ∃ c, anyC x 10 9 = c := ⟨_, rfl⟩
  have hr := any_right x 10 9 (by omega) (by omega) (by omega) (by omega)
  have hco := any_ok x hx 10 9 (by omega) (by omega) (by omega) (by omega)
  have FD := Lib.hid (fun w hq => fed_z x A n0 k0 qs c w hx hq hC)
  rw [hC] at hr hco
  have hbt := hr.1
  have hbt2 := hr.2.1
  have hkeys : 1 ≤ keys c 0 := keys_pos.2 ⟨hr, by omega, by omega⟩
  have hul := upsR_len c 0 qs 0 60
  have hui := upsR_in hkeys qs 0 60
  obtain ⟨us, hus⟩ : ∃ us, upsR c 0 qs 0 60 = us := ⟨_, rfl⟩
  rw [hus] at FD hul hui
  rw [hC, hus] at hT
  have etop := has_all hr us
  have htb := ptU_bd hr hui hul (L := c.bt.toNat) (i := 0) (Nat.le_refl _) (by rw [Nat.sub_self]; decide)
  have CT0 := Lib.hid (fun p F w hs => cs_total p F c (stsOf c us) w hs)
  have htb1 : -65970697666560 ≤ ptU c us c.bt.toNat 0 := htb.1
  have htb2 : ptU c us c.bt.toNat 0 ≤ 65970697666560 := htb.2
  obtain ⟨TV, hTV⟩ : ∃ v, ptU c us c.bt.toNat 0 = v := ⟨_, rfl⟩
  rw [etop, hTV] at CT0
  rw [hTV] at htb1 htb2
  rw [etop, hTV] at hT
  have hl1 : TV < 1 := by omega
  obtain ⟨Z, hZ⟩ : ∃ Z, stsOf c us = Z := ⟨_, rfl⟩
  rw [hZ] at FD CT0
  have HQ := Lib.hid hq
  have HBX : Hid (Have w (w.alloc (.cells #[.int .i64 x.bt, .int .i64 x.rw, .int .i64 x.wd, .int .i64 x.md, .int .u64 x.sd, .slice A n0 k0] 27)) [boxT w.heap.size 27 #[.int .i64 x.bt, .int .i64 x.rw, .int .i64 x.wd, .int .i64 x.md, .int .u64 x.sd, .slice A n0 k0]]) := Lib.hid (box_new w _ _)
  clear hr hco hC hbt hbt2 hkeys hul hui hus etop htb htb1 htb2 hTV hT hZ hq hx
  go_enter Try.func4, Try.ntmps4
  go_wp2_with (first
    | (go_at_call 7; (with_reducible refine (CT0.out p F _ (stI HV3.out.i1)).mono ?_); rintro e w4 ⟨rfl, hb⟩; have HV4 := Lib.hid (HV3.out.up hb); clear hb; clear c0 c1 c2 c3 c4; obtain ⟨c0, c1, c2, c3, c4⟩ := box5 HV4.out.i0; clear x0 x1 x2 x3 x4 x5; obtain ⟨x0, x1, x2, x3, x4, x5⟩ := box6 HV4.out.i2)
    | (go_at_call 6; (with_reducible refine (FD.out _ (HQ.out.up HV1.out.below)).mono ?_); rintro e w2 ⟨p, F, rfl, hv⟩; have HV2 := Lib.hid (HV1.out.join hv); simp only [List.cons_append, List.nil_append] at HV2; clear hv; have HV3 := Lib.hid (HV2.out.push (boxT w2.heap.size 24 #[.int .i64 c.bt, .int .i64 c.rw, .int .i64 c.wd, .int .i64 c.md, .int .u64 c.sd]) (Lw.below_alloc (Below.refl _ _) _) (heap_alloc_new w2 _) (fun k hk => Nat.le_of_eq hk.symm)); obtain ⟨c0, c1, c2, c3, c4⟩ := box5 HV3.out.i0; clear x0 x1 x2 x3 x4 x5; obtain ⟨x0, x1, x2, x3, x4, x5⟩ := box6 HV3.out.i2)
    | (go_at_call 5; (with_reducible refine (shown_any _).mono ?_); rintro e w1 ⟨rfl, hb⟩; have HV1 := Lib.hid (HBX.out.up hb); clear hb; obtain ⟨x0, x1, x2, x3, x4, x5⟩ := box6 HV1.out.i0))
  go_ret
  exact ⟨ret_bs (by first | rfl | (simp [*]; done)), HV4.out.below⟩
set_option maxRecDepth 100000 in
set_option maxHeartbeats 40000000 in
theorem way_y (x : Cfg) (A : Option Addr) (n0 k0 : Nat) (qs : Ups) (a : Int) (w : World) (hx : x.Ok) (hq : UpdV w A n0 k0 qs) (hT : 1 ≤ spV (anyC x 10 9) (stsOf (anyC x 10 9) (upsR (anyC x 10 9) 0 qs 0 60)) (anyC x 10 9).bt 0) :
    Calls Try.prog 4 #[.agg #[.int .i64 x.bt, .int .i64 x.rw, .int .i64 x.wd, .int .i64 x.md, .int .u64 x.sd, .slice A n0 k0], .int .i64 a] w fun e w' => e = .returned (.bool true) ∧ Below w.heap.size w w' := by
  obtain ⟨c, hC⟩ : ∃ c, anyC x 10 9 = c := ⟨_, rfl⟩
  have hr := any_right x 10 9 (by omega) (by omega) (by omega) (by omega)
  have hco := any_ok x hx 10 9 (by omega) (by omega) (by omega) (by omega)
  have FD := Lib.hid (fun w hq => fed_z x A n0 k0 qs c w hx hq hC)
  rw [hC] at hr hco
  have hbt := hr.1
  have hbt2 := hr.2.1
  have hkeys : 1 ≤ keys c 0 := keys_pos.2 ⟨hr, by omega, by omega⟩
  have hul := upsR_len c 0 qs 0 60
  have hui := upsR_in hkeys qs 0 60
  obtain ⟨us, hus⟩ : ∃ us, upsR c 0 qs 0 60 = us := ⟨_, rfl⟩
  rw [hus] at FD hul hui
  rw [hC, hus] at hT
  have etop := has_all hr us
  have htb := ptU_bd hr hui hul (L := c.bt.toNat) (i := 0) (Nat.le_refl _) (by rw [Nat.sub_self]; decide)
  have CT0 := Lib.hid (fun p F w hs => cs_total p F c (stsOf c us) w hs)
  have htb1 : -65970697666560 ≤ ptU c us c.bt.toNat 0 := htb.1
  have htb2 : ptU c us c.bt.toNat 0 ≤ 65970697666560 := htb.2
  obtain ⟨TV, hTV⟩ : ∃ v, ptU c us c.bt.toNat 0 = v := ⟨_, rfl⟩
  rw [etop, hTV] at CT0
  rw [hTV] at htb1 htb2
  rw [etop, hTV] at hT
  have hl1 : ¬ TV < 1 := by omega
  have hT0 : ¬ TV = 0 := by omega
  obtain ⟨V1, R1, K1, a1, a2, a3, a4, a5, a6, a7, a8⟩ := rank_cut a TV hT htb2
  obtain ⟨l, w1, p1, u1⟩ := way_fed hr hui hul (k := K1) a7 (by rw [hTV]; omega)
  have hkk := keys_bd c 0
  have q2 := qn_yes (c := c) (pt := (fun L i => spV c (stsOf c us) (L : Int) i)) (k := K1) a7 (by show K1 ≤ ptU c us c.bt.toNat 0; omega) w1
  have CQ := Lib.hid (fun p F w hs => qn_quant p F c (stsOf c us) K1 w hs (by omega) (by omega))
  rw [q2.1, q2.2.2] at CQ
  have CW := Lib.hid (fun p F w hs => qn_way p F c (stsOf c us) K1 w hs (by omega) (by omega))
  rw [q2.1, q2.2.1] at CW
  have hb2 := bt_nat hr
  obtain ⟨BB, hBB⟩ : ∃ B, c.bt.toNat = B := ⟨_, rfl⟩
  rw [hBB] at p1 hb2
  have hb59 : BB ≤ 59 := by omega
  have HPA := Lib.hid p1
  have HB2 := Lib.hid hb2
  have HLN := Lib.hid p1.len
  have HUK : Hid (((keyQ l : Nat) : Int) ≤ 18446744073709551615) := Lib.hid (by omega)
  obtain ⟨Z, hZ⟩ : ∃ Z, stsOf c us = Z := ⟨_, rfl⟩
  rw [hZ] at FD CT0 CW CQ
  have HQ := Lib.hid hq
  have HBX : Hid (Have w (w.alloc (.cells #[.int .i64 x.bt, .int .i64 x.rw, .int .i64 x.wd, .int .i64 x.md, .int .u64 x.sd, .slice A n0 k0] 27)) [boxT w.heap.size 27 #[.int .i64 x.bt, .int .i64 x.rw, .int .i64 x.wd, .int .i64 x.md, .int .u64 x.sd, .slice A n0 k0]]) := Lib.hid (box_new w _ _)
  clear hr hco hC hbt hbt2 hkeys hul hui hus etop htb htb1 htb2 hTV hT hZ hq hx w1 p1 u1 q2 hkk a7 a8 hb2 hBB
  go_enter Try.func4, Try.ntmps4
  go_upto_region 10 with (first
    | (go_at_call 8; (with_reducible refine (CQ.out p F _ (stI HV6.out.i2)).mono ?_); rintro e w7 ⟨rfl, hb⟩; have HV7 := Lib.hid (HV6.out.up hb); clear hb; clear c0 c1 c2 c3 c4; obtain ⟨c0, c1, c2, c3, c4⟩ := box5 HV7.out.i1)
    | (go_at_call 9; (with_reducible refine (CW.out p F _ (stI HV5.out.i1)).mono ?_); rintro e w6 ⟨A1, n1, cap1, rfl, h1, h2, hb⟩; have HV6 := Lib.hid (HV5.out.push (pcT A1 n1 cap1 (ints l)) hb h1 h2); clear h1 h2 hb; clear c0 c1 c2 c3 c4; obtain ⟨c0, c1, c2, c3, c4⟩ := box5 HV6.out.i1)
    | (go_at_call 7; (with_reducible refine (CT0.out p F _ (stI HV4.out.i1)).mono ?_); rintro e w5 ⟨rfl, hb⟩; have HV5 := Lib.hid (HV4.out.up hb); clear hb; clear c0 c1 c2 c3 c4; obtain ⟨c0, c1, c2, c3, c4⟩ := box5 HV5.out.i0; clear x0 x1 x2 x3 x4 x5; obtain ⟨x0, x1, x2, x3, x4, x5⟩ := box6 HV5.out.i2)
    | (go_at_call 7; (with_reducible refine (CT0.out p F _ (stI HV3.out.i1)).mono ?_); rintro e w4 ⟨rfl, hb⟩; have HV4 := Lib.hid (HV3.out.up hb); clear hb; clear c0 c1 c2 c3 c4; obtain ⟨c0, c1, c2, c3, c4⟩ := box5 HV4.out.i0; clear x0 x1 x2 x3 x4 x5; obtain ⟨x0, x1, x2, x3, x4, x5⟩ := box6 HV4.out.i2)
    | (go_at_call 6; (with_reducible refine (FD.out _ (HQ.out.up HV1.out.below)).mono ?_); rintro e w2 ⟨p, F, rfl, hv⟩; have HV2 := Lib.hid (HV1.out.join hv); simp only [List.cons_append, List.nil_append] at HV2; clear hv; have HV3 := Lib.hid (HV2.out.push (boxT w2.heap.size 24 #[.int .i64 c.bt, .int .i64 c.rw, .int .i64 c.wd, .int .i64 c.md, .int .u64 c.sd]) (Lw.below_alloc (Below.refl _ _) _) (heap_alloc_new w2 _) (fun k hk => Nat.le_of_eq hk.symm)); obtain ⟨c0, c1, c2, c3, c4⟩ := box5 HV3.out.i0; clear x0 x1 x2 x3 x4 x5; obtain ⟨x0, x1, x2, x3, x4, x5⟩ := box6 HV3.out.i2)
    | (go_at_call 5; (with_reducible refine (shown_any _).mono ?_); rintro e w1 ⟨rfl, hb⟩; have HV1 := Lib.hid (HBX.out.up hb); clear hb; obtain ⟨x0, x1, x2, x3, x4, x5⟩ := box6 HV1.out.i0))
  obtain ⟨aa, g, o, rfl, hadd0, d1, d2, kb, db⟩ := (pcI HV7.out.i0).at (ints_get HPA.out.first)
  have HL1 := Lib.hid (pcI HV7.out.i0).len
  obtain rfl : n1 = BB + 1 := by
    have h := HL1.out
    rw [ints_len, HLN.out] at h
    exact h.symm
  simp only at d1 d2 kb db
  obtain rfl : aa = ⟨g, o, none⟩ := by rw [← hadd0, Nat.zero_mul, addr_z]
  rw [← HB2.out] at c0
  have wb : IntKind.i64.wrap ((BB : Int) + 1) = ((BB + 1 : Nat) : Int) := by rw [IntWalk.i64_in _ ⟨by omega, by omega⟩]; omega
  have wl : ((BB + 1 : Nat) : Int) = (BB : Int) + 1 := by omega
  have wb2 : IntKind.i64.wrap ((BB : Int) + 1) = (BB : Int) + 1 := IntWalk.i64_in _ ⟨by omega, by omega⟩
  clear hadd0 kb db
  obtain ⟨gc, hgc⟩ : ∃ g, w2.heap.size = g := ⟨_, rfl⟩
  rw [hgc] at HV7 c0 c1 c2 c3 c4 ⊢
  clear hgc HV1 HV2 HV3 HV4 HV5 HV6 x0 x1 x2 x3 x4 x5 FD CW CT0 CQ HBX a1 a2 a3 a4 a5 a6 hl1 hT0
  go_quiet (fail)
  all_goals go_wp2
  go_loopw [12] (fun iv wr => ∃ (k : Nat), k ≤ BB ∧ iv = .int .i64 ((k : Int) + 1) ∧ Have w wr [pcT (some ⟨g, o, none⟩) (BB + 1) cap1 (ints l), boxT gc 24 #[.int .i64 c.bt, .int .i64 c.rw, .int .i64 c.wd, .int .i64 c.md, .int .u64 c.sd], stT p F c Z, boxT w.heap.size 27 #[.int .i64 x.bt, .int .i64 x.rw, .int .i64 x.wd, .int .i64 x.md, .int .u64 x.sd, .slice A n0 k0]]) (fun iv _ => BB + 1 - (intOf iv).toNat)
  case atStart => exact ⟨0, Nat.zero_le _, rfl, HV7.out.up (by repeat' (first | (with_reducible exact Below.refl _ _) | (with_reducible assumption) | (with_reducible refine below_over ?_ _ _) | (with_reducible refine Lw.below_alloc ?_ _) | (with_reducible refine Below.drew ?_) | (with_reducible refine below_drewN ?_ _) | (with_reducible refine Below.setCell ?_ ?_ _) | go_size))⟩
  case round =>
    obtain ⟨k, hk, rfl, hv⟩ := hrel
    have HVr := Lib.hid hv
    clear hv d1 d2 c0 c1 c2 c3 c4
    by_cases hlt : k < BB
    · obtain ⟨pp, hp1⟩ : ∃ pp, l[k]? = some pp := ⟨_, List.getElem?_eq_getElem (by rw [HLN.out]; omega)⟩
      obtain ⟨pq, hp2⟩ : ∃ pq, l[k + 1]? = some pq := ⟨_, List.getElem?_eq_getElem (by rw [HLN.out]; omega)⟩
      have hn := HPA.out.next k pp pq hp1 hp2
      have hi1 := HPA.out.at k pp hp1
      obtain ⟨ab, g1, o1, eb, hadd1, d1, d2, kb, db⟩ := (pcI HVr.out.i0).at (ints_get hp1)
      obtain ⟨ac, g2, o2, ec, hadd2, d3, d4, kc, dc⟩ := (pcI HVr.out.i0).at (ints_get hp2)
      injection eb with eb
      injection ec with ec
      subst eb
      subst ec
      rw [Ord.add_at] at hadd1 hadd2
      injection hadd1 with ea1 ea2
      injection hadd2 with ea3 ea4
      subst ea1 ea2 ea3 ea4
      obtain ⟨LP, IP⟩ := pp
      obtain ⟨LQ, IQ⟩ := pq
      simp only at hn hi1 d1 d2 d3 d4 kb db kc dc
      have f1 : IntKind.i64.wrap ((LP : Int) - 1) = (LQ : Int) := by rw [IntWalk.i64_in _ ⟨by omega, by omega⟩]; omega
      have f2 : IntKind.i64.wrap (k : Int) = (k : Int) := IntWalk.i64_in _ ⟨by omega, by omega⟩
      have f2b : ((k : Int) + 1).toNat = k + 1 := by omega
      have f3 : Int.tdiv (IQ : Int) 2 = (IP : Int) := by rw [Int.tdiv_eq_ediv_of_nonneg (by omega)]; omega
      have f4 : IntKind.u64.wrap (IP : Int) = (IP : Int) := by rw [IntKind.wrap_u64]; omega
      have f5 : (k : Int) + 1 < (BB : Int) + 1 := by omega
      have f5b : (k : Int) < (BB : Int) := by omega
      have f6 : (k : Int) < (BB : Int) + 1 := by omega
      have f7 : ¬ (k : Int) + 1 < 0 := by omega
      have f8 : ¬ (k : Int) < 0 := by omega
      have f9 : 0 ≤ (k : Int) + 1 := by omega
      clear hp1 hp2 hn hi1 kb db kc dc
      go_upto_region 15 with fail
      go_quiet (fail)
      all_goals go_wp2
      all_goals go_roundw
      all_goals first
        | exact ⟨k + 1, by omega, by go_num, HVr.out.up (by repeat' (first | (with_reducible exact Below.refl _ _) | (with_reducible assumption) | (with_reducible refine below_over ?_ _ _) | (with_reducible refine Lw.below_alloc ?_ _) | (with_reducible refine Below.drew ?_) | (with_reducible refine below_drewN ?_ _) | (with_reducible refine Below.setCell ?_ ?_ _) | go_size))⟩
        | (simp [intOf]; omega)
    · obtain rfl : k = BB := by omega
      obtain ⟨ab, g1, o1, eb, hadd1, d1, d2, kb, db⟩ := (pcI HVr.out.i0).at (ints_get HPA.out.last)
      injection eb with eb
      subst eb
      rw [Ord.add_at] at hadd1
      injection hadd1 with ea1 ea2
      subst ea1 ea2
      simp only at d1 d2 kb db
      have f2 : IntKind.i64.wrap (k : Int) = (k : Int) := IntWalk.i64_in _ ⟨by omega, by omega⟩
      have f3 : wrap64 (k : Int) = (k : Int) := IntWalk.wrap64_in _ ⟨by omega, by omega⟩
      have f6 : (k : Int) < (k : Int) + 1 := by omega
      have f8 : ¬ (k : Int) < 0 := by omega
      have f9 : ¬ (k : Int) + 1 < (k : Int) + 1 := by omega
      clear kb db hlt
      go_wp2
      go_ret
      exact ⟨ret_bs (by first | rfl | (simp [*]; done)), HVr.out.below⟩
theorem way_law (x : Cfg) (A : Option Addr) (n0 k0 : Nat) (qs : Ups) (a : Int) (w : World) (hx : x.Ok) (hq : UpdV w A n0 k0 qs) :
    Calls Try.prog 4 #[.agg #[.int .i64 x.bt, .int .i64 x.rw, .int .i64 x.wd, .int .i64 x.md, .int .u64 x.sd, .slice A n0 k0], .int .i64 a] w fun e w' => e = .returned (.bool true) ∧ Below w.heap.size w w' := by
  by_cases hT : 1 ≤ spV (anyC x 10 9) (stsOf (anyC x 10 9) (upsR (anyC x 10 9) 0 qs 0 60)) (anyC x 10 9).bt 0
  · exact way_y x A n0 k0 qs a w hx hq hT
  · exact way_n x A n0 k0 qs a w hx hq hT
namespace quantWay
open Go.ChangeShapes Go.WideShapes Go.ChangeAt Go.Joins
set_option maxRecDepth 100000 in
theorem lifted (os : Os) (started : os.Started) (H : Type) (enc : TypeId × Value → H) :
    ReturnsInHanded {} Try.checked os 4 .any (Rows.quantWaySpec.pre6 enc Try.prog Try.f4 Rows.quantWayRow.domain false) (Rows.quantWaySpec.post enc Try.prog Try.f4 false true false false) := by
  refine Lw.lifted (C := Try.checked) (B := 4) (by kernel_rfl) os started (by kernel_rfl) Try.func4
    (ChangeSpec.witness6 (enc := enc) (C := Try.checked) false ⟨#[], #[.agg #[.int .i64 0, .int .i64 0, .int .i64 0, .int .i64 0, .int .u64 0, .slice none 0 0], .int .i64 0], []⟩ 8 (by kernel_rfl) (by kernel_rfl) (by kernel_rfl) (by kernel_rfl)) rfl Try.underlying4 (by kernel_rfl) (by kernel_rfl) (by kernel_rfl) ?_ ?_
  · intro ds h
    rw [Try.params4] at h
    match ds, h with
    | [_, _], _ => rfl
  · intro W base args ds p hval hA
    rw [Try.params4] at hA hval
    obtain ⟨v0, vs0, d0, ds0, p0, q0, hargs, rfl, rfl, h0, r0⟩ := trodAll_cons hA
    obtain ⟨v1, vs1, d1, ds1, p1, q1, rfl, rfl, rfl, h1, r1⟩ := trodAll_cons r0
    obtain ⟨rfl, rfl, rfl⟩ := trodAll_nil r1
    obtain rfl : args = #[v0, v1] := by cases args; simp_all
    obtain ⟨x0, A0, n0, k0, qs0, rfl, hx0, hq0⟩ := open_playX (hval 0 27 v0 rfl rfl) h0
    obtain ⟨a1, rfl, rfl, rfl, w1⟩ := open_int Try.underlying2 (hval 1 2 v1 rfl rfl) h1
    have b1 := Lw.wf_i64 w1
    exact way_law x0 A0 n0 k0 qs0 a1 W hx0 hq0
theorem over : Rows.quantWayRow.holds Try.pinned (OpenSpec.ofChange Rows.quantWaySpec) :=
  OpenClaim.holds_of_wide 4 Try.f4 rfl rfl rfl rfl rfl rfl rfl ⟨rfl, rfl, rfl, rfl, rfl⟩ rfl rfl rfl rfl rfl (by kernel_rfl) Try.func4 (by kernel_rfl)
    (of_decide_eq_true (by kernel_rfl)) (by unfold Func.isWrapper; first | (rw [if_pos (by decide +kernel)]; kernel_rfl) | (rw [if_neg (by decide +kernel)]; exact ⟨rfl, rfl⟩))
    (fun os started H enc _ => lifted os started H enc)
theorem proved : Rows.QuantWaySaid :=
  over
#print axioms proved
end quantWay
end Go.Proofs.Ytiblpdjehknbcaa.Qnt
