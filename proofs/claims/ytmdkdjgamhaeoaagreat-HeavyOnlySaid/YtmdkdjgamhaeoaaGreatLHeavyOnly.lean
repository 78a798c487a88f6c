/- The statement HeavyOnly of layer 18 holds. Printed by wip/gen/hvy4.py. -/
import Derived.Test.YtmdkdjgamhaeoaaGreatQe
import Derived.Test.YtmdkdjgamhaeoaaGreatQm
import Derived.Test.YtmdkdjgamhaeoaaGreatQo
import Derived.Test.YtmdkdjgamhaeoaaGreatQp
import Derived.Deep.LoopGhost
import Derived.Deep.RegionHeld3
import Derived.Deep.DeepCutAuto
import Derived.Deep.QuietTactic
import Derived.BigQuiet
namespace Go.Proofs.YtmdkdjgamhaeoaaGreat.Hvy
open Go Go.RowKit Lw Grd Lin Con Shp Sk Exa Lev Stk Pcs Spn Qnt
set_option linter.unusedVariables false
set_option linter.unusedSimpArgs false
set_option linter.constructorNameAsVariable false
set_option maxRecDepth 100000 in
set_option maxHeartbeats 40000000 in
theorem only_n (x : Cfg) (A : Option Addr) (n0 k0 : Nat) (qs : Ups) (a b : Int) (w : World) (hx : x.Ok) (hq : UpdV w A n0 k0 qs) (V LS V1 A1 : Int) (N : Nat) (a1 : bits .and .i64 a 1099511627775 = V) (a2 : wrap64 (1 + V) = LS) (a3 : IntKind.i64.wrap (1 + V) = LS) (g1 : 1 ≤ LS) (g2 : LS ≤ 1099511627776) (d1 : bits .and .i64 b 65535 = V1) (d2 : Int.tmod V1 301 = A1) (d3 : wrap64 A1 = A1) (d4 : IntKind.i64.wrap A1 = A1) (g3 : 0 ≤ A1) (g4 : A1 < 301)
    (hN : countQ (fun L i => spV (anyC x 10 9) (stsOf (anyC x 10 9) (upsR (anyC x 10 9) 0 qs 0 60)) (L : Int) i) LS (anyC x 10 9).bt.toNat ((anyC x 10 9).bt.toNat + 1) = N) (hk : A1 < (N : Int)) :
    Calls Tryz.prog 6 #[.agg #[.int .i64 x.bt, .int .i64 x.rw, .int .i64 x.wd, .int .i64 x.md, .int .u64 x.sd, .slice A n0 k0], .int .i64 a, .int .i64 b] w fun e w' => e = .returned (.bool true) ∧ Below w.heap.size w w' := by
  obtain ⟨c, hC⟩ : ∃ c, anyC x 10 9 = c := ⟨_, rfl⟩
  have hr := any_right x 10 9 (by omega) (by omega) (by omega) (by omega)
  have hco := any_ok x hx 10 9 (by omega) (by omega) (by omega) (by omega)
  have FD := Lib.hid (fun w hq => fed_z x A n0 k0 qs c w hx hq hC)
  rw [hC] at hr hco
  have hbt := hr.1
  have hbt2 := hr.2.1
  have hkeys : 1 ≤ keys c 0 := keys_pos.2 ⟨hr, by omega, by omega⟩
  have hul := upsR_len c 0 qs 0 60
  have hui := upsR_in hkeys qs 0 60
  obtain ⟨us, hus⟩ : ∃ us, upsR c 0 qs 0 60 = us := ⟨_, rfl⟩
  rw [hus] at FD hul hui
  rw [hC, hus] at hN
  have lb : A1 ≤ 4096 := by clear hN; omega
  have q1 := hv_over (c := c) (pt := (fun L i => spV c (stsOf c us) (L : Int) i)) (least := LS) (bud := A1) g1 lb (by rw [hN]; exact hk)
  have C1 := Lib.hid (fun p F w hs => hv_heavy p F c (stsOf c us) LS A1 w hs (by omega) (by omega) (by omega) (by omega))
  rw [q1.1, q1.2] at C1
  obtain ⟨Z, hZ⟩ : ∃ Z, stsOf c us = Z := ⟨_, rfl⟩
  rw [hZ] at FD C1
  have HQ := Lib.hid hq
  have HBX : Hid (Have w (w.alloc (.cells #[.int .i64 x.bt, .int .i64 x.rw, .int .i64 x.wd, .int .i64 x.md, .int .u64 x.sd, .slice A n0 k0] 27)) [boxT w.heap.size 27 #[.int .i64 x.bt, .int .i64 x.rw, .int .i64 x.wd, .int .i64 x.md, .int .u64 x.sd, .slice A n0 k0]]) := Lib.hid (box_new w _ _)
  have HG := Lib.hid (And.intro g1 (And.intro g2 (And.intro g3 g4)))
  clear hr hco hC hbt hbt2 hkeys hul hui hus hN q1 hZ hq hx hk lb g1 g2 g3 g4
  go_enter Tryz.func6, Tryz.ntmps6
  go_wp2_with (first
    | (go_at_call 15; (with_reducible refine (C1.out p F _ (stI HV3.out.i1)).mono ?_); rintro e w4 ⟨A4, n4, cap4, rfl, h1, h2, hb⟩; obtain rfl : 0 = n4 := (strI h1).len; have HV4 := Lib.hid (HV3.out.push (stRowT 3 encF A4 0 cap4 []) hb h1 h2); clear h1 h2 hb)
    | (go_at_call 24; (with_reducible refine (FD.out _ (HQ.out.up HV1.out.below)).mono ?_); rintro e w2 ⟨p, F, rfl, hv⟩; have HV2 := Lib.hid (HV1.out.join hv); simp only [List.cons_append, List.nil_append] at HV2; clear hv; have HV3 := Lib.hid (HV2.out.push (boxT w2.heap.size 24 #[.int .i64 c.bt, .int .i64 c.rw, .int .i64 c.wd, .int .i64 c.md, .int .u64 c.sd]) (Lw.below_alloc (Below.refl _ _) _) (heap_alloc_new w2 _) (fun k hk => Nat.le_of_eq hk.symm)); clear x0 x1 x2 x3 x4 x5)
    | (go_at_call 9; (with_reducible refine (shown_any _).mono ?_); rintro e w1 ⟨rfl, hb⟩; have HV1 := Lib.hid (HBX.out.up hb); clear hb; obtain ⟨x0, x1, x2, x3, x4, x5⟩ := box6 HV1.out.i0))
  go_loopw [12, 13] (fun sv iv wr => sv = .int .i64 1 ∧ iv = .int .i64 0 ∧ Below w.heap.size w wr) (fun _ _ _ => 0)
  case atStart => exact ⟨rfl, rfl, (HV4.out.up (by repeat' (first | (with_reducible exact Below.refl _ _) | (with_reducible assumption) | (with_reducible refine below_over ?_ _ _) | (with_reducible refine Lw.below_alloc ?_ _) | (with_reducible refine Below.drew ?_) | (with_reducible refine below_drewN ?_ _) | (with_reducible refine Below.setCell ?_ ?_ _) | go_size))).below⟩
  case round =>
    obtain ⟨rfl, rfl, hbw⟩ := hrel
    go_wp2
    go_ret
    exact ⟨ret_bs (by first | rfl | (simp [*]; done)), hbw⟩
set_option maxRecDepth 100000 in
set_option maxHeartbeats 40000000 in
theorem only_y (x : Cfg) (A : Option Addr) (n0 k0 : Nat) (qs : Ups) (a b : Int) (w : World) (hx : x.Ok) (hq : UpdV w A n0 k0 qs) (V LS V1 A1 : Int) (N : Nat) (a1 : bits .and .i64 a 1099511627775 = V) (a2 : wrap64 (1 + V) = LS) (a3 : IntKind.i64.wrap (1 + V) = LS) (g1 : 1 ≤ LS) (g2 : LS ≤ 1099511627776) (d1 : bits .and .i64 b 65535 = V1) (d2 : Int.tmod V1 301 = A1) (d3 : wrap64 A1 = A1) (d4 : IntKind.i64.wrap A1 = A1) (g3 : 0 ≤ A1) (g4 : A1 < 301)
    (hN : countQ (fun L i => spV (anyC x 10 9) (stsOf (anyC x 10 9) (upsR (anyC x 10 9) 0 qs 0 60)) (L : Int) i) LS (anyC x 10 9).bt.toNat ((anyC x 10 9).bt.toNat + 1) = N) (hk : (N : Int) ≤ A1) :
    Calls Tryz.prog 6 #[.agg #[.int .i64 x.bt, .int .i64 x.rw, .int .i64 x.wd, .int .i64 x.md, .int .u64 x.sd, .slice A n0 k0], .int .i64 a, .int .i64 b] w fun e w' => e = .returned (.bool true) ∧ Below w.heap.size w w' := by
  obtain ⟨c, hC⟩ : ∃ c, anyC x 10 9 = c := ⟨_, rfl⟩
  have hr := any_right x 10 9 (by omega) (by omega) (by omega) (by omega)
  have hco := any_ok x hx 10 9 (by omega) (by omega) (by omega) (by omega)
  have FD := Lib.hid (fun w hq => fed_z x A n0 k0 qs c w hx hq hC)
  rw [hC] at hr hco
  have hbt := hr.1
  have hbt2 := hr.2.1
  have hkeys : 1 ≤ keys c 0 := keys_pos.2 ⟨hr, by omega, by omega⟩
  have hul := upsR_len c 0 qs 0 60
  have hui := upsR_in hkeys qs 0 60
  obtain ⟨us, hus⟩ : ∃ us, upsR c 0 qs 0 60 = us := ⟨_, rfl⟩
  rw [hus] at FD hul hui
  rw [hC, hus] at hN
  have lb : A1 ≤ 4096 := by clear hN; omega
  have q1 := hv_yes (c := c) (pt := (fun L i => spV c (stsOf c us) (L : Int) i)) (least := LS) (bud := A1) g1 lb (by rw [hN]; exact hk)
  have C1 := Lib.hid (fun p F w hs => hv_heavy p F c (stsOf c us) LS A1 w hs (by omega) (by omega) (by omega) (by omega))
  rw [q1.1, q1.2] at C1
  have hlen := foundQ_len (fun L i => spV c (stsOf c us) (L : Int) i) LS c.bt.toNat
  have hup := upsQ_found (fun L i => spV c (stsOf c us) (L : Int) i) LS c.bt.toNat
  have HPT := Lib.hid (fun i q h => found_pt hr us (LS := LS) (i := i) (q := q) h)
  have HAB := Lib.hid (fun i q h hq => found_above (pt := (fun L i => spV c (stsOf c us) (L : Int) i)) (least := LS) (B := c.bt.toNat) (i := i) (q := q) h hq)
  have HAH := Lib.hid (fun i j x y hi hj hij => ahead_at (foundQ_ahead (fun L i => spV c (stsOf c us) (L : Int) i) LS c.bt.toNat (c.bt.toNat + 1) (Nat.le_refl _)) (i := i) (j := j) (x := x) (y := y) hi hj hij)
  rw [hN] at hlen hup
  obtain ⟨QL, hQL⟩ : ∃ l, foundQ (fun L i => spV c (stsOf c us) (L : Int) i) LS c.bt.toNat (c.bt.toNat + 1) = l := ⟨_, rfl⟩
  rw [hQL] at hlen hup HPT HAB HAH C1
  obtain ⟨LN, hLN⟩ : ∃ n, QL.length = n := ⟨_, rfl⟩
  have HLQ := Lib.hid hLN
  rw [hLN] at hlen
  have hL400 : LN ≤ 301 := by clear hN hup; omega
  have HUP : Hid (((1 + 2 * upsQ (QL.take LN) : Nat) : Int) ≤ A1) := Lib.hid (by rw [← hLN, List.take_length, hup]; exact hk)
  obtain ⟨BB, hBB⟩ : ∃ B, c.bt.toNat = B := ⟨_, rfl⟩
  rw [hBB] at HPT HAB
  have HBB : Hid (c.bt = (BB : Int)) := Lib.hid (by clear hN hup; omega)
  have HB59 : Hid (BB ≤ 59) := Lib.hid (by clear hN hup; omega)
  have CPT := Lib.hid (fun n i w (p : Addr) (F : Nat → Prop) hs n0 n1 i0 i1 => cs_point p F c (stsOf c us) n i w hs n0 n1 i0 i1)
  obtain ⟨Z, hZ⟩ : ∃ Z, stsOf c us = Z := ⟨_, rfl⟩
  rw [hZ] at FD C1 CPT HPT
  have HQ := Lib.hid hq
  have HBX : Hid (Have w (w.alloc (.cells #[.int .i64 x.bt, .int .i64 x.rw, .int .i64 x.wd, .int .i64 x.md, .int .u64 x.sd, .slice A n0 k0] 27)) [boxT w.heap.size 27 #[.int .i64 x.bt, .int .i64 x.rw, .int .i64 x.wd, .int .i64 x.md, .int .u64 x.sd, .slice A n0 k0]]) := Lib.hid (box_new w _ _)
  have HG := Lib.hid (And.intro g1 (And.intro g2 (And.intro g3 g4)))
  clear hr hco hC hbt hbt2 hkeys hul hui hus hN q1 hZ hq hx hk lb g1 g2 g3 g4 hQL hlen hup hLN hBB
  go_enter Tryz.func6, Tryz.ntmps6
  go_wp2_with (first
    | (go_at_call 15; (with_reducible refine (C1.out p F _ (stI HV3.out.i1)).mono ?_); rintro e w4 ⟨A4, n4, cap4, rfl, h1, h2, hb⟩; obtain rfl : LN = n4 := HLQ.out.symm.trans (strI h1).len; have HV4 := Lib.hid (HV3.out.push (stRowT 3 encF A4 LN cap4 QL) hb h1 h2); clear h1 h2 hb)
    | (go_at_call 24; (with_reducible refine (FD.out _ (HQ.out.up HV1.out.below)).mono ?_); rintro e w2 ⟨p, F, rfl, hv⟩; have HV2 := Lib.hid (HV1.out.join hv); simp only [List.cons_append, List.nil_append] at HV2; clear hv; have HV3 := Lib.hid (HV2.out.push (boxT w2.heap.size 24 #[.int .i64 c.bt, .int .i64 c.rw, .int .i64 c.wd, .int .i64 c.md, .int .u64 c.sd]) (Lw.below_alloc (Below.refl _ _) _) (heap_alloc_new w2 _) (fun k hk => Nat.le_of_eq hk.symm)); clear x0 x1 x2 x3 x4 x5)
    | (go_at_call 9; (with_reducible refine (shown_any _).mono ?_); rintro e w1 ⟨rfl, hb⟩; have HV1 := Lib.hid (HBX.out.up hb); clear hb; obtain ⟨x0, x1, x2, x3, x4, x5⟩ := box6 HV1.out.i0))
  obtain ⟨gc, hgc⟩ : ∃ g, w2.heap.size = g := ⟨_, rfl⟩
  rw [hgc] at HV4 ⊢
  clear hgc HV1 HV2 HV3 FD C1 HBX a1 a2 a3 d1 d2 d3 d4
  go_loopw [12, 13] (fun sv iv wr => ∃ (i : Nat), i ≤ LN ∧ sv = .int .i64 ((1 + 2 * upsQ (QL.take i) : Nat) : Int) ∧ iv = .int .i64 (i : Int) ∧ Have w wr [stRowT 3 encF A4 LN cap4 QL, boxT gc 24 #[.int .i64 c.bt, .int .i64 c.rw, .int .i64 c.wd, .int .i64 c.md, .int .u64 c.sd], stT p F c Z, boxT w.heap.size 27 #[.int .i64 x.bt, .int .i64 x.rw, .int .i64 x.wd, .int .i64 x.md, .int .u64 x.sd, .slice A n0 k0]]) (fun _ iv _ => LN - (intOf iv).toNat)
  case atStart => exact ⟨0, Nat.zero_le _, rfl, rfl, HV4.out.up (by repeat' (first | (with_reducible exact Below.refl _ _) | (with_reducible assumption) | (with_reducible refine below_over ?_ _ _) | (with_reducible refine Lw.below_alloc ?_ _) | (with_reducible refine Below.drew ?_) | (with_reducible refine below_drewN ?_ _) | (with_reducible refine Below.setCell ?_ ?_ _) | go_size))⟩
  case round =>
    obtain ⟨i, hi, rfl, rfl, hv⟩ := hrel
    have HVr := Lib.hid hv
    clear hv
    by_cases hlt : i < LN
    · obtain ⟨q, hq1⟩ : ∃ q, QL[i]? = some q := ⟨_, List.getElem?_eq_getElem (by rw [HLQ.out]; exact hlt)⟩
      obtain ⟨LV, IX, NV, hqq⟩ : ∃ (a b : Nat) (v : Int), q = ((a, b), v) := ⟨_, _, _, rfl⟩
      subst hqq
      have HQ1 := Lib.hid hq1
      obtain ⟨⟨p1, p2⟩, p3, p4, p5, p6⟩ := HPT.out i _ hq1
      simp only at p1 p2 p3 p4 p5 p6
      obtain ⟨aa, g, o, ee, had, cc⟩ := (strI HVr.out.i0).at hq1 rfl
      subst ee
      have r0 := cc 0 _ rfl
      have r1 := cc 1 _ rfl
      have HR2 := Lib.hid (cc 2 _ rfl)
      rw [Nat.add_zero] at r0
      simp only at r0 r1 HR2
      clear cc
      have hup := upsQ_next hq1
      simp only at hup
      have hut := upsQ_take QL i
      rw [HLQ.out] at hut
      have hnx := asked_next hup hut (by omega)
      obtain ⟨AK, hAK⟩ : ∃ v, ((1 + 2 * upsQ (QL.take i) : Nat) : Int) = v := ⟨_, rfl⟩
      obtain ⟨AK2, hAK2⟩ : ∃ v, ((1 + 2 * upsQ (QL.take (i + 1)) : Nat) : Int) = v := ⟨_, rfl⟩
      rw [hAK, hAK2] at hnx
      rw [hAK]
      have HAK2 := Lib.hid hAK2
      have HNX := Lib.hid hnx
      have hc59 := HB59.out
      have IXB : Hid ((IX : Int) ≤ 18446744073709551615) := Lib.hid (by have e59 : (2 : Nat) ^ 59 = 576460752303423488 := rfl; omega)
      have LVB : Hid (LV ≤ 59) := Lib.hid (by omega)
      have CPJ := Lib.hid (fun w hs => CPT.out (LV : Int) (IX : Int) w p F hs (by omega) (by have := LVB.out; omega) (by omega) IXB.out)
      rw [p3, p4] at CPJ
      have CIS := Lib.hid (fun w => ris_any c.bt (LV : Int) (IX : Int) w (by rw [HBB.out]; omega) (by rw [HBB.out]; omega) (by omega) (by have := LVB.out; omega) (by omega) IXB.out)
      rw [p5] at CIS
      have hi0 : (0 : Int) ≤ (i : Int) := by omega
      have hi1 : (i : Int) < (LN : Int) := by omega
      have P6 := Lib.hid p6
      have P1 := Lib.hid p1
      clear hq1 hup hut hnx hAK hAK2 p1 p2 p3 p4 p5 p6 hc59
      go_upto_if 53 with fail
      have hr2b := cell_up HR2.out (Lw.below_alloc (Below.refl _ wr) (.cells #[.int .i64 (LV : Int), .int .u64 (IX : Int)] 69))
      have HVb := Lib.hid (HVr.out.push (boxT wr.heap.size 69 #[.int .i64 (LV : Int), .int .u64 (IX : Int)]) (Lw.below_alloc (Below.refl _ _) _) (heap_alloc_new wr _) (fun k hk => Nat.le_of_eq hk.symm))
      obtain ⟨gp, hgp⟩ : ∃ g, wr.heap.size = g := ⟨_, rfl⟩
      obtain ⟨wb, hwb⟩ : ∃ wb, wr.alloc (.cells #[.int .i64 (LV : Int), .int .u64 (IX : Int)] 69) = wb := ⟨_, rfl⟩
      rw [hgp, hwb] at HVb
      rw [hwb] at hr2b
      rw [hgp, hwb]
      have HR2B := Lib.hid hr2b
      clear hgp hwb hr2b r0 r1
      go_cut [12] (fun s12 wx => s12 = .int .i64 AK2 ∧ wx = wb)
      case first =>
        by_cases hL0 : 0 < LV
        · have e1 := HNX.out.1 hL0
          have l1 : (0 : Int) < (LV : Int) := by omega
          have l2 : decide (0 < LV) = true := decide_eq_true hL0
          go_wp2
          go_meet
          first | exact ⟨rfl, rfl⟩ | exact ⟨by rw [e1], rfl⟩
        · have e1 := HNX.out.2 hL0
          have l1 : ¬ (0 : Int) < (LV : Int) := by omega
          have l2 : decide (0 < LV) = false := decide_eq_false hL0
          have l3 : LV = 0 := by omega
          go_wp2
          go_meet
          first | exact ⟨rfl, rfl⟩ | exact ⟨by rw [e1], rfl⟩
      case rest =>
        obtain ⟨rfl, rfl⟩ := hcut
        obtain ⟨y0, y1⟩ := box2h HVb.out.i0
        have nlt : ¬ NV < LS := by have := P6.out; omega
        have nlt2 : decide (NV < LS) = false := decide_eq_false nlt
        go_upto_region 18 with (first
          | (go_at_call 28; (with_reducible refine (CPJ.out _ (stI HVb.out.i3)).mono ?_); rintro e w5 ⟨rfl, hb⟩; have HV5 := Lib.hid (HVb.out.up hb); have HR5 := Lib.hid (cell_up HR2B.out hb); clear hb y0 y1; obtain ⟨y0, y1⟩ := box2h HV5.out.i0; obtain ⟨c0, c1, c2, c3, c4⟩ := box5 HV5.out.i2)
          | (go_at_call 29; (with_reducible refine (CIS.out _).mono ?_); rintro e w6 ⟨rfl, hb⟩; have HV6 := Lib.hid (HV5.out.up hb); have r2 := cell_up HR5.out hb; clear hb y0 y1 c0 c1 c2 c3 c4; obtain ⟨y0, y1⟩ := box2h HV6.out.i0; obtain ⟨c0, c1, c2, c3, c4⟩ := box5 HV6.out.i2))
        clear c0 c1 c2 c3 c4 r2 had
        go_cut [122] (fun s122 wx => s122 = .bool false ∧ Have w wx [boxT gp 69 #[.int .i64 (LV : Int), .int .u64 (IX : Int)], stRowT 3 encF (some aa) LN cap4 QL, boxT gc 24 #[.int .i64 c.bt, .int .i64 c.rw, .int .i64 c.wd, .int .i64 c.md, .int .u64 c.sd], stT p F c Z, boxT w.heap.size 27 #[.int .i64 x.bt, .int .i64 x.rw, .int .i64 x.wd, .int .i64 x.md, .int .u64 x.sd, .slice A n0 k0]])
        case first =>
          cases i with
          | zero =>
            have iz : ¬ (0 : Int) < ((0 : Nat) : Int) := by decide
            go_quiet (fail)
            all_goals go_wp2
            all_goals go_meet
            all_goals exact ⟨rfl, HV6.out.up (by repeat' (first | (with_reducible exact Below.refl _ _) | (with_reducible assumption) | (with_reducible refine below_over ?_ _ _) | (with_reducible refine Lw.below_alloc ?_ _) | (with_reducible refine Below.drew ?_) | (with_reducible refine below_drewN ?_ _) | (with_reducible refine Below.setCell ?_ ?_ _) | go_size))⟩
          | succ j =>
            obtain ⟨q, hq2⟩ : ∃ q, QL[j]? = some q := ⟨_, List.getElem?_eq_getElem (by rw [HLQ.out]; omega)⟩
            obtain ⟨LP, IP, NP, hqq⟩ : ∃ (a b : Nat) (v : Int), q = ((a, b), v) := ⟨_, _, _, rfl⟩
            subst hqq
            have hah := HAH.out j (j + 1) _ _ hq2 HQ1.out (by omega)
            obtain ⟨aj, gj, oj, ee, hadj, cc⟩ := (strI HV6.out.i1).at hq2 rfl
            injection ee with ee
            subst ee
            have r0 := cc 0 _ rfl
            have r1 := cc 1 _ rfl
            rw [Nat.add_zero] at r0
            simp only at r0 r1
            have f2 : IntKind.i64.wrap (j : Int) = (j : Int) := IntWalk.i64_in _ ⟨by omega, by omega⟩
            have f3 : (j : Int) < (LN : Int) := by omega
            have f4 : (0 : Int) < (j : Int) + 1 := by omega
            clear cc hq2 hi0 hi1
            rcases hah with h | h
            · have h1 : LV < LP := h
              have l1 : ¬ (LP : Int) < (LV : Int) := by omega
              have l2 : ¬ LP < LV := by omega
              have l3 : ((LP : Int) == (LV : Int)) = false := beq_eq_false_iff_ne.2 (by omega)
              have l4 : (LP == LV) = false := beq_eq_false_iff_ne.2 (by omega)
              have l5 : ¬ LP = LV := by omega
              have l6 : decide ((LP : Int) < (LV : Int)) = false := decide_eq_false l1
              clear h
              go_quiet (fail)
              all_goals go_wp2
              all_goals go_meet
              all_goals exact ⟨rfl, HV6.out.up (by repeat' (first | (with_reducible exact Below.refl _ _) | (with_reducible assumption) | (with_reducible refine below_over ?_ _ _) | (with_reducible refine Lw.below_alloc ?_ _) | (with_reducible refine Below.drew ?_) | (with_reducible refine below_drewN ?_ _) | (with_reducible refine Below.setCell ?_ ?_ _) | go_size))⟩
            · obtain ⟨h1, h2⟩ := h
              have h1 : LP = LV := h1
              have h2 : IP < IX := h2
              subst h1
              have l1 : ¬ (LP : Int) < (LP : Int) := by omega
              have l2 : ¬ (IX : Int) ≤ (IP : Int) := by omega
              have l3 : ¬ IX ≤ IP := by omega
              have l4 : decide ((IX : Int) ≤ (IP : Int)) = false := decide_eq_false l2
              have l5 : (IP : Int) < (IX : Int) := by omega
              go_quiet (fail)
              all_goals go_wp2
              all_goals go_meet
              all_goals exact ⟨rfl, HV6.out.up (by repeat' (first | (with_reducible exact Below.refl _ _) | (with_reducible assumption) | (with_reducible refine below_over ?_ _ _) | (with_reducible refine Lw.below_alloc ?_ _) | (with_reducible refine Below.drew ?_) | (with_reducible refine below_drewN ?_ _) | (with_reducible refine Below.setCell ?_ ?_ _) | go_size))⟩
        case rest =>
          obtain ⟨rfl, hv7⟩ := hcut
          obtain ⟨w7, rfl⟩ : ∃ w7, w7 = wc := ⟨_, rfl⟩
          have HV7 := Lib.hid hv7
          clear hv7 y0 y1
          obtain ⟨y0, y1⟩ := box2h HV7.out.i0
          obtain ⟨c0, c1, c2, c3, c4⟩ := box5 HV7.out.i2
          obtain ⟨b0, hb0⟩ : ∃ b, ((LV : Int) == c.bt) = b := ⟨_, rfl⟩
          have HB0 : Hid (LV = BB → b0 = true) := Lib.hid (fun e => by rw [← hb0, HBB.out, e]; simp)
          obtain ⟨KP, hKP⟩ : ∃ KP : Nat, LV ≠ BB → KP < i ∧ ∃ v, QL[KP]? = some ((LV + 1, IX / 2), v) := by
            by_cases e : LV = BB
            · exact ⟨0, fun h => absurd e h⟩
            · obtain ⟨k, v, h1, h2⟩ := HAB.out i _ HQ1.out e
              exact ⟨k, fun _ => ⟨h1, v, h2⟩⟩
          have HKP := Lib.hid hKP
          clear hKP
          go_wp2
          go_loopw [17, 18] (fun bv kv wr => ∃ (k : Nat) (b : Bool), k ≤ i ∧ bv = .bool b ∧ kv = .int .i64 (k : Int) ∧ ((LV = BB ∨ KP < k) → b = true) ∧ Have w wr [boxT gp 69 #[.int .i64 (LV : Int), .int .u64 (IX : Int)], stRowT 3 encF (some aa) LN cap4 QL, boxT gc 24 #[.int .i64 c.bt, .int .i64 c.rw, .int .i64 c.wd, .int .i64 c.md, .int .u64 c.sd], stT p F c Z, boxT w.heap.size 27 #[.int .i64 x.bt, .int .i64 x.rw, .int .i64 x.wd, .int .i64 x.md, .int .u64 x.sd, .slice A n0 k0]]) (fun _ kv _ => i - (intOf kv).toNat)
          case atStart => exact ⟨0, b0, Nat.zero_le _, rfl, rfl, (fun h => h.elim HB0.out (fun h => absurd h (Nat.not_lt_zero _))), HV7.out.up (by repeat' (first | (with_reducible exact Below.refl _ _) | (with_reducible assumption) | (with_reducible refine below_over ?_ _ _) | (with_reducible refine Lw.below_alloc ?_ _) | (with_reducible refine Below.drew ?_) | (with_reducible refine below_drewN ?_ _) | (with_reducible refine Below.setCell ?_ ?_ _) | go_size))⟩
          case round =>
            obtain ⟨k, b, hk, rfl, rfl, hbk, hv⟩ := hrel
            have HVs := Lib.hid hv
            have HBK := Lib.hid hbk
            clear hv hbk y0 y1 c0 c1 c2 c3 c4 hb0
            obtain ⟨y0, y1⟩ := box2h HVs.out.i0
            by_cases hki : k < i
            · have k1 : (k : Int) < (i : Int) := by omega
              have k2 : (k : Int) < (LN : Int) := by omega
              have k3 : (0 : Int) ≤ (k : Int) := by omega
              cases b with
              | true =>
                go_upto_region 24 with fail
                go_quiet (fail)
                all_goals go_wp2
                all_goals go_roundw
                all_goals first
                  | exact ⟨k + 1, true, by omega, rfl, by go_num, fun _ => rfl, HVs.out.up (by repeat' (first | (with_reducible exact Below.refl _ _) | (with_reducible assumption) | (with_reducible refine below_over ?_ _ _) | (with_reducible refine Lw.below_alloc ?_ _) | (with_reducible refine Below.drew ?_) | (with_reducible refine below_drewN ?_ _) | (with_reducible refine Below.setCell ?_ ?_ _) | go_size))⟩
                  | (simp [intOf]; omega)
              | false =>
                have HNB : Hid (LV ≠ BB ∧ ¬ KP < k) := Lib.hid ⟨(fun e => by have := HBK.out (.inl e); cases this), (fun e => by have := HBK.out (.inr e); cases this)⟩
                obtain ⟨q, hq2⟩ : ∃ q, QL[k]? = some q := ⟨_, List.getElem?_eq_getElem (by rw [HLQ.out]; omega)⟩
                obtain ⟨LK, IK, NK, hqq⟩ : ∃ (a b : Nat) (v : Int), q = ((a, b), v) := ⟨_, _, _, rfl⟩
                subst hqq
                have HQ2 := Lib.hid hq2
                obtain ⟨ak, gk, ok, ee, hadk, cc⟩ := (strI HVs.out.i1).at hq2 rfl
                injection ee with ee
                subst ee
                have r0 := cc 0 _ rfl
                have r1 := cc 1 _ rfl
                rw [Nat.add_zero] at r0
                simp only at r0 r1
                have f1 : IntKind.i64.wrap ((LV : Int) + 1) = (LV : Int) + 1 := IntWalk.i64_in _ ⟨by omega, by have := LVB.out; omega⟩
                have f3 : Int.tdiv (IX : Int) 2 = ((IX / 2 : Nat) : Int) := by rw [Int.tdiv_eq_ediv_of_nonneg (by omega)]; omega
                obtain ⟨I2, hI2⟩ : ∃ v, IX / 2 = v := ⟨_, rfl⟩
                rw [hI2] at f3
                have f4 : IntKind.u64.wrap (I2 : Int) = (I2 : Int) := by rw [IntKind.wrap_u64]; have := IXB.out; omega
                have HI2 := Lib.hid hI2
                clear cc hq2 hI2
                by_cases h1 : LK = LV + 1
                · have g1 : ((LK : Int) == (LV : Int) + 1) = true := beq_iff_eq.2 (by omega)
                  have g2 : (LK : Int) = (LV : Int) + 1 := by omega
                  by_cases h2 : IK = I2
                  · have g3 : ((IK : Int) == (I2 : Int)) = true := beq_iff_eq.2 (by omega)
                    have g4 : (IK == I2) = true := beq_iff_eq.2 h2
                    clear h1
                    go_upto_region 24 with fail
                    go_quiet (fail)
                    all_goals go_wp2
                    all_goals go_roundw
                    all_goals first
                      | exact ⟨k + 1, true, by omega, rfl, by go_num, fun _ => rfl, HVs.out.up (by repeat' (first | (with_reducible exact Below.refl _ _) | (with_reducible assumption) | (with_reducible refine below_over ?_ _ _) | (with_reducible refine Lw.below_alloc ?_ _) | (with_reducible refine Below.drew ?_) | (with_reducible refine below_drewN ?_ _) | (with_reducible refine Below.setCell ?_ ?_ _) | go_size))⟩
                      | (simp [intOf]; omega)
                  · have g3 : ((IK : Int) == (I2 : Int)) = false := beq_eq_false_iff_ne.2 (by omega)
                    have g4 : (IK == I2) = false := beq_eq_false_iff_ne.2 h2
                    have HF : Hid ((LV = BB ∨ KP < k + 1) → false = true) := Lib.hid (fun h => by
                      exfalso
                      have hn := HNB.out
                      have e : KP = k := by rcases h with h | h; exact absurd h hn.1; omega
                      obtain ⟨-, v, hv⟩ := HKP.out hn.1
                      rw [e, HQ2.out] at hv
                      injection hv with hv
                      have e2 : IK = IX / 2 := congrArg (fun x => x.1.2) hv
                      rw [HI2.out] at e2
                      exact h2 e2)
                    clear h1
                    go_upto_region 24 with fail
                    go_quiet (fail)
                    all_goals go_wp2
                    all_goals go_roundw
                    all_goals first
                      | exact ⟨k + 1, false, by omega, rfl, by go_num, HF.out, HVs.out.up (by repeat' (first | (with_reducible exact Below.refl _ _) | (with_reducible assumption) | (with_reducible refine below_over ?_ _ _) | (with_reducible refine Lw.below_alloc ?_ _) | (with_reducible refine Below.drew ?_) | (with_reducible refine below_drewN ?_ _) | (with_reducible refine Below.setCell ?_ ?_ _) | go_size))⟩
                      | (simp [intOf]; omega)
                · have g1 : ((LK : Int) == (LV : Int) + 1) = false := beq_eq_false_iff_ne.2 (by omega)
                  have g2 : ¬ (LK : Int) = (LV : Int) + 1 := by omega
                  have HF : Hid ((LV = BB ∨ KP < k + 1) → false = true) := Lib.hid (fun h => by
                    exfalso
                    have hn := HNB.out
                    have e : KP = k := by rcases h with h | h; exact absurd h hn.1; omega
                    obtain ⟨-, v, hv⟩ := HKP.out hn.1
                    rw [e, HQ2.out] at hv
                    injection hv with hv
                    exact h1 (congrArg (fun x => x.1.1) hv))
                  clear h1
                  go_upto_region 24 with fail
                  go_quiet (fail)
                  all_goals go_wp2
                  all_goals go_roundw
                  all_goals first
                    | exact ⟨k + 1, false, by omega, rfl, by go_num, HF.out, HVs.out.up (by repeat' (first | (with_reducible exact Below.refl _ _) | (with_reducible assumption) | (with_reducible refine below_over ?_ _ _) | (with_reducible refine Lw.below_alloc ?_ _) | (with_reducible refine Below.drew ?_) | (with_reducible refine below_drewN ?_ _) | (with_reducible refine Below.setCell ?_ ?_ _) | go_size))⟩
                    | (simp [intOf]; omega)
            · obtain rfl : k = i := by omega
              have hbt : b = true := by
                by_cases e : LV = BB
                · exact HBK.out (.inl e)
                · exact HBK.out (.inr (HKP.out e).1)
              subst hbt
              have k1 : ¬ (k : Int) < (k : Int) := by omega
              go_wp2
              go_roundw
              case rel => exact ⟨k + 1, by omega, by rw [HAK2.out], by go_num, (HVs.out.drop_0).up (by repeat' (first | (with_reducible exact Below.refl _ _) | (with_reducible assumption) | (with_reducible refine below_over ?_ _ _) | (with_reducible refine Lw.below_alloc ?_ _) | (with_reducible refine Below.drew ?_) | (with_reducible refine below_drewN ?_ _) | (with_reducible refine Below.setCell ?_ ?_ _) | go_size))⟩
              case measure => simp [intOf]; omega
    · obtain rfl : i = LN := by omega
      have hup := HUP.out
      obtain ⟨AK, hAK⟩ : ∃ v, ((1 + 2 * upsQ (QL.take i) : Nat) : Int) = v := ⟨_, rfl⟩
      rw [hAK] at hup
      rw [hAK]
      have dle : decide (AK ≤ A1) = true := decide_eq_true hup
      have i1 : ¬ (i : Int) < (i : Int) := by omega
      clear hAK
      go_wp2
      go_ret
      exact ⟨ret_bs (by first | rfl | (simp [*]; done)), HVr.out.below⟩
theorem only_law (x : Cfg) (A : Option Addr) (n0 k0 : Nat) (qs : Ups) (a b : Int) (w : World) (hx : x.Ok) (hq : UpdV w A n0 k0 qs) :
    Calls Tryz.prog 6 #[.agg #[.int .i64 x.bt, .int .i64 x.rw, .int .i64 x.wd, .int .i64 x.md, .int .u64 x.sd, .slice A n0 k0], .int .i64 a, .int .i64 b] w fun e w' => e = .returned (.bool true) ∧ Below w.heap.size w w' := by
  obtain ⟨V, LS, a1, a2, a3, g1, g2⟩ := least_cut a
  obtain ⟨V1, A1, d1, d2, d3, d4, g3, g4⟩ := bud_cut b 301 (by omega) (by omega)
  obtain ⟨N, hN⟩ : ∃ N : Nat, countQ (fun L i => spV (anyC x 10 9) (stsOf (anyC x 10 9) (upsR (anyC x 10 9) 0 qs 0 60)) (L : Int) i) LS (anyC x 10 9).bt.toNat ((anyC x 10 9).bt.toNat + 1) = N := ⟨_, rfl⟩
  by_cases h1 : (N : Int) ≤ A1
  · exact only_y x A n0 k0 qs a b w hx hq V LS V1 A1 N a1 a2 a3 g1 g2 d1 d2 d3 d4 g3 g4 hN h1
  · exact only_n x A n0 k0 qs a b w hx hq V LS V1 A1 N a1 a2 a3 g1 g2 d1 d2 d3 d4 g3 g4 hN (by omega)
namespace heavyOnly
open Go.ChangeShapes Go.WideShapes Go.ChangeAt Go.Joins
set_option maxRecDepth 100000 in
theorem lifted (os : Os) (started : os.Started) (H : Type) (enc : TypeId × Value → H) :
    ReturnsInHanded {} Tryz.checked os 6 .any (Rows.heavyOnlySpec.pre6 enc Tryz.prog Tryz.f6 Rows.heavyOnlyRow.domain false) (Rows.heavyOnlySpec.post enc Tryz.prog Tryz.f6 false true false false) := by
  refine Lw.lifted (C := Tryz.checked) (B := 4) (by kernel_rfl) os started (by kernel_rfl) Tryz.func6
    (ChangeSpec.witness6 (enc := enc) (C := Tryz.checked) false ⟨#[], #[.agg #[.int .i64 0, .int .i64 0, .int .i64 0, .int .i64 0, .int .u64 0, .slice none 0 0], .int .i64 0, .int .i64 0], []⟩ 8 (by kernel_rfl) (by kernel_rfl) (by kernel_rfl) (by kernel_rfl)) rfl Tryz.underlying4 (by kernel_rfl) (by kernel_rfl) (by kernel_rfl) ?_ ?_
  · intro ds h
    rw [Tryz.params6] at h
    match ds, h with
    | [_, _, _], _ => rfl
  · intro W base args ds p hval hA
    rw [Tryz.params6] at hA hval
    obtain ⟨v0, vs0, d0, ds0, p0, q0, hargs, rfl, rfl, h0, r0⟩ := trodAll_cons hA
    obtain ⟨v1, vs1, d1, ds1, p1, q1, rfl, rfl, rfl, h1, r1⟩ := trodAll_cons r0
    obtain ⟨v2, vs2, d2, ds2, p2, q2, rfl, rfl, rfl, h2, r2⟩ := trodAll_cons r1
    obtain ⟨rfl, rfl, rfl⟩ := trodAll_nil r2
    obtain rfl : args = #[v0, v1, v2] := by cases args; simp_all
    obtain ⟨x0, A0, n0, k0, qs0, rfl, hx0, hq0⟩ := open_playX (hval 0 27 v0 rfl rfl) h0
    obtain ⟨a1, rfl, rfl, rfl, w1⟩ := open_int Tryz.underlying2 (hval 1 2 v1 rfl rfl) h1
    have b1 := Lw.wf_i64 w1
    obtain ⟨a2, rfl, rfl, rfl, w2⟩ := open_int Tryz.underlying3 (hval 2 3 v2 rfl rfl) h2
    have b2 := Lw.wf_i64 w2
    exact only_law x0 A0 n0 k0 qs0 a1 a2 W hx0 hq0
theorem over : Rows.heavyOnlyRow.holds Tryz.pinned (OpenSpec.ofChange Rows.heavyOnlySpec) :=
  OpenClaim.holds_of_wide 6 Tryz.f6 rfl rfl rfl rfl rfl rfl rfl ⟨rfl, rfl, rfl, rfl, rfl⟩ rfl rfl rfl rfl rfl (by kernel_rfl) Tryz.func6 (by kernel_rfl)
    (of_decide_eq_true (by kernel_rfl)) (by unfold Func.isWrapper; first | (rw [if_pos (by decide +kernel)]; kernel_rfl) | (rw [if_neg (by decide +kernel)]; exact ⟨rfl, rfl⟩))
    (fun os started H enc _ => lifted os started H enc)
theorem proved : Rows.HeavyOnlySaid :=
  over
#print axioms proved
end heavyOnly
end Go.Proofs.YtmdkdjgamhaeoaaGreat.Hvy
