/- The statement HeavyBudget of layer 18 holds. Printed by wip/gen/hvy3.py. -/
import Derived.Test.YtmdkdjgamhaeoaaGreatQe
import Derived.Test.YtmdkdjgamhaeoaaGreatQm
import Derived.Test.YtmdkdjgamhaeoaaGreatQo
import Derived.Test.YtmdkdjgamhaeoaaGreatQp
import Derived.Deep.LoopGhost
import Derived.Deep.RegionHeld3
import Derived.Deep.DeepCutAuto
import Derived.Deep.QuietTactic
import Derived.BigQuiet
namespace Go.Proofs.YtmdkdjgamhaeoaaGreat.Hvy
open Go Go.RowKit Lw Grd Lin Con Shp Sk Exa Lev Stk Pcs Spn Qnt
set_option linter.unusedVariables false
set_option linter.unusedSimpArgs false
set_option linter.constructorNameAsVariable false
theorem box2b {w : World} {b : Nat} {e : TypeId} {v0 v1 : Value} (h : (boxT b e #[v0, v1]).I w) : w.cell? ⟨b, 0, none⟩ = some v0 ∧ w.cell? ⟨b, 1, none⟩ = some v1 := ⟨box_cell h rfl, box_cell h rfl⟩
set_option maxRecDepth 100000 in
set_option maxHeartbeats 40000000 in
theorem bud_a (x : Cfg) (A : Option Addr) (n0 k0 : Nat) (qs : Ups) (a b0 b1 : Int) (w : World) (hx : x.Ok) (hq : UpdV w A n0 k0 qs) (V LS V1 A1 V2 A2 N : Int) (a1 : bits .and .i64 a 1099511627775 = V) (a2 : wrap64 (1 + V) = LS) (a3 : IntKind.i64.wrap (1 + V) = LS) (g1 : 1 ≤ LS) (g2 : LS ≤ 1099511627776) (d1 : bits .and .i64 b0 65535 = V1) (d2 : Int.tmod V1 201 = A1) (d3 : wrap64 A1 = A1) (d4 : IntKind.i64.wrap A1 = A1) (g3 : 0 ≤ A1) (g4 : A1 < 201) (e1 : bits .and .i64 b1 65535 = V2) (e2 : Int.tmod V2 201 = A2) (e3 : wrap64 A2 = A2) (e4 : IntKind.i64.wrap A2 = A2) (g5 : 0 ≤ A2) (g6 : A2 < 201)
    (hN : ((countQ (fun L i => spV (anyC x 6 9) (stsOf (anyC x 6 9) (upsR (anyC x 6 9) 0 qs 0 60)) (L : Int) i) LS (anyC x 6 9).bt.toNat ((anyC x 6 9).bt.toNat + 1) : Nat) : Int) = N) (hk : N ≤ A1) :
    Calls Tryz.prog 7 #[.agg #[.int .i64 x.bt, .int .i64 x.rw, .int .i64 x.wd, .int .i64 x.md, .int .u64 x.sd, .slice A n0 k0], .int .i64 a, .agg #[.int .i64 b0, .int .i64 b1]] w fun e w' => e = .returned (.bool true) ∧ Below w.heap.size w w' := by
  obtain ⟨c, hC⟩ : ∃ c, anyC x 6 9 = c := ⟨_, rfl⟩
  have hr := any_right x 6 9 (by omega) (by omega) (by omega) (by omega)
  have hco := any_ok x hx 6 9 (by omega) (by omega) (by omega) (by omega)
  have FD := Lib.hid (fun w hq => fed_6 x A n0 k0 qs c w hx hq hC)
  rw [hC] at hr hco
  have hbt := hr.1
  have hbt2 := hr.2.1
  have hkeys : 1 ≤ keys c 0 := keys_pos.2 ⟨hr, by omega, by omega⟩
  have hul := upsR_len c 0 qs 0 60
  have hui := upsR_in hkeys qs 0 60
  obtain ⟨us, hus⟩ : ∃ us, upsR c 0 qs 0 60 = us := ⟨_, rfl⟩
  rw [hus] at FD hul hui
  rw [hC, hus] at hN
  have hb6 : c.bt ≤ 6 := by rw [← hC]; exact any_bt x 6 9 (by omega)
  obtain ⟨M, m1, m2, m3, m4, m5, m6, m7, m8, m9⟩ := all_cut hbt hb6
  have m9 := m9 (fun L i => spV c (stsOf c us) (L : Int) i) LS
  rw [hN] at m9
  obtain ⟨wA, wA2, mm1, l1, l2, l3, ls, la, lab, lm⟩ := bud_nums g1 g2 g3 g4 g5 g6 m7 m8
  have m64 : c.bt.toNat ≤ 64 := by clear m2; omega
  have q1 := hv_yes (c := c) (pt := (fun L i => spV c (stsOf c us) (L : Int) i)) (least := LS) (bud := A1) g1 l1 (by rw [hN]; exact hk)
  have q2 := hv_yes (c := c) (pt := (fun L i => spV c (stsOf c us) (L : Int) i)) (least := LS) (bud := A1 + A2) g1 l2 (by rw [hN]; exact (by clear m2; omega))
  have q3 := hv_yes (c := c) (pt := (fun L i => spV c (stsOf c us) (L : Int) i)) (least := LS) (bud := M) g1 l3 (by rw [hN]; exact m9)
  have C1 := Lib.hid (fun p F w hs => hv_heavy p F c (stsOf c us) LS A1 w hs ls.1 ls.2 la.1 la.2)
  have C2 := Lib.hid (fun p F w hs => hv_heavy p F c (stsOf c us) LS (A1 + A2) w hs ls.1 ls.2 lab.1 lab.2)
  have C3 := Lib.hid (fun p F w hs => hv_heavy p F c (stsOf c us) LS M w hs ls.1 ls.2 lm.1 lm.2)
  rw [q1.1, q1.2] at C1
  rw [q2.1, q2.2] at C2
  rw [q3.1, q3.2] at C3
  have hlen := foundQ_len (fun L i => spV c (stsOf c us) (L : Int) i) LS c.bt.toNat
  obtain ⟨QL, hQL⟩ : ∃ l, foundQ (fun L i => spV c (stsOf c us) (L : Int) i) LS c.bt.toNat (c.bt.toNat + 1) = l := ⟨_, rfl⟩
  rw [hQL] at hlen C1 C2 C3
  have HLN : Hid (QL.length ≤ 200) := Lib.hid (le_200 hN m9 m8 hlen)
  obtain ⟨LN, hLN⟩ : ∃ n, QL.length = n := ⟨_, rfl⟩
  have HLQ := Lib.hid hLN
  rw [hLN] at HLN
  obtain ⟨Z, hZ⟩ : ∃ Z, stsOf c us = Z := ⟨_, rfl⟩
  rw [hZ] at FD C1 C2 C3
  have HQ := Lib.hid hq
  have HBX : Hid (Have w ((w.alloc (.cells #[.int .i64 x.bt, .int .i64 x.rw, .int .i64 x.wd, .int .i64 x.md, .int .u64 x.sd, .slice A n0 k0] 27)).alloc (.cells #[.int .i64 b0, .int .i64 b1] 76)) [boxT (w.heap.size + 1) 76 #[.int .i64 b0, .int .i64 b1], boxT w.heap.size 27 #[.int .i64 x.bt, .int .i64 x.rw, .int .i64 x.wd, .int .i64 x.md, .int .u64 x.sd, .slice A n0 k0]]) := Lib.hid (by
    have h := (box_new w 27 #[.int .i64 x.bt, .int .i64 x.rw, .int .i64 x.wd, .int .i64 x.md, .int .u64 x.sd, .slice A n0 k0]).push (boxT (w.alloc (.cells #[.int .i64 x.bt, .int .i64 x.rw, .int .i64 x.wd, .int .i64 x.md, .int .u64 x.sd, .slice A n0 k0] 27)).heap.size 76 #[.int .i64 b0, .int .i64 b1]) (Lw.below_alloc (Below.refl _ _) _) (heap_alloc_new (w.alloc (.cells #[.int .i64 x.bt, .int .i64 x.rw, .int .i64 x.wd, .int .i64 x.md, .int .u64 x.sd, .slice A n0 k0] 27)) _) (fun k hk => Nat.le_of_eq hk.symm)
    simpa using h)
  have b0c : 0 ≤ c.bt := Int.le_trans (by decide) hbt
  clear hr hco hC hbt2 hkeys hul hui hus hN hb6 q1 q2 q3 hQL hZ hq hx hlen hLN l1 l2 l3 ls la lab lm hk m7 m8 m9 g1 g2 g3 g4 g5 g6 hbt
  go_enter Tryz.func7, Tryz.ntmps7
  go_wp2_with (first
    | (go_at_call 15; (with_reducible refine (C3.out p F _ (stI HV5.out.i3)).mono ?_); rintro e w6 ⟨A3, n3, cap3, rfl, h1, h2, hb⟩; obtain rfl : LN = n3 := HLQ.out.symm.trans (strI h1).len; have HV6 := Lib.hid (HV5.out.push (stRowT 3 encF A3 LN cap3 QL) hb h1 h2); clear h1 h2 hb; clear c0 c1 c2 c3 c4; obtain ⟨c0, c1, c2, c3, c4⟩ := box5 HV6.out.i3)
    | (go_at_call 15; (with_reducible refine (C2.out p F _ (stI HV4.out.i2)).mono ?_); rintro e w5 ⟨A2, n2, cap2, rfl, h1, h2, hb⟩; obtain rfl : LN = n2 := HLQ.out.symm.trans (strI h1).len; have HV5 := Lib.hid (HV4.out.push (stRowT 3 encF A2 LN cap2 QL) hb h1 h2); clear h1 h2 hb; clear c0 c1 c2 c3 c4; obtain ⟨c0, c1, c2, c3, c4⟩ := box5 HV5.out.i2)
    | (go_at_call 15; (with_reducible refine (C1.out p F _ (stI HV3.out.i1)).mono ?_); rintro e w4 ⟨A1, n1, cap1, rfl, h1, h2, hb⟩; obtain rfl : LN = n1 := HLQ.out.symm.trans (strI h1).len; have HV4 := Lib.hid (HV3.out.push (stRowT 3 encF A1 LN cap1 QL) hb h1 h2); clear h1 h2 hb; clear c0 c1 c2 c3 c4; obtain ⟨c0, c1, c2, c3, c4⟩ := box5 HV4.out.i1)
    | (go_at_call 24; (with_reducible refine (FD.out _ (HQ.out.up HV1.out.below)).mono ?_); rintro e w2 ⟨p, F, rfl, hv⟩; have HV2 := Lib.hid (HV1.out.join hv); simp only [List.cons_append, List.nil_append] at HV2; clear hv; have HV3 := Lib.hid (HV2.out.push (boxT w2.heap.size 24 #[.int .i64 c.bt, .int .i64 c.rw, .int .i64 c.wd, .int .i64 c.md, .int .u64 c.sd]) (Lw.below_alloc (Below.refl _ _) _) (heap_alloc_new w2 _) (fun k hk => Nat.le_of_eq hk.symm)); obtain ⟨c0, c1, c2, c3, c4⟩ := box5 HV3.out.i0; clear x0 x1 x2 x3 x4 x5 y0 y1; obtain ⟨y0, y1⟩ := box2b HV3.out.i2)
    | (go_at_call 9; (with_reducible refine (shown_any _).mono ?_); rintro e w1 ⟨rfl, hb⟩; have HV1 := Lib.hid (HBX.out.up hb); clear hb; obtain ⟨x0, x1, x2, x3, x4, x5⟩ := box6 HV1.out.i1; obtain ⟨y0, y1⟩ := box2b HV1.out.i0))
  obtain ⟨gc, hgc⟩ : ∃ g, w2.heap.size = g := ⟨_, rfl⟩
  rw [hgc] at HV6 ⊢
  clear hgc HV1 HV2 HV3 HV4 HV5 y0 y1 FD C1 C2 C3 HBX a1 a2 a3 d1 d2 d3 d4 e1 e2 e3 e4 wA wA2 m1 m2 m3 m4 m5 m6 mm1 m64 b0c c0 c1 c2 c3 c4
  go_loopw [18] (fun iv wr => ∃ (k : Nat), k ≤ LN ∧ iv = .int .i64 (k : Int) ∧ Have w wr [stRowT 3 encF A3 LN cap3 QL, stRowT 3 encF A2 LN cap2 QL, stRowT 3 encF A1 LN cap1 QL, boxT gc 24 #[.int .i64 c.bt, .int .i64 c.rw, .int .i64 c.wd, .int .i64 c.md, .int .u64 c.sd], stT p F c Z, boxT (w.heap.size + 1) 76 #[.int .i64 b0, .int .i64 b1], boxT w.heap.size 27 #[.int .i64 x.bt, .int .i64 x.rw, .int .i64 x.wd, .int .i64 x.md, .int .u64 x.sd, .slice A n0 k0]]) (fun iv _ => LN - (intOf iv).toNat)
  case atStart => exact ⟨0, Nat.zero_le _, rfl, HV6.out.up (by repeat' (first | (with_reducible exact Below.refl _ _) | (with_reducible assumption) | (with_reducible refine below_over ?_ _ _) | (with_reducible refine Lw.below_alloc ?_ _) | (with_reducible refine Below.drew ?_) | (with_reducible refine below_drewN ?_ _) | (with_reducible refine Below.setCell ?_ ?_ _) | go_size))⟩
  case round =>
   as_aux_lemma =>
    obtain ⟨k, hk, rfl, hv⟩ := hrel
    have HVr := Lib.hid hv
    clear hv
    by_cases hlt : k < LN
    · obtain ⟨q, hq1⟩ : ∃ q, QL[k]? = some q := ⟨_, List.getElem?_eq_getElem (by rw [HLQ.out]; exact hlt)⟩
      obtain ⟨q0, q1, q2, hqq⟩ : ∃ (a b : Nat) (v : Int), q = ((a, b), v) := ⟨_, _, _, rfl⟩
      subst hqq
      obtain ⟨aa3, g3, o3, ee3, had3, cc3⟩ := (strI HVr.out.i0).at hq1 rfl
      subst ee3
      have r30 := cc3 0 _ rfl
      have r31 := cc3 1 _ rfl
      have r32 := cc3 2 _ rfl
      rw [Nat.add_zero] at r30
      simp only at r30 r31 r32
      clear cc3
      obtain ⟨aa2, g2, o2, ee2, had2, cc2⟩ := (strI HVr.out.i1).at hq1 rfl
      subst ee2
      have r20 := cc2 0 _ rfl
      have r21 := cc2 1 _ rfl
      have r22 := cc2 2 _ rfl
      rw [Nat.add_zero] at r20
      simp only at r20 r21 r22
      clear cc2
      obtain ⟨aa1, g1, o1, ee1, had1, cc1⟩ := (strI HVr.out.i2).at hq1 rfl
      subst ee1
      have r10 := cc1 0 _ rfl
      have r11 := cc1 1 _ rfl
      have r12 := cc1 2 _ rfl
      rw [Nat.add_zero] at r10
      simp only at r10 r11 r12
      clear cc1
      have klt : (k : Int) < (LN : Int) := by omega
      have k0 : (0 : Int) ≤ (k : Int) := by omega
      have hL200 := HLN.out
      clear hq1
      go_upto_region 18 with fail
      go_quiet (fail)
      all_goals go_wp2
      all_goals go_roundw
      all_goals first
        | exact ⟨k + 1, hlt, by go_num, HVr.out.up (by repeat' (first | (with_reducible exact Below.refl _ _) | (with_reducible assumption) | (with_reducible refine below_over ?_ _ _) | (with_reducible refine Lw.below_alloc ?_ _) | (with_reducible refine Below.drew ?_) | (with_reducible refine below_drewN ?_ _) | (with_reducible refine Below.setCell ?_ ?_ _) | go_size))⟩
        | (simp [intOf]; omega)
    · obtain rfl : k = LN := by omega
      go_wp2
      go_ret
      exact ⟨ret_bs (by first | rfl | (simp [*]; done)), HVr.out.below⟩
set_option maxRecDepth 100000 in
set_option maxHeartbeats 40000000 in
theorem bud_b (x : Cfg) (A : Option Addr) (n0 k0 : Nat) (qs : Ups) (a b0 b1 : Int) (w : World) (hx : x.Ok) (hq : UpdV w A n0 k0 qs) (V LS V1 A1 V2 A2 N : Int) (a1 : bits .and .i64 a 1099511627775 = V) (a2 : wrap64 (1 + V) = LS) (a3 : IntKind.i64.wrap (1 + V) = LS) (g1 : 1 ≤ LS) (g2 : LS ≤ 1099511627776) (d1 : bits .and .i64 b0 65535 = V1) (d2 : Int.tmod V1 201 = A1) (d3 : wrap64 A1 = A1) (d4 : IntKind.i64.wrap A1 = A1) (g3 : 0 ≤ A1) (g4 : A1 < 201) (e1 : bits .and .i64 b1 65535 = V2) (e2 : Int.tmod V2 201 = A2) (e3 : wrap64 A2 = A2) (e4 : IntKind.i64.wrap A2 = A2) (g5 : 0 ≤ A2) (g6 : A2 < 201)
    (hN : ((countQ (fun L i => spV (anyC x 6 9) (stsOf (anyC x 6 9) (upsR (anyC x 6 9) 0 qs 0 60)) (L : Int) i) LS (anyC x 6 9).bt.toNat ((anyC x 6 9).bt.toNat + 1) : Nat) : Int) = N) (hk : A1 < N) (hk2 : N ≤ A1 + A2) :
    Calls Tryz.prog 7 #[.agg #[.int .i64 x.bt, .int .i64 x.rw, .int .i64 x.wd, .int .i64 x.md, .int .u64 x.sd, .slice A n0 k0], .int .i64 a, .agg #[.int .i64 b0, .int .i64 b1]] w fun e w' => e = .returned (.bool true) ∧ Below w.heap.size w w' := by
  obtain ⟨c, hC⟩ : ∃ c, anyC x 6 9 = c := ⟨_, rfl⟩
  have hr := any_right x 6 9 (by omega) (by omega) (by omega) (by omega)
  have hco := any_ok x hx 6 9 (by omega) (by omega) (by omega) (by omega)
  have FD := Lib.hid (fun w hq => fed_6 x A n0 k0 qs c w hx hq hC)
  rw [hC] at hr hco
  have hbt := hr.1
  have hbt2 := hr.2.1
  have hkeys : 1 ≤ keys c 0 := keys_pos.2 ⟨hr, by omega, by omega⟩
  have hul := upsR_len c 0 qs 0 60
  have hui := upsR_in hkeys qs 0 60
  obtain ⟨us, hus⟩ : ∃ us, upsR c 0 qs 0 60 = us := ⟨_, rfl⟩
  rw [hus] at FD hul hui
  rw [hC, hus] at hN
  have hb6 : c.bt ≤ 6 := by rw [← hC]; exact any_bt x 6 9 (by omega)
  obtain ⟨M, m1, m2, m3, m4, m5, m6, m7, m8, m9⟩ := all_cut hbt hb6
  have m9 := m9 (fun L i => spV c (stsOf c us) (L : Int) i) LS
  rw [hN] at m9
  obtain ⟨wA, wA2, mm1, l1, l2, l3, ls, la, lab, lm⟩ := bud_nums g1 g2 g3 g4 g5 g6 m7 m8
  have m64 : c.bt.toNat ≤ 64 := by clear m2; omega
  have q1 := hv_over (c := c) (pt := (fun L i => spV c (stsOf c us) (L : Int) i)) (least := LS) (bud := A1) g1 l1 (by rw [hN]; exact (by clear m2; omega))
  have q2 := hv_yes (c := c) (pt := (fun L i => spV c (stsOf c us) (L : Int) i)) (least := LS) (bud := A1 + A2) g1 l2 (by rw [hN]; exact (by clear m2; omega))
  have q3 := hv_yes (c := c) (pt := (fun L i => spV c (stsOf c us) (L : Int) i)) (least := LS) (bud := M) g1 l3 (by rw [hN]; exact m9)
  have C1 := Lib.hid (fun p F w hs => hv_heavy p F c (stsOf c us) LS A1 w hs ls.1 ls.2 la.1 la.2)
  have C2 := Lib.hid (fun p F w hs => hv_heavy p F c (stsOf c us) LS (A1 + A2) w hs ls.1 ls.2 lab.1 lab.2)
  have C3 := Lib.hid (fun p F w hs => hv_heavy p F c (stsOf c us) LS M w hs ls.1 ls.2 lm.1 lm.2)
  rw [q1.1, q1.2] at C1
  rw [q2.1, q2.2] at C2
  rw [q3.1, q3.2] at C3
  have hlen := foundQ_len (fun L i => spV c (stsOf c us) (L : Int) i) LS c.bt.toNat
  obtain ⟨QL, hQL⟩ : ∃ l, foundQ (fun L i => spV c (stsOf c us) (L : Int) i) LS c.bt.toNat (c.bt.toNat + 1) = l := ⟨_, rfl⟩
  rw [hQL] at hlen C2 C3
  have HLN : Hid (QL.length ≤ 200) := Lib.hid (le_200 hN m9 m8 hlen)
  obtain ⟨LN, hLN⟩ : ∃ n, QL.length = n := ⟨_, rfl⟩
  have HLQ := Lib.hid hLN
  rw [hLN] at HLN
  obtain ⟨Z, hZ⟩ : ∃ Z, stsOf c us = Z := ⟨_, rfl⟩
  rw [hZ] at FD C1 C2 C3
  have HQ := Lib.hid hq
  have HBX : Hid (Have w ((w.alloc (.cells #[.int .i64 x.bt, .int .i64 x.rw, .int .i64 x.wd, .int .i64 x.md, .int .u64 x.sd, .slice A n0 k0] 27)).alloc (.cells #[.int .i64 b0, .int .i64 b1] 76)) [boxT (w.heap.size + 1) 76 #[.int .i64 b0, .int .i64 b1], boxT w.heap.size 27 #[.int .i64 x.bt, .int .i64 x.rw, .int .i64 x.wd, .int .i64 x.md, .int .u64 x.sd, .slice A n0 k0]]) := Lib.hid (by
    have h := (box_new w 27 #[.int .i64 x.bt, .int .i64 x.rw, .int .i64 x.wd, .int .i64 x.md, .int .u64 x.sd, .slice A n0 k0]).push (boxT (w.alloc (.cells #[.int .i64 x.bt, .int .i64 x.rw, .int .i64 x.wd, .int .i64 x.md, .int .u64 x.sd, .slice A n0 k0] 27)).heap.size 76 #[.int .i64 b0, .int .i64 b1]) (Lw.below_alloc (Below.refl _ _) _) (heap_alloc_new (w.alloc (.cells #[.int .i64 x.bt, .int .i64 x.rw, .int .i64 x.wd, .int .i64 x.md, .int .u64 x.sd, .slice A n0 k0] 27)) _) (fun k hk => Nat.le_of_eq hk.symm)
    simpa using h)
  have b0c : 0 ≤ c.bt := Int.le_trans (by decide) hbt
  clear hr hco hC hbt2 hkeys hul hui hus hN hb6 q1 q2 q3 hQL hZ hq hx hlen hLN l1 l2 l3 ls la lab lm hk hk2 m7 m8 m9 g1 g2 g3 g4 g5 g6 hbt
  go_enter Tryz.func7, Tryz.ntmps7
  go_wp2_with (first
    | (go_at_call 15; (with_reducible refine (C3.out p F _ (stI HV5.out.i3)).mono ?_); rintro e w6 ⟨A3, n3, cap3, rfl, h1, h2, hb⟩; obtain rfl : LN = n3 := HLQ.out.symm.trans (strI h1).len; have HV6 := Lib.hid (HV5.out.push (stRowT 3 encF A3 LN cap3 QL) hb h1 h2); clear h1 h2 hb; clear c0 c1 c2 c3 c4; obtain ⟨c0, c1, c2, c3, c4⟩ := box5 HV6.out.i3)
    | (go_at_call 15; (with_reducible refine (C2.out p F _ (stI HV4.out.i2)).mono ?_); rintro e w5 ⟨A2, n2, cap2, rfl, h1, h2, hb⟩; obtain rfl : LN = n2 := HLQ.out.symm.trans (strI h1).len; have HV5 := Lib.hid (HV4.out.push (stRowT 3 encF A2 LN cap2 QL) hb h1 h2); clear h1 h2 hb; clear c0 c1 c2 c3 c4; obtain ⟨c0, c1, c2, c3, c4⟩ := box5 HV5.out.i2)
    | (go_at_call 15; (with_reducible refine (C1.out p F _ (stI HV3.out.i1)).mono ?_); rintro e w4 ⟨A1, n1, cap1, rfl, h1, h2, hb⟩; obtain rfl : 0 = n1 := (strI h1).len; have HV4 := Lib.hid (HV3.out.push (stRowT 3 encF A1 0 cap1 []) hb h1 h2); clear h1 h2 hb; clear c0 c1 c2 c3 c4; obtain ⟨c0, c1, c2, c3, c4⟩ := box5 HV4.out.i1)
    | (go_at_call 24; (with_reducible refine (FD.out _ (HQ.out.up HV1.out.below)).mono ?_); rintro e w2 ⟨p, F, rfl, hv⟩; have HV2 := Lib.hid (HV1.out.join hv); simp only [List.cons_append, List.nil_append] at HV2; clear hv; have HV3 := Lib.hid (HV2.out.push (boxT w2.heap.size 24 #[.int .i64 c.bt, .int .i64 c.rw, .int .i64 c.wd, .int .i64 c.md, .int .u64 c.sd]) (Lw.below_alloc (Below.refl _ _) _) (heap_alloc_new w2 _) (fun k hk => Nat.le_of_eq hk.symm)); obtain ⟨c0, c1, c2, c3, c4⟩ := box5 HV3.out.i0; clear x0 x1 x2 x3 x4 x5 y0 y1; obtain ⟨y0, y1⟩ := box2b HV3.out.i2)
    | (go_at_call 9; (with_reducible refine (shown_any _).mono ?_); rintro e w1 ⟨rfl, hb⟩; have HV1 := Lib.hid (HBX.out.up hb); clear hb; obtain ⟨x0, x1, x2, x3, x4, x5⟩ := box6 HV1.out.i1; obtain ⟨y0, y1⟩ := box2b HV1.out.i0))
  obtain ⟨gc, hgc⟩ : ∃ g, w2.heap.size = g := ⟨_, rfl⟩
  rw [hgc] at HV6 ⊢
  clear hgc HV1 HV2 HV3 HV4 HV5 y0 y1 FD C1 C2 C3 HBX a1 a2 a3 d1 d2 d3 d4 e1 e2 e3 e4 wA wA2 m1 m2 m3 m4 m5 m6 mm1 m64 b0c c0 c1 c2 c3 c4
  go_loopw [18] (fun iv wr => ∃ (k : Nat), k ≤ LN ∧ iv = .int .i64 (k : Int) ∧ Have w wr [stRowT 3 encF A3 LN cap3 QL, stRowT 3 encF A2 LN cap2 QL, stRowT 3 encF A1 0 cap1 [], boxT gc 24 #[.int .i64 c.bt, .int .i64 c.rw, .int .i64 c.wd, .int .i64 c.md, .int .u64 c.sd], stT p F c Z, boxT (w.heap.size + 1) 76 #[.int .i64 b0, .int .i64 b1], boxT w.heap.size 27 #[.int .i64 x.bt, .int .i64 x.rw, .int .i64 x.wd, .int .i64 x.md, .int .u64 x.sd, .slice A n0 k0]]) (fun iv _ => LN - (intOf iv).toNat)
  case atStart => exact ⟨0, Nat.zero_le _, rfl, HV6.out.up (by repeat' (first | (with_reducible exact Below.refl _ _) | (with_reducible assumption) | (with_reducible refine below_over ?_ _ _) | (with_reducible refine Lw.below_alloc ?_ _) | (with_reducible refine Below.drew ?_) | (with_reducible refine below_drewN ?_ _) | (with_reducible refine Below.setCell ?_ ?_ _) | go_size))⟩
  case round =>
   as_aux_lemma =>
    obtain ⟨k, hk, rfl, hv⟩ := hrel
    have HVr := Lib.hid hv
    clear hv
    by_cases hlt : k < LN
    · obtain ⟨q, hq1⟩ : ∃ q, QL[k]? = some q := ⟨_, List.getElem?_eq_getElem (by rw [HLQ.out]; exact hlt)⟩
      obtain ⟨q0, q1, q2, hqq⟩ : ∃ (a b : Nat) (v : Int), q = ((a, b), v) := ⟨_, _, _, rfl⟩
      subst hqq
      obtain ⟨aa3, g3, o3, ee3, had3, cc3⟩ := (strI HVr.out.i0).at hq1 rfl
      subst ee3
      have r30 := cc3 0 _ rfl
      have r31 := cc3 1 _ rfl
      have r32 := cc3 2 _ rfl
      rw [Nat.add_zero] at r30
      simp only at r30 r31 r32
      clear cc3
      obtain ⟨aa2, g2, o2, ee2, had2, cc2⟩ := (strI HVr.out.i1).at hq1 rfl
      subst ee2
      have r20 := cc2 0 _ rfl
      have r21 := cc2 1 _ rfl
      have r22 := cc2 2 _ rfl
      rw [Nat.add_zero] at r20
      simp only at r20 r21 r22
      clear cc2
      have klt : (k : Int) < (LN : Int) := by omega
      have k0 : (0 : Int) ≤ (k : Int) := by omega
      have hL200 := HLN.out
      clear hq1
      go_upto_region 18 with fail
      go_quiet (fail)
      all_goals go_wp2
      all_goals go_roundw
      all_goals first
        | exact ⟨k + 1, hlt, by go_num, HVr.out.up (by repeat' (first | (with_reducible exact Below.refl _ _) | (with_reducible assumption) | (with_reducible refine below_over ?_ _ _) | (with_reducible refine Lw.below_alloc ?_ _) | (with_reducible refine Below.drew ?_) | (with_reducible refine below_drewN ?_ _) | (with_reducible refine Below.setCell ?_ ?_ _) | go_size))⟩
        | (simp [intOf]; omega)
    · obtain rfl : k = LN := by omega
      go_wp2
      go_ret
      exact ⟨ret_bs (by first | rfl | (simp [*]; done)), HVr.out.below⟩
set_option maxRecDepth 100000 in
set_option maxHeartbeats 40000000 in
theorem bud_n (x : Cfg) (A : Option Addr) (n0 k0 : Nat) (qs : Ups) (a b0 b1 : Int) (w : World) (hx : x.Ok) (hq : UpdV w A n0 k0 qs) (V LS V1 A1 V2 A2 N : Int) (a1 : bits .and .i64 a 1099511627775 = V) (a2 : wrap64 (1 + V) = LS) (a3 : IntKind.i64.wrap (1 + V) = LS) (g1 : 1 ≤ LS) (g2 : LS ≤ 1099511627776) (d1 : bits .and .i64 b0 65535 = V1) (d2 : Int.tmod V1 201 = A1) (d3 : wrap64 A1 = A1) (d4 : IntKind.i64.wrap A1 = A1) (g3 : 0 ≤ A1) (g4 : A1 < 201) (e1 : bits .and .i64 b1 65535 = V2) (e2 : Int.tmod V2 201 = A2) (e3 : wrap64 A2 = A2) (e4 : IntKind.i64.wrap A2 = A2) (g5 : 0 ≤ A2) (g6 : A2 < 201)
    (hN : ((countQ (fun L i => spV (anyC x 6 9) (stsOf (anyC x 6 9) (upsR (anyC x 6 9) 0 qs 0 60)) (L : Int) i) LS (anyC x 6 9).bt.toNat ((anyC x 6 9).bt.toNat + 1) : Nat) : Int) = N) (hk : A1 + A2 < N) :
    Calls Tryz.prog 7 #[.agg #[.int .i64 x.bt, .int .i64 x.rw, .int .i64 x.wd, .int .i64 x.md, .int .u64 x.sd, .slice A n0 k0], .int .i64 a, .agg #[.int .i64 b0, .int .i64 b1]] w fun e w' => e = .returned (.bool true) ∧ Below w.heap.size w w' := by
  obtain ⟨c, hC⟩ : ∃ c, anyC x 6 9 = c := ⟨_, rfl⟩
  have hr := any_right x 6 9 (by omega) (by omega) (by omega) (by omega)
  have hco := any_ok x hx 6 9 (by omega) (by omega) (by omega) (by omega)
  have FD := Lib.hid (fun w hq => fed_6 x A n0 k0 qs c w hx hq hC)
  rw [hC] at hr hco
  have hbt := hr.1
  have hbt2 := hr.2.1
  have hkeys : 1 ≤ keys c 0 := keys_pos.2 ⟨hr, by omega, by omega⟩
  have hul := upsR_len c 0 qs 0 60
  have hui := upsR_in hkeys qs 0 60
  obtain ⟨us, hus⟩ : ∃ us, upsR c 0 qs 0 60 = us := ⟨_, rfl⟩
  rw [hus] at FD hul hui
  rw [hC, hus] at hN
  have hb6 : c.bt ≤ 6 := by rw [← hC]; exact any_bt x 6 9 (by omega)
  obtain ⟨M, m1, m2, m3, m4, m5, m6, m7, m8, m9⟩ := all_cut hbt hb6
  have m9 := m9 (fun L i => spV c (stsOf c us) (L : Int) i) LS
  rw [hN] at m9
  obtain ⟨wA, wA2, mm1, l1, l2, l3, ls, la, lab, lm⟩ := bud_nums g1 g2 g3 g4 g5 g6 m7 m8
  have m64 : c.bt.toNat ≤ 64 := by clear m2; omega
  have q1 := hv_over (c := c) (pt := (fun L i => spV c (stsOf c us) (L : Int) i)) (least := LS) (bud := A1) g1 l1 (by rw [hN]; exact (by clear m2; omega))
  have q2 := hv_over (c := c) (pt := (fun L i => spV c (stsOf c us) (L : Int) i)) (least := LS) (bud := A1 + A2) g1 l2 (by rw [hN]; exact hk)
  have q3 := hv_yes (c := c) (pt := (fun L i => spV c (stsOf c us) (L : Int) i)) (least := LS) (bud := M) g1 l3 (by rw [hN]; exact m9)
  have C1 := Lib.hid (fun p F w hs => hv_heavy p F c (stsOf c us) LS A1 w hs ls.1 ls.2 la.1 la.2)
  have C2 := Lib.hid (fun p F w hs => hv_heavy p F c (stsOf c us) LS (A1 + A2) w hs ls.1 ls.2 lab.1 lab.2)
  have C3 := Lib.hid (fun p F w hs => hv_heavy p F c (stsOf c us) LS M w hs ls.1 ls.2 lm.1 lm.2)
  rw [q1.1, q1.2] at C1
  rw [q2.1, q2.2] at C2
  rw [q3.1, q3.2] at C3
  have hlen := foundQ_len (fun L i => spV c (stsOf c us) (L : Int) i) LS c.bt.toNat
  obtain ⟨QL, hQL⟩ : ∃ l, foundQ (fun L i => spV c (stsOf c us) (L : Int) i) LS c.bt.toNat (c.bt.toNat + 1) = l := ⟨_, rfl⟩
  rw [hQL] at hlen C3
  have HLN : Hid (QL.length ≤ 200) := Lib.hid (le_200 hN m9 m8 hlen)
  obtain ⟨LN, hLN⟩ : ∃ n, QL.length = n := ⟨_, rfl⟩
  have HLQ := Lib.hid hLN
  rw [hLN] at HLN
  obtain ⟨Z, hZ⟩ : ∃ Z, stsOf c us = Z := ⟨_, rfl⟩
  rw [hZ] at FD C1 C2 C3
  have HQ := Lib.hid hq
  have HBX : Hid (Have w ((w.alloc (.cells #[.int .i64 x.bt, .int .i64 x.rw, .int .i64 x.wd, .int .i64 x.md, .int .u64 x.sd, .slice A n0 k0] 27)).alloc (.cells #[.int .i64 b0, .int .i64 b1] 76)) [boxT (w.heap.size + 1) 76 #[.int .i64 b0, .int .i64 b1], boxT w.heap.size 27 #[.int .i64 x.bt, .int .i64 x.rw, .int .i64 x.wd, .int .i64 x.md, .int .u64 x.sd, .slice A n0 k0]]) := Lib.hid (by
    have h := (box_new w 27 #[.int .i64 x.bt, .int .i64 x.rw, .int .i64 x.wd, .int .i64 x.md, .int .u64 x.sd, .slice A n0 k0]).push (boxT (w.alloc (.cells #[.int .i64 x.bt, .int .i64 x.rw, .int .i64 x.wd, .int .i64 x.md, .int .u64 x.sd, .slice A n0 k0] 27)).heap.size 76 #[.int .i64 b0, .int .i64 b1]) (Lw.below_alloc (Below.refl _ _) _) (heap_alloc_new (w.alloc (.cells #[.int .i64 x.bt, .int .i64 x.rw, .int .i64 x.wd, .int .i64 x.md, .int .u64 x.sd, .slice A n0 k0] 27)) _) (fun k hk => Nat.le_of_eq hk.symm)
    simpa using h)
  have b0c : 0 ≤ c.bt := Int.le_trans (by decide) hbt
  clear hr hco hC hbt2 hkeys hul hui hus hN hb6 q1 q2 q3 hQL hZ hq hx hlen hLN l1 l2 l3 ls la lab lm hk m7 m8 m9 g1 g2 g3 g4 g5 g6 hbt
  go_enter Tryz.func7, Tryz.ntmps7
  go_wp2_with (first
    | (go_at_call 15; (with_reducible refine (C3.out p F _ (stI HV5.out.i3)).mono ?_); rintro e w6 ⟨A3, n3, cap3, rfl, h1, h2, hb⟩; obtain rfl : LN = n3 := HLQ.out.symm.trans (strI h1).len; have HV6 := Lib.hid (HV5.out.push (stRowT 3 encF A3 LN cap3 QL) hb h1 h2); clear h1 h2 hb; clear c0 c1 c2 c3 c4; obtain ⟨c0, c1, c2, c3, c4⟩ := box5 HV6.out.i3)
    | (go_at_call 15; (with_reducible refine (C2.out p F _ (stI HV4.out.i2)).mono ?_); rintro e w5 ⟨A2, n2, cap2, rfl, h1, h2, hb⟩; obtain rfl : 0 = n2 := (strI h1).len; have HV5 := Lib.hid (HV4.out.push (stRowT 3 encF A2 0 cap2 []) hb h1 h2); clear h1 h2 hb; clear c0 c1 c2 c3 c4; obtain ⟨c0, c1, c2, c3, c4⟩ := box5 HV5.out.i2)
    | (go_at_call 15; (with_reducible refine (C1.out p F _ (stI HV3.out.i1)).mono ?_); rintro e w4 ⟨A1, n1, cap1, rfl, h1, h2, hb⟩; obtain rfl : 0 = n1 := (strI h1).len; have HV4 := Lib.hid (HV3.out.push (stRowT 3 encF A1 0 cap1 []) hb h1 h2); clear h1 h2 hb; clear c0 c1 c2 c3 c4; obtain ⟨c0, c1, c2, c3, c4⟩ := box5 HV4.out.i1)
    | (go_at_call 24; (with_reducible refine (FD.out _ (HQ.out.up HV1.out.below)).mono ?_); rintro e w2 ⟨p, F, rfl, hv⟩; have HV2 := Lib.hid (HV1.out.join hv); simp only [List.cons_append, List.nil_append] at HV2; clear hv; have HV3 := Lib.hid (HV2.out.push (boxT w2.heap.size 24 #[.int .i64 c.bt, .int .i64 c.rw, .int .i64 c.wd, .int .i64 c.md, .int .u64 c.sd]) (Lw.below_alloc (Below.refl _ _) _) (heap_alloc_new w2 _) (fun k hk => Nat.le_of_eq hk.symm)); obtain ⟨c0, c1, c2, c3, c4⟩ := box5 HV3.out.i0; clear x0 x1 x2 x3 x4 x5 y0 y1; obtain ⟨y0, y1⟩ := box2b HV3.out.i2)
    | (go_at_call 9; (with_reducible refine (shown_any _).mono ?_); rintro e w1 ⟨rfl, hb⟩; have HV1 := Lib.hid (HBX.out.up hb); clear hb; obtain ⟨x0, x1, x2, x3, x4, x5⟩ := box6 HV1.out.i1; obtain ⟨y0, y1⟩ := box2b HV1.out.i0))
  obtain ⟨gc, hgc⟩ : ∃ g, w2.heap.size = g := ⟨_, rfl⟩
  rw [hgc] at HV6 ⊢
  clear hgc HV1 HV2 HV3 HV4 HV5 y0 y1 FD C1 C2 C3 HBX a1 a2 a3 d1 d2 d3 d4 e1 e2 e3 e4 wA wA2 m1 m2 m3 m4 m5 m6 mm1 m64 b0c c0 c1 c2 c3 c4
  go_loopw [18] (fun iv wr => ∃ (k : Nat), k ≤ LN ∧ iv = .int .i64 (k : Int) ∧ Have w wr [stRowT 3 encF A3 LN cap3 QL, stRowT 3 encF A2 0 cap2 [], stRowT 3 encF A1 0 cap1 [], boxT gc 24 #[.int .i64 c.bt, .int .i64 c.rw, .int .i64 c.wd, .int .i64 c.md, .int .u64 c.sd], stT p F c Z, boxT (w.heap.size + 1) 76 #[.int .i64 b0, .int .i64 b1], boxT w.heap.size 27 #[.int .i64 x.bt, .int .i64 x.rw, .int .i64 x.wd, .int .i64 x.md, .int .u64 x.sd, .slice A n0 k0]]) (fun iv _ => LN - (intOf iv).toNat)
  case atStart => exact ⟨0, Nat.zero_le _, rfl, HV6.out.up (by repeat' (first | (with_reducible exact Below.refl _ _) | (with_reducible assumption) | (with_reducible refine below_over ?_ _ _) | (with_reducible refine Lw.below_alloc ?_ _) | (with_reducible refine Below.drew ?_) | (with_reducible refine below_drewN ?_ _) | (with_reducible refine Below.setCell ?_ ?_ _) | go_size))⟩
  case round =>
   as_aux_lemma =>
    obtain ⟨k, hk, rfl, hv⟩ := hrel
    have HVr := Lib.hid hv
    clear hv
    by_cases hlt : k < LN
    · obtain ⟨q, hq1⟩ : ∃ q, QL[k]? = some q := ⟨_, List.getElem?_eq_getElem (by rw [HLQ.out]; exact hlt)⟩
      obtain ⟨q0, q1, q2, hqq⟩ : ∃ (a b : Nat) (v : Int), q = ((a, b), v) := ⟨_, _, _, rfl⟩
      subst hqq
      obtain ⟨aa3, g3, o3, ee3, had3, cc3⟩ := (strI HVr.out.i0).at hq1 rfl
      subst ee3
      have r30 := cc3 0 _ rfl
      have r31 := cc3 1 _ rfl
      have r32 := cc3 2 _ rfl
      rw [Nat.add_zero] at r30
      simp only at r30 r31 r32
      clear cc3
      have klt : (k : Int) < (LN : Int) := by omega
      have k0 : (0 : Int) ≤ (k : Int) := by omega
      have hL200 := HLN.out
      clear hq1
      go_upto_region 18 with fail
      go_quiet (fail)
      all_goals go_wp2
      all_goals go_roundw
      all_goals first
        | exact ⟨k + 1, hlt, by go_num, HVr.out.up (by repeat' (first | (with_reducible exact Below.refl _ _) | (with_reducible assumption) | (with_reducible refine below_over ?_ _ _) | (with_reducible refine Lw.below_alloc ?_ _) | (with_reducible refine Below.drew ?_) | (with_reducible refine below_drewN ?_ _) | (with_reducible refine Below.setCell ?_ ?_ _) | go_size))⟩
        | (simp [intOf]; omega)
    · obtain rfl : k = LN := by omega
      go_wp2
      go_ret
      exact ⟨ret_bs (by first | rfl | (simp [*]; done)), HVr.out.below⟩
theorem budget_law (x : Cfg) (A : Option Addr) (n0 k0 : Nat) (qs : Ups) (a b0 b1 : Int) (w : World) (hx : x.Ok) (hq : UpdV w A n0 k0 qs) :
    Calls Tryz.prog 7 #[.agg #[.int .i64 x.bt, .int .i64 x.rw, .int .i64 x.wd, .int .i64 x.md, .int .u64 x.sd, .slice A n0 k0], .int .i64 a, .agg #[.int .i64 b0, .int .i64 b1]] w fun e w' => e = .returned (.bool true) ∧ Below w.heap.size w w' := by
  obtain ⟨V, LS, a1, a2, a3, g1, g2⟩ := least_cut a
  obtain ⟨V1, A1, d1, d2, d3, d4, g3, g4⟩ := bud_cut b0 201 (by omega) (by omega)
  obtain ⟨V2, A2, e1, e2, e3, e4, g5, g6⟩ := bud_cut b1 201 (by omega) (by omega)
  obtain ⟨N, hN⟩ : ∃ N : Int, ((countQ (fun L i => spV (anyC x 6 9) (stsOf (anyC x 6 9) (upsR (anyC x 6 9) 0 qs 0 60)) (L : Int) i) LS (anyC x 6 9).bt.toNat ((anyC x 6 9).bt.toNat + 1) : Nat) : Int) = N := ⟨_, rfl⟩
  by_cases h1 : N ≤ A1
  · exact bud_a x A n0 k0 qs a b0 b1 w hx hq V LS V1 A1 V2 A2 N a1 a2 a3 g1 g2 d1 d2 d3 d4 g3 g4 e1 e2 e3 e4 g5 g6 hN h1
  · by_cases h2 : N ≤ A1 + A2
    · exact bud_b x A n0 k0 qs a b0 b1 w hx hq V LS V1 A1 V2 A2 N a1 a2 a3 g1 g2 d1 d2 d3 d4 g3 g4 e1 e2 e3 e4 g5 g6 hN (by omega) h2
    · exact bud_n x A n0 k0 qs a b0 b1 w hx hq V LS V1 A1 V2 A2 N a1 a2 a3 g1 g2 d1 d2 d3 d4 g3 g4 e1 e2 e3 e4 g5 g6 hN (by omega)
theorem arr2_int_u : Tryz.prog.underlying 76 = some (.array 2 3) := by kernel_rfl
theorem arr2_int_c : Tryz.prog.cellsOf 76 = 2 := by kernel_rfl
theorem arr2_int_e : Tryz.prog.cellsOf 3 = 1 := by kernel_rfl
theorem arr2_int_k : Tryz.prog.underlying 3 = some (.int .i64) := by kernel_rfl
theorem arr2_int_l {α : Type} (T : Array α) (h : T.size = 2) : ∃ x0 x1 : α, T = #[x0, x1] := by
  obtain ⟨l⟩ := T
  match l, h with
  | [x0, x1], _ => exact ⟨x0, x1, rfl⟩
theorem open_arr2_int {H : Type} {enc : TypeId × Value → H} {W : World} {v : Value} {d : DataW H} {p : List MemPlace} {base : Nat} (hv : Value.okWide Tryz.prog W .any base 76 v)
    (h : DataW.Trod enc Tryz.prog W 0 (fun _ => true) true 76 v d p) :
    ∃ x0 x1 : Int, v = .agg #[.int .i64 x0, .int .i64 x1] ∧ (-9223372036854775808 ≤ x0 ∧ x0 ≤ 9223372036854775807) ∧ (-9223372036854775808 ≤ x1 ∧ x1 ≤ 9223372036854775807) := by
  have hcs : ∃ cs : Array Value, v = .agg cs ∧ cs.size = Tryz.prog.cellsOf 76 := by
    simp only [Value.okWide, arr2_int_u] at hv
    obtain ⟨cs, h1, h2, _⟩ := hv
    exact ⟨cs, h1, h2⟩
  obtain ⟨cs, rfl, hsz⟩ := hcs
  obtain ⟨c0, c1, rfl⟩ := arr2_int_l _ (hsz.trans arr2_int_c)
  obtain ⟨fuel, hf⟩ := h
  obtain ⟨xs, m, _, _, _, hlen, hg⟩ := DataW.trod_array arr2_int_u hf
  have g0 := hg 0 (by omega)
  have g1 := hg 1 (by omega)
  rw [arr2_int_e] at g0 g1
  match xs, hlen with
  | [y0, y1], _ =>
    simp [Value.cells] at g0 g1
    obtain ⟨x0, e0, _, w0⟩ := DataW.trod_int arr2_int_k g0
    obtain ⟨x1, e1, _, w1⟩ := DataW.trod_int arr2_int_k g1
    simp at e0 e1
    subst e0 e1
    exact ⟨x0, x1, rfl, Lw.wf_i64 w0, Lw.wf_i64 w1⟩
namespace heavyBudget
open Go.ChangeShapes Go.WideShapes Go.ChangeAt Go.Joins
set_option maxRecDepth 100000 in
theorem lifted (os : Os) (started : os.Started) (H : Type) (enc : TypeId × Value → H) :
    ReturnsInHanded {} Tryz.checked os 7 .any (Rows.heavyBudgetSpec.pre6 enc Tryz.prog Tryz.f7 Rows.heavyBudgetRow.domain false) (Rows.heavyBudgetSpec.post enc Tryz.prog Tryz.f7 false true false false) := by
  refine Lw.lifted (C := Tryz.checked) (B := 4) (by kernel_rfl) os started (by kernel_rfl) Tryz.func7
    (ChangeSpec.witness6 (enc := enc) (C := Tryz.checked) false ⟨#[], #[.agg #[.int .i64 0, .int .i64 0, .int .i64 0, .int .i64 0, .int .u64 0, .slice none 0 0], .int .i64 0, .agg #[.int .i64 0, .int .i64 0]], []⟩ 8 (by kernel_rfl) (by kernel_rfl) (by kernel_rfl) (by kernel_rfl)) rfl Tryz.underlying4 (by kernel_rfl) (by kernel_rfl) (by kernel_rfl) ?_ ?_
  · intro ds h
    rw [Tryz.params7] at h
    match ds, h with
    | [_, _, _], _ => rfl
  · intro W base args ds p hval hA
    rw [Tryz.params7] at hA hval
    obtain ⟨v0, vs0, d0, ds0, p0, q0, hargs, rfl, rfl, h0, r0⟩ := trodAll_cons hA
    obtain ⟨v1, vs1, d1, ds1, p1, q1, rfl, rfl, rfl, h1, r1⟩ := trodAll_cons r0
    obtain ⟨v2, vs2, d2, ds2, p2, q2, rfl, rfl, rfl, h2, r2⟩ := trodAll_cons r1
    obtain ⟨rfl, rfl, rfl⟩ := trodAll_nil r2
    obtain rfl : args = #[v0, v1, v2] := by cases args; simp_all
    obtain ⟨x0, A0, n0, k0, qs0, rfl, hx0, hq0⟩ := open_playX (hval 0 27 v0 rfl rfl) h0
    obtain ⟨a1, rfl, rfl, rfl, w1⟩ := open_int Tryz.underlying2 (hval 1 2 v1 rfl rfl) h1
    have b1 := Lw.wf_i64 w1
    obtain ⟨x2_0, x2_1, rfl, z2_0, z2_1⟩ := open_arr2_int (hval 2 76 v2 rfl rfl) h2
    exact budget_law x0 A0 n0 k0 qs0 a1 x2_0 x2_1 W hx0 hq0
theorem over : Rows.heavyBudgetRow.holds Tryz.pinned (OpenSpec.ofChange Rows.heavyBudgetSpec) :=
  OpenClaim.holds_of_wide 7 Tryz.f7 rfl rfl rfl rfl rfl rfl rfl ⟨rfl, rfl, rfl, rfl, rfl⟩ rfl rfl rfl rfl rfl (by kernel_rfl) Tryz.func7 (by kernel_rfl)
    (of_decide_eq_true (by kernel_rfl)) (by unfold Func.isWrapper; first | (rw [if_pos (by decide +kernel)]; kernel_rfl) | (rw [if_neg (by decide +kernel)]; exact ⟨rfl, rfl⟩))
    (fun os started H enc _ => lifted os started H enc)
theorem proved : Rows.HeavyBudgetSaid :=
  over
#print axioms proved
end heavyBudget
end Go.Proofs.YtmdkdjgamhaeoaaGreat.Hvy
