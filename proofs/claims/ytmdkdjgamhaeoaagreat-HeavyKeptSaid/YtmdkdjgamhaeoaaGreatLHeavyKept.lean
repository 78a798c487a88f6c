/- The statement HeavyKept of layer 18 holds. Printed by wip/gen/hvy7.py. -/
import Derived.Test.YtmdkdjgamhaeoaaGreatQe
import Derived.Test.YtmdkdjgamhaeoaaGreatQl
import Derived.Test.YtmdkdjgamhaeoaaGreatQm
import Derived.Test.YtmdkdjgamhaeoaaGreatQp
import Derived.Deep.LoopGhost
import Derived.Deep.RegionHeld3
import Derived.Deep.DeepCutAuto
import Derived.Deep.QuietTactic
import Derived.BigQuiet
namespace Go.Proofs.YtmdkdjgamhaeoaaGreat.Hvy
open Go Go.RowKit Lw Grd Lin Con Shp Sk Exa Lev Stk Pcs Spn Qnt
set_option linter.unusedVariables false
set_option linter.unusedSimpArgs false
set_option linter.constructorNameAsVariable false
theorem quad4 {w : World} {a : Addr} {n cap i g o : Nat} {l : List Kp} {q : Kp} (h : StV 4 encR w (some a) n cap l) (hq : l[i]? = some q) (hadd : a.add (i * 4) = ⟨g, o, none⟩) : w.cell? ⟨g, o, none⟩ = some (.int .i64 (q.1.1 : Int)) ∧ w.cell? ⟨g, o + 1, none⟩ = some (.int .u64 (q.1.2 : Int)) ∧ w.cell? ⟨g, o + 2, none⟩ = some (.int .i64 q.2.1) ∧ w.cell? ⟨g, o + 3, none⟩ = some (.int .i64 q.2.2) := by
  obtain ⟨a', g', o', e, h1, h2⟩ := h.at hq rfl
  injection e with e
  subst e
  rw [hadd] at h1
  injection h1 with h1 h3 _
  subst h1 h3
  exact ⟨h2 0 _ rfl, h2 1 _ rfl, h2 2 _ rfl, h2 3 _ rfl⟩
theorem sumQ_0 (K : List Kp) (p : Nat × Nat) (r : Int) : sumQ K p r 0 = r := by
  unfold sumQ
  simp
theorem rest_bd {B : Nat} {least : Int} {l : List ((Nat × Nat) × Int)} {K : List Kp} (h : KeptQ B least 65970697666560 l K) (hl : K.length ≤ 1000) {i : Nat} {x : Kp} (hx : K[i]? = some x) : -(65970697666560 * 1001) ≤ x.2.2 ∧ x.2.2 ≤ 65970697666560 * 1001 := by
  have h1 := (h.good i x hx).2
  have h2 := withinQ_bd (M := 65970697666560) (by decide) (K := K.take i) (fun y hy => h.small y (List.mem_of_mem_take hy)) x.1
  have h3 := h.small x (List.mem_of_getElem? hx)
  have h4 : (K.take i).length ≤ 1000 := by rw [List.length_take]; omega
  omega
set_option maxRecDepth 100000 in
set_option maxHeartbeats 40000000 in
theorem kept_n (x : Cfg) (A : Option Addr) (n0 k0 : Nat) (qs : Ups) (a : Int) (w : World) (hx : x.Ok) (hq : UpdV w A n0 k0 qs) (V LS : Int) (N : Nat) (a1 : bits .and .i64 a 1099511627775 = V) (a2 : wrap64 (1 + V) = LS) (a3 : IntKind.i64.wrap (1 + V) = LS) (g1 : 1 ≤ LS) (g2 : LS ≤ 1099511627776)
    (hN : countQ (fun L i => spV (anyC x 8 9) (stsOf (anyC x 8 9) (upsR (anyC x 8 9) 0 qs 0 60)) (L : Int) i) LS (anyC x 8 9).bt.toNat ((anyC x 8 9).bt.toNat + 1) = N) (hk : 300 < N) :
    Calls Tryz.prog 8 #[.agg #[.int .i64 x.bt, .int .i64 x.rw, .int .i64 x.wd, .int .i64 x.md, .int .u64 x.sd, .slice A n0 k0], .int .i64 a] w fun e w' => e = .returned (.bool true) ∧ Below w.heap.size w w' := by
  obtain ⟨c, hC⟩ : ∃ c, anyC x 8 9 = c := ⟨_, rfl⟩
  have hr := any_right x 8 9 (by omega) (by omega) (by omega) (by omega)
  have hco := any_ok x hx 8 9 (by omega) (by omega) (by omega) (by omega)
  have FD := Lib.hid (fun w hq => fed_8 x A n0 k0 qs c w hx hq hC)
  rw [hC] at hr hco
  have hbt := hr.1
  have hbt2 := hr.2.1
  have hkeys : 1 ≤ keys c 0 := keys_pos.2 ⟨hr, by omega, by omega⟩
  have hul := upsR_len c 0 qs 0 60
  have hui := upsR_in hkeys qs 0 60
  obtain ⟨us, hus⟩ : ∃ us, upsR c 0 qs 0 60 = us := ⟨_, rfl⟩
  rw [hus] at FD hul hui
  rw [hC, hus] at hN
  have q1 := hv_over (c := c) (pt := (fun L i => spV c (stsOf c us) (L : Int) i)) (least := LS) (bud := 300) g1 (by decide) (by rw [hN]; clear hN; omega)
  have q2 := hr_no (c := c) (pt := (fun L i => spV c (stsOf c us) (L : Int) i)) (least := LS) (bud := 300) (by rw [q1.1]; decide)
  rw [q1.1] at q2
  have C1 := Lib.hid (fun p F w hs => hv_heavy p F c (stsOf c us) LS 300 w hs (by omega) (by omega) (by decide) (by decide))
  have C2 := Lib.hid (fun p F w hs => hv_hier p F c (stsOf c us) LS 300 w hs (by omega) (by omega) (by decide) (by decide))
  rw [q1.1, q1.2] at C1
  rw [q2.1, q2.2] at C2
  obtain ⟨Z, hZ⟩ : ∃ Z, stsOf c us = Z := ⟨_, rfl⟩
  rw [hZ] at FD C1 C2
  have HQ := Lib.hid hq
  have HBX : Hid (Have w (w.alloc (.cells #[.int .i64 x.bt, .int .i64 x.rw, .int .i64 x.wd, .int .i64 x.md, .int .u64 x.sd, .slice A n0 k0] 27)) [boxT w.heap.size 27 #[.int .i64 x.bt, .int .i64 x.rw, .int .i64 x.wd, .int .i64 x.md, .int .u64 x.sd, .slice A n0 k0]]) := Lib.hid (box_new w _ _)
  have HG := Lib.hid (And.intro g1 g2)
  clear hr hco hC hbt hbt2 hkeys hul hui hus hN q1 q2 hZ hq hx hk g1 g2
  go_enter Tryz.func8, Tryz.ntmps8
  go_wp2_with (first
    | (go_at_call 17; (with_reducible refine (C2.out p F _ (stI HV4.out.i2)).mono ?_); rintro e w5 ⟨A5, n5, cap5, rfl, h1, h2, hb⟩; obtain rfl : 0 = n5 := (strI h1).len; have HV5 := Lib.hid (HV4.out.push (stRowT 4 encR A5 0 cap5 []) hb h1 h2); clear h1 h2 hb)
    | (go_at_call 15; (with_reducible refine (C1.out p F _ (stI HV3.out.i1)).mono ?_); rintro e w4 ⟨A4, n4, cap4, rfl, h1, h2, hb⟩; obtain rfl : 0 = n4 := (strI h1).len; have HV4 := Lib.hid (HV3.out.push (stRowT 3 encF A4 0 cap4 []) hb h1 h2); clear h1 h2 hb)
    | (go_at_call 24; (with_reducible refine (FD.out _ (HQ.out.up HV1.out.below)).mono ?_); rintro e w2 ⟨p, F, rfl, hv⟩; have HV2 := Lib.hid (HV1.out.join hv); simp only [List.cons_append, List.nil_append] at HV2; clear hv; have HV3 := Lib.hid (HV2.out.push (boxT w2.heap.size 24 #[.int .i64 c.bt, .int .i64 c.rw, .int .i64 c.wd, .int .i64 c.md, .int .u64 c.sd]) (Lw.below_alloc (Below.refl _ _) _) (heap_alloc_new w2 _) (fun k hk => Nat.le_of_eq hk.symm)); clear x0 x1 x2 x3 x4 x5)
    | (go_at_call 9; (with_reducible refine (shown_any _).mono ?_); rintro e w1 ⟨rfl, hb⟩; have HV1 := Lib.hid (HBX.out.up hb); clear hb; obtain ⟨x0, x1, x2, x3, x4, x5⟩ := box6 HV1.out.i0))
  go_ret
  exact ⟨ret_bs (by first | rfl | (simp [*]; done)), HV5.out.below⟩
set_option maxRecDepth 100000 in
set_option maxHeartbeats 40000000 in
theorem kept_y (x : Cfg) (A : Option Addr) (n0 k0 : Nat) (qs : Ups) (a : Int) (w : World) (hx : x.Ok) (hq : UpdV w A n0 k0 qs) (V LS : Int) (N : Nat) (a1 : bits .and .i64 a 1099511627775 = V) (a2 : wrap64 (1 + V) = LS) (a3 : IntKind.i64.wrap (1 + V) = LS) (g1 : 1 ≤ LS) (g2 : LS ≤ 1099511627776)
    (hN : countQ (fun L i => spV (anyC x 8 9) (stsOf (anyC x 8 9) (upsR (anyC x 8 9) 0 qs 0 60)) (L : Int) i) LS (anyC x 8 9).bt.toNat ((anyC x 8 9).bt.toNat + 1) = N) (hk : N ≤ 300) :
    Calls Tryz.prog 8 #[.agg #[.int .i64 x.bt, .int .i64 x.rw, .int .i64 x.wd, .int .i64 x.md, .int .u64 x.sd, .slice A n0 k0], .int .i64 a] w fun e w' => e = .returned (.bool true) ∧ Below w.heap.size w w' := by
  obtain ⟨c, hC⟩ : ∃ c, anyC x 8 9 = c := ⟨_, rfl⟩
  have hr := any_right x 8 9 (by omega) (by omega) (by omega) (by omega)
  have hco := any_ok x hx 8 9 (by omega) (by omega) (by omega) (by omega)
  have FD := Lib.hid (fun w hq => fed_8 x A n0 k0 qs c w hx hq hC)
  rw [hC] at hr hco
  have hbt := hr.1
  have hbt2 := hr.2.1
  have hkeys : 1 ≤ keys c 0 := keys_pos.2 ⟨hr, by omega, by omega⟩
  have hul := upsR_len c 0 qs 0 60
  have hui := upsR_in hkeys qs 0 60
  obtain ⟨us, hus⟩ : ∃ us, upsR c 0 qs 0 60 = us := ⟨_, rfl⟩
  rw [hus] at FD hul hui
  rw [hC, hus] at hN
  have q1 := hv_yes (c := c) (pt := (fun L i => spV c (stsOf c us) (L : Int) i)) (least := LS) (bud := 300) g1 (by decide) (by rw [hN]; clear hN; omega)
  have hlen := foundQ_len (fun L i => spV c (stsOf c us) (L : Int) i) LS c.bt.toNat
  rw [hN] at hlen
  have hmb : ∀ q ∈ foundQ (fun L i => spV c (stsOf c us) (L : Int) i) LS c.bt.toNat (c.bt.toNat + 1), -65970697666560 ≤ q.2 ∧ q.2 ≤ 65970697666560 := by
    intro q hq
    obtain ⟨i, hi⟩ := List.getElem?_of_mem hq
    obtain ⟨h1, h2, h3, h4⟩ := found_at (Nat.le_refl _) hi
    rw [h4]
    exact ptU_bd hr hui hul h1 h2
  obtain ⟨K, hK, hkept⟩ := kept_of (pt := (fun L i => spV c (stsOf c us) (L : Int) i)) (least := LS) (M := 65970697666560) (by decide) (by decide) (B := c.bt.toNat) hmb (by clear hN; omega)
  have q2 := hr_yes (c := c) (pt := (fun L i => spV c (stsOf c us) (L : Int) i)) (least := LS) (bud := 300) q1.1 (K := K) hK
  have C1 := Lib.hid (fun p F w hs => hv_heavy p F c (stsOf c us) LS 300 w hs (by omega) (by omega) (by decide) (by decide))
  have C2 := Lib.hid (fun p F w hs => hv_hier p F c (stsOf c us) LS 300 w hs (by omega) (by omega) (by decide) (by decide))
  rw [q1.1, q1.2] at C1
  rw [q2.1, q2.2] at C2
  have HPT := Lib.hid (fun i q h => found_pt hr us (LS := LS) (i := i) (q := q) h)
  obtain ⟨QL, hQL⟩ : ∃ l, foundQ (fun L i => spV c (stsOf c us) (L : Int) i) LS c.bt.toNat (c.bt.toNat + 1) = l := ⟨_, rfl⟩
  rw [hQL] at hlen HPT C1 hkept
  obtain ⟨LN, hLN⟩ : ∃ n, QL.length = n := ⟨_, rfl⟩
  have HLQ := Lib.hid hLN
  rw [hLN] at hlen
  have hL400 : LN ≤ 300 := by clear hN; omega
  obtain ⟨KN, hKN⟩ : ∃ n, K.length = n := ⟨_, rfl⟩
  have HKQ := Lib.hid hKN
  have hksh := hkept.short
  rw [hKN, hLN] at hksh
  have hklen := hkept.len
  rw [hKN] at hklen
  have HKEPT := Lib.hid hkept
  have HB60 : Hid (c.bt.toNat ≤ 59) := Lib.hid (by clear hN; omega)
  obtain ⟨Z, hZ⟩ : ∃ Z, stsOf c us = Z := ⟨_, rfl⟩
  rw [hZ] at FD C1 C2 HPT
  have HQ := Lib.hid hq
  have HBX : Hid (Have w (w.alloc (.cells #[.int .i64 x.bt, .int .i64 x.rw, .int .i64 x.wd, .int .i64 x.md, .int .u64 x.sd, .slice A n0 k0] 27)) [boxT w.heap.size 27 #[.int .i64 x.bt, .int .i64 x.rw, .int .i64 x.wd, .int .i64 x.md, .int .u64 x.sd, .slice A n0 k0]]) := Lib.hid (box_new w _ _)
  have HG := Lib.hid (And.intro g1 g2)
  clear hr hco hC hbt hbt2 hkeys hul hui hus hN q1 q2 hZ hq hx hk g1 g2 hQL hlen hLN hKN hkept hK hmb
  go_enter Tryz.func8, Tryz.ntmps8
  go_wp2_with (first
    | (go_at_call 17; (with_reducible refine (C2.out p F _ (stI HV4.out.i2)).mono ?_); rintro e w5 ⟨A5, n5, cap5, rfl, h1, h2, hb⟩; obtain rfl : KN = n5 := HKQ.out.symm.trans (strI h1).len; have HV5 := Lib.hid (HV4.out.push (stRowT 4 encR A5 KN cap5 K) hb h1 h2); clear h1 h2 hb)
    | (go_at_call 15; (with_reducible refine (C1.out p F _ (stI HV3.out.i1)).mono ?_); rintro e w4 ⟨A4, n4, cap4, rfl, h1, h2, hb⟩; obtain rfl : LN = n4 := HLQ.out.symm.trans (strI h1).len; have HV4 := Lib.hid (HV3.out.push (stRowT 3 encF A4 LN cap4 QL) hb h1 h2); clear h1 h2 hb)
    | (go_at_call 24; (with_reducible refine (FD.out _ (HQ.out.up HV1.out.below)).mono ?_); rintro e w2 ⟨p, F, rfl, hv⟩; have HV2 := Lib.hid (HV1.out.join hv); simp only [List.cons_append, List.nil_append] at HV2; clear hv; have HV3 := Lib.hid (HV2.out.push (boxT w2.heap.size 24 #[.int .i64 c.bt, .int .i64 c.rw, .int .i64 c.wd, .int .i64 c.md, .int .u64 c.sd]) (Lw.below_alloc (Below.refl _ _) _) (heap_alloc_new w2 _) (fun k hk => Nat.le_of_eq hk.symm)); clear x0 x1 x2 x3 x4 x5)
    | (go_at_call 9; (with_reducible refine (shown_any _).mono ?_); rintro e w1 ⟨rfl, hb⟩; have HV1 := Lib.hid (HBX.out.up hb); clear hb; obtain ⟨x0, x1, x2, x3, x4, x5⟩ := box6 HV1.out.i0))
  obtain ⟨gc, hgc⟩ : ∃ g, w2.heap.size = g := ⟨_, rfl⟩
  rw [hgc] at HV5 ⊢
  clear hgc HV1 HV2 HV3 HV4 FD C1 C2 HBX a1 a2 a3
  go_loopw [12, 13] (fun sv iv wr => ∃ (i : Nat), i ≤ LN ∧ sv = .int .i64 ((keysQ (QL.take i) : Nat) : Int) ∧ iv = .int .i64 (i : Int) ∧ Have w wr [stRowT 4 encR A5 KN cap5 K, stRowT 3 encF A4 LN cap4 QL, boxT gc 24 #[.int .i64 c.bt, .int .i64 c.rw, .int .i64 c.wd, .int .i64 c.md, .int .u64 c.sd], stT p F c Z, boxT w.heap.size 27 #[.int .i64 x.bt, .int .i64 x.rw, .int .i64 x.wd, .int .i64 x.md, .int .u64 x.sd, .slice A n0 k0]]) (fun _ iv _ => LN - (intOf iv).toNat)
  case atStart => exact ⟨0, Nat.zero_le _, rfl, rfl, HV5.out.up (by repeat' (first | (with_reducible exact Below.refl _ _) | (with_reducible assumption) | (with_reducible refine below_over ?_ _ _) | (with_reducible refine Lw.below_alloc ?_ _) | (with_reducible refine Below.drew ?_) | (with_reducible refine below_drewN ?_ _) | (with_reducible refine Below.setCell ?_ ?_ _) | go_size))⟩
  case round =>
    obtain ⟨i, hi, rfl, rfl, hv⟩ := hrel
    have HVr := Lib.hid hv
    clear hv
    by_cases hlt : i < LN
    · obtain ⟨q, hq1⟩ : ∃ q, QL[i]? = some q := ⟨_, List.getElem?_eq_getElem (by rw [HLQ.out]; exact hlt)⟩
      obtain ⟨LV, IX, NV, hqq⟩ : ∃ (a b : Nat) (v : Int), q = ((a, b), v) := ⟨_, _, _, rfl⟩
      subst hqq
      obtain ⟨aa, g, o, ee, had, cc⟩ := (strI HVr.out.i1).at hq1 rfl
      subst ee
      have r0 := cc 0 _ rfl
      rw [Nat.add_zero] at r0
      simp only at r0
      have hkn := keysQ_next hq1
      simp only at hkn
      have hkt := keysQ_take QL i
      rw [HLQ.out] at hkt
      obtain ⟨K1, hK1⟩ : ∃ v, keysQ (QL.take i) = v := ⟨_, rfl⟩
      obtain ⟨K2, hK2⟩ : ∃ v, keysQ (QL.take (i + 1)) = v := ⟨_, rfl⟩
      rw [hK1, hK2] at hkn
      rw [hK1] at hkt
      rw [hK1]
      have HK2 := Lib.hid hK2
      have hi0 : (0 : Int) ≤ (i : Int) := by omega
      have hi1 : (i : Int) < (LN : Int) := by omega
      clear cc hq1 hK1 hK2
      by_cases h0 : LV = 0
      · subst h0
        rw [if_pos rfl] at hkn
        subst hkn
        go_wp2
        go_roundw
        case rel => exact ⟨i + 1, by omega, by rw [HK2.out]; first | rfl | go_num, by go_num, HVr.out.up (by repeat' (first | (with_reducible exact Below.refl _ _) | (with_reducible assumption) | (with_reducible refine below_over ?_ _ _) | (with_reducible refine Lw.below_alloc ?_ _) | (with_reducible refine Below.drew ?_) | (with_reducible refine below_drewN ?_ _) | (with_reducible refine Below.setCell ?_ ?_ _) | go_size))⟩
        case measure => simp [intOf]; omega
      · rw [if_neg h0, Nat.add_zero] at hkn
        subst hkn
        have e1 : ((LV : Int) == 0) = false := beq_eq_false_iff_ne.2 (by omega)
        have e2 : ¬ (LV : Int) = 0 := by omega
        go_wp2
        go_roundw
        case rel => exact ⟨i + 1, by omega, by rw [HK2.out], by go_num, HVr.out.up (by repeat' (first | (with_reducible exact Below.refl _ _) | (with_reducible assumption) | (with_reducible refine below_over ?_ _ _) | (with_reducible refine Lw.below_alloc ?_ _) | (with_reducible refine Below.drew ?_) | (with_reducible refine below_drewN ?_ _) | (with_reducible refine Below.setCell ?_ ?_ _) | go_size))⟩
        case measure => simp [intOf]; omega
    · obtain rfl : i = LN := by omega
      obtain ⟨KY, hKY⟩ : ∃ v, keysQ QL = v := ⟨_, rfl⟩
      have e : QL.take i = QL := by rw [← HLQ.out, List.take_length]
      rw [hKY] at hklen
      rw [e, hKY]
      have HKY := Lib.hid hKY
      have i1 : ¬ (i : Int) < (i : Int) := by omega
      clear e hKY
      go_wp2
      clear i1 hlt hi
      go_loopw [14] (fun iv wr => ∃ (j : Nat), j ≤ KN ∧ iv = .int .i64 (j : Int) ∧ Have w wr [stRowT 4 encR A5 KN cap5 K, stRowT 3 encF A4 i cap4 QL, boxT gc 24 #[.int .i64 c.bt, .int .i64 c.rw, .int .i64 c.wd, .int .i64 c.md, .int .u64 c.sd], stT p F c Z, boxT w.heap.size 27 #[.int .i64 x.bt, .int .i64 x.rw, .int .i64 x.wd, .int .i64 x.md, .int .u64 x.sd, .slice A n0 k0]]) (fun iv _ => KN - (intOf iv).toNat)
      case atStart => exact ⟨0, Nat.zero_le _, rfl, HVr.out.up (by repeat' (first | (with_reducible exact Below.refl _ _) | (with_reducible assumption) | (with_reducible refine below_over ?_ _ _) | (with_reducible refine Lw.below_alloc ?_ _) | (with_reducible refine Below.drew ?_) | (with_reducible refine below_drewN ?_ _) | (with_reducible refine Below.setCell ?_ ?_ _) | go_size))⟩
      case round =>
        as_aux_lemma =>
        obtain ⟨j, hj, rfl, hv⟩ := hrel
        have HVs := Lib.hid hv
        clear hv
        by_cases hjl : j < KN
        · obtain ⟨q, hq1⟩ : ∃ q, K[j]? = some q := ⟨_, List.getElem?_eq_getElem (by rw [HKQ.out]; exact hjl)⟩
          obtain ⟨LX, IX, NX, RX, hqq⟩ : ∃ (a b : Nat) (v z : Int), q = ((a, b), v, z) := ⟨_, _, _, _, rfl⟩
          subst hqq
          have HX := Lib.hid hq1
          obtain ⟨KP, hKP⟩ := HKEPT.out.of j _ hq1
          have hkpl : KP < i := by rw [← HLQ.out]; exact (List.getElem?_eq_some_iff.1 hKP).1
          have HKP := Lib.hid hKP
          obtain ⟨⟨p1, p2⟩, -⟩ := HPT.out KP _ hKP
          simp only at p1 p2
          have lx59 : LX ≤ 59 := by have := HB60.out; omega
          have hks := HKEPT.out.keys j _ hq1
          rw [HKY.out] at hks
          have hrs := HKEPT.out.rest j _ hq1
          have hgd := (HKEPT.out.good j _ hq1).1
          simp only at hks hrs hgd
          have HEND := Lib.hid (show sumQ (K.take j) (LX, IX) RX j = NX from sumQ_end HKEPT.out hq1)
          have HRB := Lib.hid (rest_bd HKEPT.out (by have := hksh; rw [HKQ.out]; omega) hq1)
          simp only at HRB
          obtain ⟨a5, g5, o5, ee, had5, cc⟩ := (strI HVs.out.i0).at hq1 rfl
          subst ee
          have S0 := Lib.hid (fun (W : World) (hb : Below wr.heap.size wr W) => cell_up (cc 0 _ rfl) hb)
          have s0 := cc 0 _ rfl
          have s1 := cc 1 _ rfl
          have s2 := cc 2 _ rfl
          have s3 := cc 3 _ rfl
          rw [Nat.add_zero] at s0
          simp only at s0 s1 s2 s3
          have j0 : (0 : Int) ≤ (j : Int) := by omega
          have j1 : (j : Int) < (KN : Int) := by omega
          have hkn3 : KN ≤ 300 := by omega
          have nlt : ¬ RX < LS := by omega
          have nlt2 : decide (RX < LS) = false := decide_eq_false nlt
          clear cc hq1 hKP p1 p2 hgd S0
          go_wp2
          go_loopw [15, 16] (fun bv kv ws => ∃ (k : Nat) (b : Bool), k ≤ i ∧ bv = .bool b ∧ kv = .int .i64 (k : Int) ∧ (KP < k → b = true) ∧ Have w ws [stRowT 4 encR (some a5) KN cap5 K, stRowT 3 encF A4 i cap4 QL, boxT gc 24 #[.int .i64 c.bt, .int .i64 c.rw, .int .i64 c.wd, .int .i64 c.md, .int .u64 c.sd], stT p F c Z, boxT w.heap.size 27 #[.int .i64 x.bt, .int .i64 x.rw, .int .i64 x.wd, .int .i64 x.md, .int .u64 x.sd, .slice A n0 k0]]) (fun _ kv _ => i - (intOf kv).toNat)
          case atStart => exact ⟨0, false, Nat.zero_le _, rfl, rfl, (fun h => absurd h (Nat.not_lt_zero _)), HVs.out.up (by repeat' (first | (with_reducible exact Below.refl _ _) | (with_reducible assumption) | (with_reducible refine below_over ?_ _ _) | (with_reducible refine Lw.below_alloc ?_ _) | (with_reducible refine Below.drew ?_) | (with_reducible refine below_drewN ?_ _) | (with_reducible refine Below.setCell ?_ ?_ _) | go_size))⟩
          case round =>
            as_aux_lemma =>
            obtain ⟨k, b, hk, rfl, rfl, hbk, hv⟩ := hrel
            have HVt := Lib.hid hv
            have HBK := Lib.hid hbk
            clear hv hbk s0 s1 s2 s3
            obtain ⟨s0, s1, s2, s3⟩ := quad4 (strI HVt.out.i0) HX.out had5
            by_cases hki : k < i
            · have k2 : (k : Int) < (i : Int) := by omega
              have k3 : (0 : Int) ≤ (k : Int) := by omega
              cases b with
              | true =>
                go_upto_region 23 with fail
                go_quiet (fail)
                all_goals go_wp2
                all_goals go_roundw
                all_goals first
                  | exact ⟨k + 1, true, by omega, rfl, by go_num, fun _ => rfl, HVt.out.up (by repeat' (first | (with_reducible exact Below.refl _ _) | (with_reducible assumption) | (with_reducible refine below_over ?_ _ _) | (with_reducible refine Lw.below_alloc ?_ _) | (with_reducible refine Below.drew ?_) | (with_reducible refine below_drewN ?_ _) | (with_reducible refine Below.setCell ?_ ?_ _) | go_size))⟩
                  | (simp [intOf]; omega)
              | false =>
                obtain ⟨q, hq2⟩ : ∃ q, QL[k]? = some q := ⟨_, List.getElem?_eq_getElem (by rw [HLQ.out]; omega)⟩
                obtain ⟨LK, IK, NK, hqq⟩ : ∃ (a b : Nat) (v : Int), q = ((a, b), v) := ⟨_, _, _, rfl⟩
                subst hqq
                have HQ2 := Lib.hid hq2
                obtain ⟨ak, gk, ok, ee, hadk, cc⟩ := (strI HVt.out.i1).at hq2 rfl
                subst ee
                have r0 := cc 0 _ rfl
                have r1 := cc 1 _ rfl
                have r2 := cc 2 _ rfl
                rw [Nat.add_zero] at r0
                simp only at r0 r1 r2
                clear cc hq2
                have HF : Hid (¬ (((LK, IK), NK) : (Nat × Nat) × Int) = ((LX, IX), NX) → (KP < k + 1 → false = true)) := Lib.hid (fun hne h => by
                  exfalso
                  have e : ¬ KP < k := fun e => by have := HBK.out e; cases this
                  have e2 : KP = k := by omega
                  have hv := HKP.out
                  rw [e2, HQ2.out] at hv
                  injection hv with hv
                  exact hne hv)
                by_cases e : LK = LX
                · subst e
                  by_cases e2 : IK = IX
                  · subst e2
                    by_cases e3 : NK = NX
                    · subst e3
                      go_upto_region 23 with fail
                      go_quiet (fail)
                      all_goals go_wp2
                      all_goals go_roundw
                      all_goals first
                        | exact ⟨k + 1, true, by omega, rfl, by go_num, fun _ => rfl, HVt.out.up (by repeat' (first | (with_reducible exact Below.refl _ _) | (with_reducible assumption) | (with_reducible refine below_over ?_ _ _) | (with_reducible refine Lw.below_alloc ?_ _) | (with_reducible refine Below.drew ?_) | (with_reducible refine below_drewN ?_ _) | (with_reducible refine Below.setCell ?_ ?_ _) | go_size))⟩
                        | (simp [intOf]; omega)
                    · have t1 : (NK == NX) = false := beq_eq_false_iff_ne.2 e3
                      have HF2 := Lib.hid (HF.out (fun h => e3 (congrArg (fun x => x.2) h)))
                      go_upto_region 23 with fail
                      go_quiet (fail)
                      all_goals go_wp2
                      all_goals go_roundw
                      all_goals first
                        | exact ⟨k + 1, false, by omega, rfl, by go_num, HF2.out, HVt.out.up (by repeat' (first | (with_reducible exact Below.refl _ _) | (with_reducible assumption) | (with_reducible refine below_over ?_ _ _) | (with_reducible refine Lw.below_alloc ?_ _) | (with_reducible refine Below.drew ?_) | (with_reducible refine below_drewN ?_ _) | (with_reducible refine Below.setCell ?_ ?_ _) | go_size))⟩
                        | (simp [intOf]; omega)
                  · have t1 : ((IK : Int) == (IX : Int)) = false := beq_eq_false_iff_ne.2 (by omega)
                    have t2 : (IK == IX) = false := beq_eq_false_iff_ne.2 e2
                    have t3 : ¬ (IK : Int) = (IX : Int) := by omega
                    have HF2 := Lib.hid (HF.out (fun h => e2 (congrArg (fun x => x.1.2) h)))
                    go_upto_region 23 with fail
                    go_quiet (fail)
                    all_goals go_wp2
                    all_goals go_roundw
                    all_goals first
                      | exact ⟨k + 1, false, by omega, rfl, by go_num, HF2.out, HVt.out.up (by repeat' (first | (with_reducible exact Below.refl _ _) | (with_reducible assumption) | (with_reducible refine below_over ?_ _ _) | (with_reducible refine Lw.below_alloc ?_ _) | (with_reducible refine Below.drew ?_) | (with_reducible refine below_drewN ?_ _) | (with_reducible refine Below.setCell ?_ ?_ _) | go_size))⟩
                      | (simp [intOf]; omega)
                · have t1 : ((LK : Int) == (LX : Int)) = false := beq_eq_false_iff_ne.2 (by omega)
                  have t2 : (LK == LX) = false := beq_eq_false_iff_ne.2 e
                  have t3 : ¬ (LK : Int) = (LX : Int) := by omega
                  have HF2 := Lib.hid (HF.out (fun h => e (congrArg (fun x => x.1.1) h)))
                  go_upto_region 23 with fail
                  go_quiet (fail)
                  all_goals go_wp2
                  all_goals go_roundw
                  all_goals first
                    | exact ⟨k + 1, false, by omega, rfl, by go_num, HF2.out, HVt.out.up (by repeat' (first | (with_reducible exact Below.refl _ _) | (with_reducible assumption) | (with_reducible refine below_over ?_ _ _) | (with_reducible refine Lw.below_alloc ?_ _) | (with_reducible refine Below.drew ?_) | (with_reducible refine below_drewN ?_ _) | (with_reducible refine Below.setCell ?_ ?_ _) | go_size))⟩
                    | (simp [intOf]; omega)
            · obtain rfl : k = i := by omega
              have hbt := HBK.out hkpl
              subst hbt
              have k1 : ¬ (k : Int) < (k : Int) := by omega
              go_upto_region 24 with fail
              clear k1 hki
              go_cut [143] (fun s wx => s = .bool false ∧ Have w wx [stRowT 4 encR (some a5) KN cap5 K, stRowT 3 encF A4 k cap4 QL, boxT gc 24 #[.int .i64 c.bt, .int .i64 c.rw, .int .i64 c.wd, .int .i64 c.md, .int .u64 c.sd], stT p F c Z, boxT w.heap.size 27 #[.int .i64 x.bt, .int .i64 x.rw, .int .i64 x.wd, .int .i64 x.md, .int .u64 x.sd, .slice A n0 k0]])
              case first =>
                as_aux_lemma =>
                by_cases hl0 : LX = 0
                · have hrn := hrs hl0
                  subst hl0
                  subst hrn
                  go_quiet (fail)
                  all_goals go_wp2
                  all_goals go_meet
                  all_goals exact ⟨rfl, HVt.out.up (by repeat' (first | (with_reducible exact Below.refl _ _) | (with_reducible assumption) | (with_reducible refine below_over ?_ _ _) | (with_reducible refine Lw.below_alloc ?_ _) | (with_reducible refine Below.drew ?_) | (with_reducible refine below_drewN ?_ _) | (with_reducible refine Below.setCell ?_ ?_ _) | go_size))⟩
                · have t1 : ((LX : Int) == 0) = false := beq_eq_false_iff_ne.2 (by omega)
                  have t2 : ¬ (LX : Int) = 0 := by omega
                  have t3 : ¬ LX = 0 := hl0
                  go_quiet (fail)
                  all_goals go_wp2
                  all_goals go_meet
                  all_goals exact ⟨rfl, HVt.out.up (by repeat' (first | (with_reducible exact Below.refl _ _) | (with_reducible assumption) | (with_reducible refine below_over ?_ _ _) | (with_reducible refine Lw.below_alloc ?_ _) | (with_reducible refine Below.drew ?_) | (with_reducible refine below_drewN ?_ _) | (with_reducible refine Below.setCell ?_ ?_ _) | go_size))⟩
              case rest =>
                as_aux_lemma =>
                obtain ⟨rfl, hv⟩ := hcut
                obtain ⟨wt, rfl⟩ : ∃ wt, wt = wc := ⟨_, rfl⟩
                have HVu := Lib.hid hv
                clear hv s0 s1 s2 s3
                obtain ⟨s0, s1, s2, s3⟩ := quad4 (strI HVu.out.i0) HX.out had5
                go_wp2
                clear s0 s1 s2 s3
                go_loopw [17, 18] (fun sv kv ws => ∃ (m : Nat), m ≤ j ∧ sv = .int .i64 (sumQ (K.take j) (LX, IX) RX m) ∧ kv = .int .i64 (m : Int) ∧ Have w ws [stRowT 4 encR (some a5) KN cap5 K, stRowT 3 encF A4 k cap4 QL, boxT gc 24 #[.int .i64 c.bt, .int .i64 c.rw, .int .i64 c.wd, .int .i64 c.md, .int .u64 c.sd], stT p F c Z, boxT w.heap.size 27 #[.int .i64 x.bt, .int .i64 x.rw, .int .i64 x.wd, .int .i64 x.md, .int .u64 x.sd, .slice A n0 k0]]) (fun _ kv _ => j - (intOf kv).toNat)
                case atStart => exact ⟨0, Nat.zero_le _, by rw [sumQ_0], rfl, HVu.out.up (by repeat' (first | (with_reducible exact Below.refl _ _) | (with_reducible assumption) | (with_reducible refine below_over ?_ _ _) | (with_reducible refine Lw.below_alloc ?_ _) | (with_reducible refine Below.drew ?_) | (with_reducible refine below_drewN ?_ _) | (with_reducible refine Below.setCell ?_ ?_ _) | go_size))⟩
                case round =>
                  as_aux_lemma =>
                  obtain ⟨m, hm, rfl, rfl, hv⟩ := hrel
                  have HVx := Lib.hid hv
                  clear hv
                  obtain ⟨s0, s1, s2, s3⟩ := quad4 (strI HVx.out.i0) HX.out had5
                  by_cases hmj : m < j
                  · as_aux_lemma =>
                    obtain ⟨q, hq2⟩ : ∃ q, K[m]? = some q := ⟨_, List.getElem?_eq_getElem (by rw [HKQ.out]; omega)⟩
                    obtain ⟨LK, IK, NK, RK, hqq⟩ : ∃ (a b : Nat) (v z : Int), q = ((a, b), v, z) := ⟨_, _, _, _, rfl⟩
                    subst hqq
                    have HM := Lib.hid hq2
                    have HMT := Lib.hid (show (K.take j)[m]? = some ((LK, IK), NK, RK) by rw [List.getElem?_take, if_pos hmj]; exact hq2)
                    have lk59 : LK ≤ 59 := by
                      obtain ⟨kk, hkk⟩ := HKEPT.out.of m _ hq2
                      obtain ⟨⟨p1, -⟩, -⟩ := HPT.out kk _ hkk
                      have := HB60.out
                      simp only at p1
                      omega
                    obtain ⟨a6, g6, o6, ee, had6, cc⟩ := (strI HVx.out.i0).at hq2 rfl
                    injection ee with ee
                    subst ee
                    clear cc
                    obtain ⟨t0, t1, t2, t3⟩ := quad4 (strI HVx.out.i0) HM.out had6
                    simp only at t0 t1 t2 t3
                    have hmo : Tryz.prog.follows .mixedOrders = true := by kernel_rfl
                    have ss0 := cell_sgrow s0
                    have ss1 := cell_sgrow s1
                    have tt0 := cell_sgrow t0
                    have tt1 := cell_sgrow t1
                    have m1 : (m : Int) < (j : Int) := by omega
                    have m0 : (0 : Int) ≤ (m : Int) := by omega
                    have m2 : (m : Int) < (KN : Int) := by omega
                    obtain ⟨b0, hb0⟩ : ∃ b, inQ (LK, IK) (LX, IX) = b := ⟨_, rfl⟩
                    have hsb := sumQ_bd (M := 65970697666560) (by decide) (by decide) (K := K.take j) (p := (LX, IX)) (r := RX) (fun y hy => HKEPT.out.small y (List.mem_of_mem_take hy)) HRB.out (k := m + 1) (by omega)
                    have HSB := Lib.hid hsb
                    have HFI := Lib.hid ((altQ_first (p := (LX, IX)) HMT.out).trans hb0)
                    clear hsb hq2
                    go_upto_region 30 with fail
                    go_quiet_grown (first | (go_at_call 30; refine rin_grown LK IK LX IX _ _ _ (by omega) (by omega) hb0))
                    go_wp2
                    have HVy := Lib.hid (HVx.out.up (below_sgrow _ nq osq))
                    clear s0 s1 s2 s3 t0 t1 t2 t3 ss0 ss1 tt0 tt1
                    go_loopw [19, 20] (fun bv mv ws => ∃ (n : Nat) (b : Bool), m + 1 ≤ n ∧ n ≤ j ∧ bv = .bool b ∧ mv = .int .i64 (n : Int) ∧ altQ (K.take j) m (LX, IX) n = b ∧ Have w ws [stRowT 4 encR (some a5) KN cap5 K, stRowT 3 encF A4 k cap4 QL, boxT gc 24 #[.int .i64 c.bt, .int .i64 c.rw, .int .i64 c.wd, .int .i64 c.md, .int .u64 c.sd], stT p F c Z, boxT w.heap.size 27 #[.int .i64 x.bt, .int .i64 x.rw, .int .i64 x.wd, .int .i64 x.md, .int .u64 x.sd, .slice A n0 k0]]) (fun _ mv _ => j - (intOf mv).toNat)
                    case atStart => exact ⟨m + 1, b0, Nat.le_refl _, by omega, rfl, by first | rfl | go_num, HFI.out, HVy.out.up (by repeat' (first | (with_reducible exact Below.refl _ _) | (with_reducible assumption) | (with_reducible refine below_over ?_ _ _) | (with_reducible refine Lw.below_alloc ?_ _) | (with_reducible refine Below.drew ?_) | (with_reducible refine below_drewN ?_ _) | (with_reducible refine Below.setCell ?_ ?_ _) | go_size))⟩
                    case round =>
                      as_aux_lemma =>
                      obtain ⟨n, b, hn1, hn2, rfl, rfl, halt, hv⟩ := hrel
                      have HVz := Lib.hid hv
                      have HALT := Lib.hid halt
                      clear hv halt
                      by_cases hnj : n < j
                      · obtain ⟨q, hq3⟩ : ∃ q, K[n]? = some q := ⟨_, List.getElem?_eq_getElem (by rw [HKQ.out]; omega)⟩
                        obtain ⟨LY, IY, NY, RY, hqq⟩ : ∃ (a b : Nat) (v z : Int), q = ((a, b), v, z) := ⟨_, _, _, _, rfl⟩
                        subst hqq
                        have HNT := Lib.hid (show (K.take j)[n]? = some ((LY, IY), NY, RY) by rw [List.getElem?_take, if_pos hnj]; exact hq3)
                        have ly59 : LY ≤ 59 := by
                          obtain ⟨kk, hkk⟩ := HKEPT.out.of n _ hq3
                          obtain ⟨⟨p1, -⟩, -⟩ := HPT.out kk _ hkk
                          have := HB60.out
                          simp only at p1
                          omega
                        have hax := altQ_next (p := (LX, IX)) HMT.out HNT.out (show m < n by omega)
                        rw [HALT.out] at hax
                        obtain ⟨a7, g7, o7, ee, had7, cc⟩ := (strI HVz.out.i0).at hq3 rfl
                        injection ee with ee
                        subst ee
                        clear cc
                        obtain ⟨s0, s1, s2, s3⟩ := quad4 (strI HVz.out.i0) HX.out had5
                        obtain ⟨t0, t1, t2, t3⟩ := quad4 (strI HVz.out.i0) HM.out had6
                        obtain ⟨v0, v1, v2, v3⟩ := quad4 (strI HVz.out.i0) hq3 had7
                        simp only at s0 s1 t0 t1 v0 v1
                        have n1 : (n : Int) < (j : Int) := by omega
                        have n2 : (n : Int) < (KN : Int) := by omega
                        have n3 : (0 : Int) ≤ (n : Int) := by omega
                        obtain ⟨b1, hb1⟩ : ∃ b, inQ (LK, IK) (LY, IY) = b := ⟨_, rfl⟩
                        obtain ⟨b2, hb2⟩ : ∃ b, inQ (LY, IY) (LX, IX) = b := ⟨_, rfl⟩
                        simp only at hax
                        rw [hb1, hb2] at hax
                        have HAX := Lib.hid hax
                        have CI1 := Lib.hid (fun w => rin_any LK IK LY IY w (by omega) (by omega))
                        have CI2 := Lib.hid (fun w => rin_any LY IY LX IX w (by omega) (by omega))
                        rw [hb1] at CI1
                        rw [hb2] at CI2
                        clear hax hq3 s2 s3 t2 t3 v2 v3
                        cases b with
                        | false =>
                          as_aux_lemma =>
                          go_upto_region 34 with fail
                          go_quiet (fail)
                          all_goals go_wp2
                          all_goals go_roundw
                          all_goals first
                            | exact ⟨n + 1, false, by omega, by omega, rfl, by go_num, (by rw [HAX.out]; rfl), HVz.out.up (by repeat' (first | (with_reducible exact Below.refl _ _) | (with_reducible assumption) | (with_reducible refine below_over ?_ _ _) | (with_reducible refine Lw.below_alloc ?_ _) | (with_reducible refine Below.drew ?_) | (with_reducible refine below_drewN ?_ _) | (with_reducible refine Below.setCell ?_ ?_ _) | go_size))⟩
                            | (simp [intOf]; omega)
                        | true =>
                          cases b1 with
                          | false =>
                            as_aux_lemma =>
                            go_upto_region 34 with fail
                            refine wp_region_held_drew (S := (fun w' => w'.cell? ⟨g5, o5, none⟩ = some (.int .i64 (LX : Int)) ∧ w'.cell? ⟨g5, o5 + 1, none⟩ = some (.int .u64 (IX : Int)) ∧ w'.cell? ⟨g6, o6, none⟩ = some (.int .i64 (LK : Int)) ∧ w'.cell? ⟨g6, o6 + 1, none⟩ = some (.int .u64 (IK : Int)) ∧ w'.cell? ⟨g7, o7, none⟩ = some (.int .i64 (LY : Int)) ∧ w'.cell? ⟨g7, o7 + 1, none⟩ = some (.int .u64 (IY : Int)))) (by kernel_rfl) (by (first | (refine ⟨?_, ?_, ?_, ?_, ?_, ?_⟩ <;> (first | (with_reducible assumption) | (with_reducible refine cell_up s0 ?_) | (with_reducible refine cell_up s1 ?_) | (with_reducible refine cell_up t0 ?_) | (with_reducible refine cell_up t1 ?_) | (with_reducible refine cell_up v0 ?_) | (with_reducible refine cell_up v1 ?_)) <;> (repeat' (first | (with_reducible exact Below.refl _ _) | (with_reducible assumption) | (with_reducible refine below_over ?_ _ _) | (with_reducible refine Lw.below_alloc ?_ _) | (with_reducible refine Below.drew ?_) | (with_reducible refine below_drewN ?_ _) | (with_reducible refine Below.setCell ?_ ?_ _) | go_size))))) (fun hHeld => ?_)
                            refine wpAnyH_take (i := 0) (v := ?_) rfl (by kernel_rfl) (by kernel_rfl) (by kernel_rfl) (fun _ _ _ h => h) (Or.inl ⟨by rfl, ?_⟩) hHeld ?_
                            rotate_left
                            · intro w hSw
                              (try dsimp only at hSw)
                              go_simp
                              (try with_reducible rfl)
                            (try simp only [List.getElem_toArray, List.getElem_cons_zero, List.getElem_cons_succ, Act.put, List.setIfInBounds_toArray, List.set_cons_zero, List.set_cons_succ])
                            refine wpAnyH_take (i := 1) (v := ?_) rfl (by kernel_rfl) (by kernel_rfl) (by kernel_rfl) (fun _ _ _ h => h) (Or.inl ⟨by rfl, ?_⟩) hHeld ?_
                            rotate_left
                            · intro w hSw
                              (try dsimp only at hSw)
                              go_simp
                              (try with_reducible rfl)
                            (try simp only [List.getElem_toArray, List.getElem_cons_zero, List.getElem_cons_succ, Act.put, List.setIfInBounds_toArray, List.set_cons_zero, List.set_cons_succ])
                            refine wpAnyH_take (i := 2) (v := ?_) rfl (by kernel_rfl) (by kernel_rfl) (by kernel_rfl) (fun _ _ _ h => h) (Or.inl ⟨by rfl, ?_⟩) hHeld ?_
                            rotate_left
                            · intro w hSw
                              (try dsimp only at hSw)
                              go_simp
                              (try with_reducible rfl)
                            (try simp only [List.getElem_toArray, List.getElem_cons_zero, List.getElem_cons_succ, Act.put, List.setIfInBounds_toArray, List.set_cons_zero, List.set_cons_succ])
                            refine wpAnyH_take (i := 3) (v := ?_) rfl (by kernel_rfl) (by kernel_rfl) (by kernel_rfl) (fun _ _ _ h => h) (Or.inl ⟨by rfl, ?_⟩) hHeld ?_
                            rotate_left
                            · intro w hSw
                              (try dsimp only at hSw)
                              go_simp
                              (try with_reducible rfl)
                            (try simp only [List.getElem_toArray, List.getElem_cons_zero, List.getElem_cons_succ, Act.put, List.setIfInBounds_toArray, List.set_cons_zero, List.set_cons_succ])
                            refine wpAnyH_take (i := 4) (v := ?_) rfl (by kernel_rfl) (by kernel_rfl) (by kernel_rfl) (fun _ _ _ h => h) (Or.inl ⟨by rfl, ?_⟩) hHeld ?_
                            rotate_left
                            · intro w hSw
                              (try dsimp only at hSw)
                              go_simp
                              (try with_reducible rfl)
                            (try simp only [List.getElem_toArray, List.getElem_cons_zero, List.getElem_cons_succ, Act.put, List.setIfInBounds_toArray, List.set_cons_zero, List.set_cons_succ])
                            refine wpAnyH_take (i := 5) (v := ?_) rfl (by kernel_rfl) (by kernel_rfl) (by kernel_rfl) (fun _ _ _ h => h) (Or.inl ⟨by rfl, ?_⟩) hHeld ?_
                            rotate_left
                            · intro w hSw
                              (try dsimp only at hSw)
                              go_simp
                              (try with_reducible rfl)
                            (try simp only [List.getElem_toArray, List.getElem_cons_zero, List.getElem_cons_succ, Act.put, List.setIfInBounds_toArray, List.set_cons_zero, List.set_cons_succ])
                            refine wpAnyH_take (i := 6) (v := ?_) rfl (by kernel_rfl) (by kernel_rfl) (by kernel_rfl) (fun _ _ _ h => h) (Or.inl ⟨by rfl, ?_⟩) hHeld ?_
                            rotate_left
                            · intro w hSw
                              (try dsimp only at hSw)
                              go_simp
                              (try with_reducible rfl)
                            (try simp only [List.getElem_toArray, List.getElem_cons_zero, List.getElem_cons_succ, Act.put, List.setIfInBounds_toArray, List.set_cons_zero, List.set_cons_succ])
                            refine wpAnyH_take (i := 7) (v := ?_) rfl (by kernel_rfl) (by kernel_rfl) (by kernel_rfl) (fun _ _ _ h => h) (Or.inl ⟨by rfl, ?_⟩) hHeld ?_
                            rotate_left
                            · intro w hSw
                              (try dsimp only at hSw)
                              go_simp
                              (try with_reducible rfl)
                            (try simp only [List.getElem_toArray, List.getElem_cons_zero, List.getElem_cons_succ, Act.put, List.setIfInBounds_toArray, List.set_cons_zero, List.set_cons_succ])
                            refine wpAnyH_take (i := 8) (v := ?_) rfl (by kernel_rfl) (by kernel_rfl) (by kernel_rfl) (fun _ _ _ h => h) (Or.inl ⟨by rfl, ?_⟩) hHeld ?_
                            rotate_left
                            · intro w hSw
                              (try dsimp only at hSw)
                              go_simp
                              (try with_reducible rfl)
                            (try simp only [List.getElem_toArray, List.getElem_cons_zero, List.getElem_cons_succ, Act.put, List.setIfInBounds_toArray, List.set_cons_zero, List.set_cons_succ])
                            refine wpAnyH_take (i := 9) (v := ?_) rfl (by kernel_rfl) (by kernel_rfl) (by kernel_rfl) (fun _ _ _ h => h) (Or.inl ⟨by rfl, ?_⟩) hHeld ?_
                            rotate_left
                            · intro w hSw
                              (try dsimp only at hSw)
                              go_simp
                              (try with_reducible rfl)
                            (try simp only [List.getElem_toArray, List.getElem_cons_zero, List.getElem_cons_succ, Act.put, List.setIfInBounds_toArray, List.set_cons_zero, List.set_cons_succ])
                            refine wpAnyH_take (i := 10) (v := ?_) rfl (by kernel_rfl) (by kernel_rfl) (by kernel_rfl) (fun _ _ _ h => h) (Or.inl ⟨by rfl, ?_⟩) hHeld ?_
                            rotate_left
                            · intro w hSw
                              (try dsimp only at hSw)
                              go_simp
                              (try with_reducible rfl)
                            (try simp only [List.getElem_toArray, List.getElem_cons_zero, List.getElem_cons_succ, Act.put, List.setIfInBounds_toArray, List.set_cons_zero, List.set_cons_succ])
                            refine wpAnyH_take (i := 11) (v := ?_) rfl (by kernel_rfl) (by kernel_rfl) (by kernel_rfl) (fun _ _ _ h => h) (Or.inl ⟨by rfl, ?_⟩) hHeld ?_
                            rotate_left
                            · intro w hSw
                              (try dsimp only at hSw)
                              go_simp
                              (try with_reducible rfl)
                            (try simp only [List.getElem_toArray, List.getElem_cons_zero, List.getElem_cons_succ, Act.put, List.setIfInBounds_toArray, List.set_cons_zero, List.set_cons_succ])
                            refine wpAnyH_ready (rs := [12]) (by kernel_rfl) (by simp) ?_
                            refine AllReadyH.cons rfl (fun K hK => ?_) AllReadyH.nil
                            go_simp
                            (first | (go_at_call 30; (with_reducible refine (CI1.out _).mono ?_); rintro e w' ⟨rfl, hb⟩; obtain ⟨bs1, d1, rfl⟩ := below_grow hb; clear hb) | (go_at_call 30; (with_reducible refine (CI2.out _).mono ?_); rintro e w' ⟨rfl, hb⟩; obtain ⟨bs2, d2, rfl⟩ := below_grow hb; clear hb))
                            refine hK.out _ _ (by (first | (refine ⟨?_, ?_, ?_, ?_, ?_, ?_⟩ <;> (first | (with_reducible assumption) | (with_reducible refine cell_up s0 ?_) | (with_reducible refine cell_up s1 ?_) | (with_reducible refine cell_up t0 ?_) | (with_reducible refine cell_up t1 ?_) | (with_reducible refine cell_up v0 ?_) | (with_reducible refine cell_up v1 ?_)) <;> (repeat' (first | (with_reducible exact Below.refl _ _) | (with_reducible assumption) | (with_reducible refine below_over ?_ _ _) | (with_reducible refine Lw.below_alloc ?_ _) | (with_reducible refine Below.drew ?_) | (with_reducible refine below_drewN ?_ _) | (with_reducible refine Below.setCell ?_ ?_ _) | go_size))))) (fun hHeld => ?_)
                            clear hK K
                            (try simp only [List.getElem_toArray, List.getElem_cons_zero, List.getElem_cons_succ, Act.put, List.setIfInBounds_toArray, List.set_cons_zero, List.set_cons_succ])
                            refine wpAnyH_take (i := 13) (v := ?_) rfl (by kernel_rfl) (by kernel_rfl) (by kernel_rfl) (fun _ _ _ h => h) (Or.inl ⟨by rfl, ?_⟩) hHeld ?_
                            rotate_left
                            · intro w hSw
                              (try dsimp only at hSw)
                              go_simp
                              (try with_reducible rfl)
                            (try simp only [List.getElem_toArray, List.getElem_cons_zero, List.getElem_cons_succ, Act.put, List.setIfInBounds_toArray, List.set_cons_zero, List.set_cons_succ])
                            refine wpAnyH_take (i := 14) (v := undef) rfl (by kernel_rfl) (by kernel_rfl) (by kernel_rfl) (fun _ _ _ h => h) (Or.inr ⟨by rfl, rfl⟩) hHeld ?_
                            (try simp only [List.getElem_toArray, List.getElem_cons_zero, List.getElem_cons_succ, Act.put, List.setIfInBounds_toArray, List.set_cons_zero, List.set_cons_succ])
                            refine wpAnyH_take (i := 15) (v := undef) rfl (by kernel_rfl) (by kernel_rfl) (by kernel_rfl) (fun _ _ _ h => h) (Or.inr ⟨by rfl, rfl⟩) hHeld ?_
                            (try simp only [List.getElem_toArray, List.getElem_cons_zero, List.getElem_cons_succ, Act.put, List.setIfInBounds_toArray, List.set_cons_zero, List.set_cons_succ])
                            refine wpAnyH_take (i := 16) (v := undef) rfl (by kernel_rfl) (by kernel_rfl) (by kernel_rfl) (fun _ _ _ h => h) (Or.inr ⟨by rfl, rfl⟩) hHeld ?_
                            (try simp only [List.getElem_toArray, List.getElem_cons_zero, List.getElem_cons_succ, Act.put, List.setIfInBounds_toArray, List.set_cons_zero, List.set_cons_succ])
                            refine wpAnyH_take (i := 17) (v := undef) rfl (by kernel_rfl) (by kernel_rfl) (by kernel_rfl) (fun _ _ _ h => h) (Or.inr ⟨by rfl, rfl⟩) hHeld ?_
                            (try simp only [List.getElem_toArray, List.getElem_cons_zero, List.getElem_cons_succ, Act.put, List.setIfInBounds_toArray, List.set_cons_zero, List.set_cons_succ])
                            refine wpAnyH_take (i := 18) (v := undef) rfl (by kernel_rfl) (by kernel_rfl) (by kernel_rfl) (fun _ _ _ h => h) (Or.inr ⟨by rfl, rfl⟩) hHeld ?_
                            (try simp only [List.getElem_toArray, List.getElem_cons_zero, List.getElem_cons_succ, Act.put, List.setIfInBounds_toArray, List.set_cons_zero, List.set_cons_succ])
                            refine wpAnyH_take (i := 19) (v := undef) rfl (by kernel_rfl) (by kernel_rfl) (by kernel_rfl) (fun _ _ _ h => h) (Or.inr ⟨by rfl, rfl⟩) hHeld ?_
                            (try simp only [List.getElem_toArray, List.getElem_cons_zero, List.getElem_cons_succ, Act.put, List.setIfInBounds_toArray, List.set_cons_zero, List.set_cons_succ])
                            refine wpAnyH_take (i := 20) (v := undef) rfl (by kernel_rfl) (by kernel_rfl) (by kernel_rfl) (fun _ _ _ h => h) (Or.inr ⟨by rfl, rfl⟩) hHeld ?_
                            (try simp only [List.getElem_toArray, List.getElem_cons_zero, List.getElem_cons_succ, Act.put, List.setIfInBounds_toArray, List.set_cons_zero, List.set_cons_succ])
                            refine wpAnyH_take (i := 21) (v := undef) rfl (by kernel_rfl) (by kernel_rfl) (by kernel_rfl) (fun _ _ _ h => h) (Or.inr ⟨by rfl, rfl⟩) hHeld ?_
                            (try simp only [List.getElem_toArray, List.getElem_cons_zero, List.getElem_cons_succ, Act.put, List.setIfInBounds_toArray, List.set_cons_zero, List.set_cons_succ])
                            refine wpAnyH_take (i := 22) (v := undef) rfl (by kernel_rfl) (by kernel_rfl) (by kernel_rfl) (fun _ _ _ h => h) (Or.inr ⟨by rfl, rfl⟩) hHeld ?_
                            (try simp only [List.getElem_toArray, List.getElem_cons_zero, List.getElem_cons_succ, Act.put, List.setIfInBounds_toArray, List.set_cons_zero, List.set_cons_succ])
                            refine wpAnyH_take (i := 23) (v := undef) rfl (by kernel_rfl) (by kernel_rfl) (by kernel_rfl) (fun _ _ _ h => h) (Or.inr ⟨by rfl, rfl⟩) hHeld ?_
                            (try simp only [List.getElem_toArray, List.getElem_cons_zero, List.getElem_cons_succ, Act.put, List.setIfInBounds_toArray, List.set_cons_zero, List.set_cons_succ])
                            refine wpAnyH_ready (rs := [24]) (by kernel_rfl) (by simp) ?_
                            refine AllReadyH.cons rfl (fun K hK => ?_) AllReadyH.nil
                            go_simp
                            refine hK.out _ _ (by (first | (refine ⟨?_, ?_, ?_, ?_, ?_, ?_⟩ <;> (first | (with_reducible assumption) | (with_reducible refine cell_up s0 ?_) | (with_reducible refine cell_up s1 ?_) | (with_reducible refine cell_up t0 ?_) | (with_reducible refine cell_up t1 ?_) | (with_reducible refine cell_up v0 ?_) | (with_reducible refine cell_up v1 ?_)) <;> (repeat' (first | (with_reducible exact Below.refl _ _) | (with_reducible assumption) | (with_reducible refine below_over ?_ _ _) | (with_reducible refine Lw.below_alloc ?_ _) | (with_reducible refine Below.drew ?_) | (with_reducible refine below_drewN ?_ _) | (with_reducible refine Below.setCell ?_ ?_ _) | go_size))))) (fun hHeld => ?_)
                            clear hK K
                            (try simp only [List.getElem_toArray, List.getElem_cons_zero, List.getElem_cons_succ, Act.put, List.setIfInBounds_toArray, List.set_cons_zero, List.set_cons_succ])
                            refine wpAnyH_take (i := 25) (v := ?_) rfl (by kernel_rfl) (by kernel_rfl) (by kernel_rfl) (fun _ _ _ h => h) (Or.inl ⟨by rfl, ?_⟩) hHeld ?_
                            rotate_left
                            · intro w hSw
                              (try dsimp only at hSw)
                              go_simp
                              (try with_reducible rfl)
                            (try simp only [List.getElem_toArray, List.getElem_cons_zero, List.getElem_cons_succ, Act.put, List.setIfInBounds_toArray, List.set_cons_zero, List.set_cons_succ])
                            refine wpAnyH_take (i := 26) (v := ?_) rfl (by kernel_rfl) (by kernel_rfl) (by kernel_rfl) (fun _ _ _ h => h) (Or.inl ⟨by rfl, ?_⟩) hHeld ?_
                            rotate_left
                            · intro w hSw
                              (try dsimp only at hSw)
                              go_simp
                              (try with_reducible rfl)
                            (try simp only [List.getElem_toArray, List.getElem_cons_zero, List.getElem_cons_succ, Act.put, List.setIfInBounds_toArray, List.set_cons_zero, List.set_cons_succ])
                            refine wpAnyH_take (i := 27) (v := ?_) rfl (by kernel_rfl) (by kernel_rfl) (by kernel_rfl) (fun _ _ _ h => h) (Or.inl ⟨by rfl, ?_⟩) hHeld ?_
                            rotate_left
                            · intro w hSw
                              (try dsimp only at hSw)
                              go_simp
                              (try with_reducible rfl)
                            (try simp only [List.getElem_toArray, List.getElem_cons_zero, List.getElem_cons_succ, Act.put, List.setIfInBounds_toArray, List.set_cons_zero, List.set_cons_succ])
                            refine wpAnyH_take (i := 28) (v := ?_) rfl (by kernel_rfl) (by kernel_rfl) (by kernel_rfl) (fun _ _ _ h => h) (Or.inl ⟨by rfl, ?_⟩) hHeld ?_
                            rotate_left
                            · intro w hSw
                              (try dsimp only at hSw)
                              go_simp
                              (try with_reducible rfl)
                            (try simp only [List.getElem_toArray, List.getElem_cons_zero, List.getElem_cons_succ, Act.put, List.setIfInBounds_toArray, List.set_cons_zero, List.set_cons_succ])
                            refine wpAnyH_done (by kernel_rfl) ?_ _
                            all_goals go_wp2
                            all_goals go_roundw
                            all_goals first
                              | exact ⟨n + 1, true, by omega, by omega, rfl, by go_num, (by rw [HAX.out]; rfl), HVz.out.up (by repeat' (first | (with_reducible exact Below.refl _ _) | (with_reducible assumption) | (with_reducible refine below_over ?_ _ _) | (with_reducible refine Lw.below_alloc ?_ _) | (with_reducible refine Below.drew ?_) | (with_reducible refine below_drewN ?_ _) | (with_reducible refine Below.setCell ?_ ?_ _) | go_size))⟩
                              | (simp [intOf]; omega)
                          | true =>
                            cases b2 with
                            | false =>
                              as_aux_lemma =>
                              go_upto_region 34 with fail
                              refine wp_region_held_drew (S := (fun w' => w'.cell? ⟨g5, o5, none⟩ = some (.int .i64 (LX : Int)) ∧ w'.cell? ⟨g5, o5 + 1, none⟩ = some (.int .u64 (IX : Int)) ∧ w'.cell? ⟨g6, o6, none⟩ = some (.int .i64 (LK : Int)) ∧ w'.cell? ⟨g6, o6 + 1, none⟩ = some (.int .u64 (IK : Int)) ∧ w'.cell? ⟨g7, o7, none⟩ = some (.int .i64 (LY : Int)) ∧ w'.cell? ⟨g7, o7 + 1, none⟩ = some (.int .u64 (IY : Int)))) (by kernel_rfl) (by (first | (refine ⟨?_, ?_, ?_, ?_, ?_, ?_⟩ <;> (first | (with_reducible assumption) | (with_reducible refine cell_up s0 ?_) | (with_reducible refine cell_up s1 ?_) | (with_reducible refine cell_up t0 ?_) | (with_reducible refine cell_up t1 ?_) | (with_reducible refine cell_up v0 ?_) | (with_reducible refine cell_up v1 ?_)) <;> (repeat' (first | (with_reducible exact Below.refl _ _) | (with_reducible assumption) | (with_reducible refine below_over ?_ _ _) | (with_reducible refine Lw.below_alloc ?_ _) | (with_reducible refine Below.drew ?_) | (with_reducible refine below_drewN ?_ _) | (with_reducible refine Below.setCell ?_ ?_ _) | go_size))))) (fun hHeld => ?_)
                              refine wpAnyH_take (i := 0) (v := ?_) rfl (by kernel_rfl) (by kernel_rfl) (by kernel_rfl) (fun _ _ _ h => h) (Or.inl ⟨by rfl, ?_⟩) hHeld ?_
                              rotate_left
                              · intro w hSw
                                (try dsimp only at hSw)
                                go_simp
                                (try with_reducible rfl)
                              (try simp only [List.getElem_toArray, List.getElem_cons_zero, List.getElem_cons_succ, Act.put, List.setIfInBounds_toArray, List.set_cons_zero, List.set_cons_succ])
                              refine wpAnyH_take (i := 1) (v := ?_) rfl (by kernel_rfl) (by kernel_rfl) (by kernel_rfl) (fun _ _ _ h => h) (Or.inl ⟨by rfl, ?_⟩) hHeld ?_
                              rotate_left
                              · intro w hSw
                                (try dsimp only at hSw)
                                go_simp
                                (try with_reducible rfl)
                              (try simp only [List.getElem_toArray, List.getElem_cons_zero, List.getElem_cons_succ, Act.put, List.setIfInBounds_toArray, List.set_cons_zero, List.set_cons_succ])
                              refine wpAnyH_take (i := 2) (v := ?_) rfl (by kernel_rfl) (by kernel_rfl) (by kernel_rfl) (fun _ _ _ h => h) (Or.inl ⟨by rfl, ?_⟩) hHeld ?_
                              rotate_left
                              · intro w hSw
                                (try dsimp only at hSw)
                                go_simp
                                (try with_reducible rfl)
                              (try simp only [List.getElem_toArray, List.getElem_cons_zero, List.getElem_cons_succ, Act.put, List.setIfInBounds_toArray, List.set_cons_zero, List.set_cons_succ])
                              refine wpAnyH_take (i := 3) (v := ?_) rfl (by kernel_rfl) (by kernel_rfl) (by kernel_rfl) (fun _ _ _ h => h) (Or.inl ⟨by rfl, ?_⟩) hHeld ?_
                              rotate_left
                              · intro w hSw
                                (try dsimp only at hSw)
                                go_simp
                                (try with_reducible rfl)
                              (try simp only [List.getElem_toArray, List.getElem_cons_zero, List.getElem_cons_succ, Act.put, List.setIfInBounds_toArray, List.set_cons_zero, List.set_cons_succ])
                              refine wpAnyH_take (i := 4) (v := ?_) rfl (by kernel_rfl) (by kernel_rfl) (by kernel_rfl) (fun _ _ _ h => h) (Or.inl ⟨by rfl, ?_⟩) hHeld ?_
                              rotate_left
                              · intro w hSw
                                (try dsimp only at hSw)
                                go_simp
                                (try with_reducible rfl)
                              (try simp only [List.getElem_toArray, List.getElem_cons_zero, List.getElem_cons_succ, Act.put, List.setIfInBounds_toArray, List.set_cons_zero, List.set_cons_succ])
                              refine wpAnyH_take (i := 5) (v := ?_) rfl (by kernel_rfl) (by kernel_rfl) (by kernel_rfl) (fun _ _ _ h => h) (Or.inl ⟨by rfl, ?_⟩) hHeld ?_
                              rotate_left
                              · intro w hSw
                                (try dsimp only at hSw)
                                go_simp
                                (try with_reducible rfl)
                              (try simp only [List.getElem_toArray, List.getElem_cons_zero, List.getElem_cons_succ, Act.put, List.setIfInBounds_toArray, List.set_cons_zero, List.set_cons_succ])
                              refine wpAnyH_take (i := 6) (v := ?_) rfl (by kernel_rfl) (by kernel_rfl) (by kernel_rfl) (fun _ _ _ h => h) (Or.inl ⟨by rfl, ?_⟩) hHeld ?_
                              rotate_left
                              · intro w hSw
                                (try dsimp only at hSw)
                                go_simp
                                (try with_reducible rfl)
                              (try simp only [List.getElem_toArray, List.getElem_cons_zero, List.getElem_cons_succ, Act.put, List.setIfInBounds_toArray, List.set_cons_zero, List.set_cons_succ])
                              refine wpAnyH_take (i := 7) (v := ?_) rfl (by kernel_rfl) (by kernel_rfl) (by kernel_rfl) (fun _ _ _ h => h) (Or.inl ⟨by rfl, ?_⟩) hHeld ?_
                              rotate_left
                              · intro w hSw
                                (try dsimp only at hSw)
                                go_simp
                                (try with_reducible rfl)
                              (try simp only [List.getElem_toArray, List.getElem_cons_zero, List.getElem_cons_succ, Act.put, List.setIfInBounds_toArray, List.set_cons_zero, List.set_cons_succ])
                              refine wpAnyH_take (i := 8) (v := ?_) rfl (by kernel_rfl) (by kernel_rfl) (by kernel_rfl) (fun _ _ _ h => h) (Or.inl ⟨by rfl, ?_⟩) hHeld ?_
                              rotate_left
                              · intro w hSw
                                (try dsimp only at hSw)
                                go_simp
                                (try with_reducible rfl)
                              (try simp only [List.getElem_toArray, List.getElem_cons_zero, List.getElem_cons_succ, Act.put, List.setIfInBounds_toArray, List.set_cons_zero, List.set_cons_succ])
                              refine wpAnyH_take (i := 9) (v := ?_) rfl (by kernel_rfl) (by kernel_rfl) (by kernel_rfl) (fun _ _ _ h => h) (Or.inl ⟨by rfl, ?_⟩) hHeld ?_
                              rotate_left
                              · intro w hSw
                                (try dsimp only at hSw)
                                go_simp
                                (try with_reducible rfl)
                              (try simp only [List.getElem_toArray, List.getElem_cons_zero, List.getElem_cons_succ, Act.put, List.setIfInBounds_toArray, List.set_cons_zero, List.set_cons_succ])
                              refine wpAnyH_take (i := 10) (v := ?_) rfl (by kernel_rfl) (by kernel_rfl) (by kernel_rfl) (fun _ _ _ h => h) (Or.inl ⟨by rfl, ?_⟩) hHeld ?_
                              rotate_left
                              · intro w hSw
                                (try dsimp only at hSw)
                                go_simp
                                (try with_reducible rfl)
                              (try simp only [List.getElem_toArray, List.getElem_cons_zero, List.getElem_cons_succ, Act.put, List.setIfInBounds_toArray, List.set_cons_zero, List.set_cons_succ])
                              refine wpAnyH_take (i := 11) (v := ?_) rfl (by kernel_rfl) (by kernel_rfl) (by kernel_rfl) (fun _ _ _ h => h) (Or.inl ⟨by rfl, ?_⟩) hHeld ?_
                              rotate_left
                              · intro w hSw
                                (try dsimp only at hSw)
                                go_simp
                                (try with_reducible rfl)
                              (try simp only [List.getElem_toArray, List.getElem_cons_zero, List.getElem_cons_succ, Act.put, List.setIfInBounds_toArray, List.set_cons_zero, List.set_cons_succ])
                              refine wpAnyH_ready (rs := [12]) (by kernel_rfl) (by simp) ?_
                              refine AllReadyH.cons rfl (fun K hK => ?_) AllReadyH.nil
                              go_simp
                              (first | (go_at_call 30; (with_reducible refine (CI1.out _).mono ?_); rintro e w' ⟨rfl, hb⟩; obtain ⟨bs1, d1, rfl⟩ := below_grow hb; clear hb) | (go_at_call 30; (with_reducible refine (CI2.out _).mono ?_); rintro e w' ⟨rfl, hb⟩; obtain ⟨bs2, d2, rfl⟩ := below_grow hb; clear hb))
                              refine hK.out _ _ (by (first | (refine ⟨?_, ?_, ?_, ?_, ?_, ?_⟩ <;> (first | (with_reducible assumption) | (with_reducible refine cell_up s0 ?_) | (with_reducible refine cell_up s1 ?_) | (with_reducible refine cell_up t0 ?_) | (with_reducible refine cell_up t1 ?_) | (with_reducible refine cell_up v0 ?_) | (with_reducible refine cell_up v1 ?_)) <;> (repeat' (first | (with_reducible exact Below.refl _ _) | (with_reducible assumption) | (with_reducible refine below_over ?_ _ _) | (with_reducible refine Lw.below_alloc ?_ _) | (with_reducible refine Below.drew ?_) | (with_reducible refine below_drewN ?_ _) | (with_reducible refine Below.setCell ?_ ?_ _) | go_size))))) (fun hHeld => ?_)
                              clear hK K
                              (try simp only [List.getElem_toArray, List.getElem_cons_zero, List.getElem_cons_succ, Act.put, List.setIfInBounds_toArray, List.set_cons_zero, List.set_cons_succ])
                              refine wpAnyH_take (i := 13) (v := ?_) rfl (by kernel_rfl) (by kernel_rfl) (by kernel_rfl) (fun _ _ _ h => h) (Or.inl ⟨by rfl, ?_⟩) hHeld ?_
                              rotate_left
                              · intro w hSw
                                (try dsimp only at hSw)
                                go_simp
                                (try with_reducible rfl)
                              (try simp only [List.getElem_toArray, List.getElem_cons_zero, List.getElem_cons_succ, Act.put, List.setIfInBounds_toArray, List.set_cons_zero, List.set_cons_succ])
                              refine wpAnyH_take (i := 14) (v := ?_) rfl (by kernel_rfl) (by kernel_rfl) (by kernel_rfl) (fun _ _ _ h => h) (Or.inl ⟨by rfl, ?_⟩) hHeld ?_
                              rotate_left
                              · intro w hSw
                                (try dsimp only at hSw)
                                go_simp
                                (try with_reducible rfl)
                              (try simp only [List.getElem_toArray, List.getElem_cons_zero, List.getElem_cons_succ, Act.put, List.setIfInBounds_toArray, List.set_cons_zero, List.set_cons_succ])
                              refine wpAnyH_take (i := 15) (v := ?_) rfl (by kernel_rfl) (by kernel_rfl) (by kernel_rfl) (fun _ _ _ h => h) (Or.inl ⟨by rfl, ?_⟩) hHeld ?_
                              rotate_left
                              · intro w hSw
                                (try dsimp only at hSw)
                                go_simp
                                (try with_reducible rfl)
                              (try simp only [List.getElem_toArray, List.getElem_cons_zero, List.getElem_cons_succ, Act.put, List.setIfInBounds_toArray, List.set_cons_zero, List.set_cons_succ])
                              refine wpAnyH_take (i := 16) (v := ?_) rfl (by kernel_rfl) (by kernel_rfl) (by kernel_rfl) (fun _ _ _ h => h) (Or.inl ⟨by rfl, ?_⟩) hHeld ?_
                              rotate_left
                              · intro w hSw
                                (try dsimp only at hSw)
                                go_simp
                                (try with_reducible rfl)
                              (try simp only [List.getElem_toArray, List.getElem_cons_zero, List.getElem_cons_succ, Act.put, List.setIfInBounds_toArray, List.set_cons_zero, List.set_cons_succ])
                              refine wpAnyH_take (i := 17) (v := ?_) rfl (by kernel_rfl) (by kernel_rfl) (by kernel_rfl) (fun _ _ _ h => h) (Or.inl ⟨by rfl, ?_⟩) hHeld ?_
                              rotate_left
                              · intro w hSw
                                (try dsimp only at hSw)
                                go_simp
                                (try with_reducible rfl)
                              (try simp only [List.getElem_toArray, List.getElem_cons_zero, List.getElem_cons_succ, Act.put, List.setIfInBounds_toArray, List.set_cons_zero, List.set_cons_succ])
                              refine wpAnyH_take (i := 18) (v := ?_) rfl (by kernel_rfl) (by kernel_rfl) (by kernel_rfl) (fun _ _ _ h => h) (Or.inl ⟨by rfl, ?_⟩) hHeld ?_
                              rotate_left
                              · intro w hSw
                                (try dsimp only at hSw)
                                go_simp
                                (try with_reducible rfl)
                              (try simp only [List.getElem_toArray, List.getElem_cons_zero, List.getElem_cons_succ, Act.put, List.setIfInBounds_toArray, List.set_cons_zero, List.set_cons_succ])
                              refine wpAnyH_take (i := 19) (v := ?_) rfl (by kernel_rfl) (by kernel_rfl) (by kernel_rfl) (fun _ _ _ h => h) (Or.inl ⟨by rfl, ?_⟩) hHeld ?_
                              rotate_left
                              · intro w hSw
                                (try dsimp only at hSw)
                                go_simp
                                (try with_reducible rfl)
                              (try simp only [List.getElem_toArray, List.getElem_cons_zero, List.getElem_cons_succ, Act.put, List.setIfInBounds_toArray, List.set_cons_zero, List.set_cons_succ])
                              refine wpAnyH_take (i := 20) (v := ?_) rfl (by kernel_rfl) (by kernel_rfl) (by kernel_rfl) (fun _ _ _ h => h) (Or.inl ⟨by rfl, ?_⟩) hHeld ?_
                              rotate_left
                              · intro w hSw
                                (try dsimp only at hSw)
                                go_simp
                                (try with_reducible rfl)
                              (try simp only [List.getElem_toArray, List.getElem_cons_zero, List.getElem_cons_succ, Act.put, List.setIfInBounds_toArray, List.set_cons_zero, List.set_cons_succ])
                              refine wpAnyH_take (i := 21) (v := ?_) rfl (by kernel_rfl) (by kernel_rfl) (by kernel_rfl) (fun _ _ _ h => h) (Or.inl ⟨by rfl, ?_⟩) hHeld ?_
                              rotate_left
                              · intro w hSw
                                (try dsimp only at hSw)
                                go_simp
                                (try with_reducible rfl)
                              (try simp only [List.getElem_toArray, List.getElem_cons_zero, List.getElem_cons_succ, Act.put, List.setIfInBounds_toArray, List.set_cons_zero, List.set_cons_succ])
                              refine wpAnyH_take (i := 22) (v := ?_) rfl (by kernel_rfl) (by kernel_rfl) (by kernel_rfl) (fun _ _ _ h => h) (Or.inl ⟨by rfl, ?_⟩) hHeld ?_
                              rotate_left
                              · intro w hSw
                                (try dsimp only at hSw)
                                go_simp
                                (try with_reducible rfl)
                              (try simp only [List.getElem_toArray, List.getElem_cons_zero, List.getElem_cons_succ, Act.put, List.setIfInBounds_toArray, List.set_cons_zero, List.set_cons_succ])
                              refine wpAnyH_take (i := 23) (v := ?_) rfl (by kernel_rfl) (by kernel_rfl) (by kernel_rfl) (fun _ _ _ h => h) (Or.inl ⟨by rfl, ?_⟩) hHeld ?_
                              rotate_left
                              · intro w hSw
                                (try dsimp only at hSw)
                                go_simp
                                (try with_reducible rfl)
                              (try simp only [List.getElem_toArray, List.getElem_cons_zero, List.getElem_cons_succ, Act.put, List.setIfInBounds_toArray, List.set_cons_zero, List.set_cons_succ])
                              refine wpAnyH_ready (rs := [24]) (by kernel_rfl) (by simp) ?_
                              refine AllReadyH.cons rfl (fun K hK => ?_) AllReadyH.nil
                              go_simp
                              (first | (go_at_call 30; (with_reducible refine (CI1.out _).mono ?_); rintro e w' ⟨rfl, hb⟩; obtain ⟨bs1, d1, rfl⟩ := below_grow hb; clear hb) | (go_at_call 30; (with_reducible refine (CI2.out _).mono ?_); rintro e w' ⟨rfl, hb⟩; obtain ⟨bs2, d2, rfl⟩ := below_grow hb; clear hb))
                              refine hK.out _ _ (by (first | (refine ⟨?_, ?_, ?_, ?_, ?_, ?_⟩ <;> (first | (with_reducible assumption) | (with_reducible refine cell_up s0 ?_) | (with_reducible refine cell_up s1 ?_) | (with_reducible refine cell_up t0 ?_) | (with_reducible refine cell_up t1 ?_) | (with_reducible refine cell_up v0 ?_) | (with_reducible refine cell_up v1 ?_)) <;> (repeat' (first | (with_reducible exact Below.refl _ _) | (with_reducible assumption) | (with_reducible refine below_over ?_ _ _) | (with_reducible refine Lw.below_alloc ?_ _) | (with_reducible refine Below.drew ?_) | (with_reducible refine below_drewN ?_ _) | (with_reducible refine Below.setCell ?_ ?_ _) | go_size))))) (fun hHeld => ?_)
                              clear hK K
                              (try simp only [List.getElem_toArray, List.getElem_cons_zero, List.getElem_cons_succ, Act.put, List.setIfInBounds_toArray, List.set_cons_zero, List.set_cons_succ])
                              refine wpAnyH_take (i := 25) (v := ?_) rfl (by kernel_rfl) (by kernel_rfl) (by kernel_rfl) (fun _ _ _ h => h) (Or.inl ⟨by rfl, ?_⟩) hHeld ?_
                              rotate_left
                              · intro w hSw
                                (try dsimp only at hSw)
                                go_simp
                                (try with_reducible rfl)
                              (try simp only [List.getElem_toArray, List.getElem_cons_zero, List.getElem_cons_succ, Act.put, List.setIfInBounds_toArray, List.set_cons_zero, List.set_cons_succ])
                              refine wpAnyH_take (i := 26) (v := ?_) rfl (by kernel_rfl) (by kernel_rfl) (by kernel_rfl) (fun _ _ _ h => h) (Or.inl ⟨by rfl, ?_⟩) hHeld ?_
                              rotate_left
                              · intro w hSw
                                (try dsimp only at hSw)
                                go_simp
                                (try with_reducible rfl)
                              (try simp only [List.getElem_toArray, List.getElem_cons_zero, List.getElem_cons_succ, Act.put, List.setIfInBounds_toArray, List.set_cons_zero, List.set_cons_succ])
                              refine wpAnyH_take (i := 27) (v := ?_) rfl (by kernel_rfl) (by kernel_rfl) (by kernel_rfl) (fun _ _ _ h => h) (Or.inl ⟨by rfl, ?_⟩) hHeld ?_
                              rotate_left
                              · intro w hSw
                                (try dsimp only at hSw)
                                go_simp
                                (try with_reducible rfl)
                              (try simp only [List.getElem_toArray, List.getElem_cons_zero, List.getElem_cons_succ, Act.put, List.setIfInBounds_toArray, List.set_cons_zero, List.set_cons_succ])
                              refine wpAnyH_take (i := 28) (v := ?_) rfl (by kernel_rfl) (by kernel_rfl) (by kernel_rfl) (fun _ _ _ h => h) (Or.inl ⟨by rfl, ?_⟩) hHeld ?_
                              rotate_left
                              · intro w hSw
                                (try dsimp only at hSw)
                                go_simp
                                (try with_reducible rfl)
                              (try simp only [List.getElem_toArray, List.getElem_cons_zero, List.getElem_cons_succ, Act.put, List.setIfInBounds_toArray, List.set_cons_zero, List.set_cons_succ])
                              refine wpAnyH_done (by kernel_rfl) ?_ _
                              all_goals go_wp2
                              all_goals go_roundw
                              all_goals first
                                | exact ⟨n + 1, true, by omega, by omega, rfl, by go_num, (by rw [HAX.out]; rfl), HVz.out.up (by repeat' (first | (with_reducible exact Below.refl _ _) | (with_reducible assumption) | (with_reducible refine below_over ?_ _ _) | (with_reducible refine Lw.below_alloc ?_ _) | (with_reducible refine Below.drew ?_) | (with_reducible refine below_drewN ?_ _) | (with_reducible refine Below.setCell ?_ ?_ _) | go_size))⟩
                                | (simp [intOf]; omega)
                            | true =>
                              as_aux_lemma =>
                              go_upto_region 34 with fail
                              refine wp_region_held_drew (S := (fun w' => w'.cell? ⟨g5, o5, none⟩ = some (.int .i64 (LX : Int)) ∧ w'.cell? ⟨g5, o5 + 1, none⟩ = some (.int .u64 (IX : Int)) ∧ w'.cell? ⟨g6, o6, none⟩ = some (.int .i64 (LK : Int)) ∧ w'.cell? ⟨g6, o6 + 1, none⟩ = some (.int .u64 (IK : Int)) ∧ w'.cell? ⟨g7, o7, none⟩ = some (.int .i64 (LY : Int)) ∧ w'.cell? ⟨g7, o7 + 1, none⟩ = some (.int .u64 (IY : Int)))) (by kernel_rfl) (by (first | (refine ⟨?_, ?_, ?_, ?_, ?_, ?_⟩ <;> (first | (with_reducible assumption) | (with_reducible refine cell_up s0 ?_) | (with_reducible refine cell_up s1 ?_) | (with_reducible refine cell_up t0 ?_) | (with_reducible refine cell_up t1 ?_) | (with_reducible refine cell_up v0 ?_) | (with_reducible refine cell_up v1 ?_)) <;> (repeat' (first | (with_reducible exact Below.refl _ _) | (with_reducible assumption) | (with_reducible refine below_over ?_ _ _) | (with_reducible refine Lw.below_alloc ?_ _) | (with_reducible refine Below.drew ?_) | (with_reducible refine below_drewN ?_ _) | (with_reducible refine Below.setCell ?_ ?_ _) | go_size))))) (fun hHeld => ?_)
                              refine wpAnyH_take (i := 0) (v := ?_) rfl (by kernel_rfl) (by kernel_rfl) (by kernel_rfl) (fun _ _ _ h => h) (Or.inl ⟨by rfl, ?_⟩) hHeld ?_
                              rotate_left
                              · intro w hSw
                                (try dsimp only at hSw)
                                go_simp
                                (try with_reducible rfl)
                              (try simp only [List.getElem_toArray, List.getElem_cons_zero, List.getElem_cons_succ, Act.put, List.setIfInBounds_toArray, List.set_cons_zero, List.set_cons_succ])
                              refine wpAnyH_take (i := 1) (v := ?_) rfl (by kernel_rfl) (by kernel_rfl) (by kernel_rfl) (fun _ _ _ h => h) (Or.inl ⟨by rfl, ?_⟩) hHeld ?_
                              rotate_left
                              · intro w hSw
                                (try dsimp only at hSw)
                                go_simp
                                (try with_reducible rfl)
                              (try simp only [List.getElem_toArray, List.getElem_cons_zero, List.getElem_cons_succ, Act.put, List.setIfInBounds_toArray, List.set_cons_zero, List.set_cons_succ])
                              refine wpAnyH_take (i := 2) (v := ?_) rfl (by kernel_rfl) (by kernel_rfl) (by kernel_rfl) (fun _ _ _ h => h) (Or.inl ⟨by rfl, ?_⟩) hHeld ?_
                              rotate_left
                              · intro w hSw
                                (try dsimp only at hSw)
                                go_simp
                                (try with_reducible rfl)
                              (try simp only [List.getElem_toArray, List.getElem_cons_zero, List.getElem_cons_succ, Act.put, List.setIfInBounds_toArray, List.set_cons_zero, List.set_cons_succ])
                              refine wpAnyH_take (i := 3) (v := ?_) rfl (by kernel_rfl) (by kernel_rfl) (by kernel_rfl) (fun _ _ _ h => h) (Or.inl ⟨by rfl, ?_⟩) hHeld ?_
                              rotate_left
                              · intro w hSw
                                (try dsimp only at hSw)
                                go_simp
                                (try with_reducible rfl)
                              (try simp only [List.getElem_toArray, List.getElem_cons_zero, List.getElem_cons_succ, Act.put, List.setIfInBounds_toArray, List.set_cons_zero, List.set_cons_succ])
                              refine wpAnyH_take (i := 4) (v := ?_) rfl (by kernel_rfl) (by kernel_rfl) (by kernel_rfl) (fun _ _ _ h => h) (Or.inl ⟨by rfl, ?_⟩) hHeld ?_
                              rotate_left
                              · intro w hSw
                                (try dsimp only at hSw)
                                go_simp
                                (try with_reducible rfl)
                              (try simp only [List.getElem_toArray, List.getElem_cons_zero, List.getElem_cons_succ, Act.put, List.setIfInBounds_toArray, List.set_cons_zero, List.set_cons_succ])
                              refine wpAnyH_take (i := 5) (v := ?_) rfl (by kernel_rfl) (by kernel_rfl) (by kernel_rfl) (fun _ _ _ h => h) (Or.inl ⟨by rfl, ?_⟩) hHeld ?_
                              rotate_left
                              · intro w hSw
                                (try dsimp only at hSw)
                                go_simp
                                (try with_reducible rfl)
                              (try simp only [List.getElem_toArray, List.getElem_cons_zero, List.getElem_cons_succ, Act.put, List.setIfInBounds_toArray, List.set_cons_zero, List.set_cons_succ])
                              refine wpAnyH_take (i := 6) (v := ?_) rfl (by kernel_rfl) (by kernel_rfl) (by kernel_rfl) (fun _ _ _ h => h) (Or.inl ⟨by rfl, ?_⟩) hHeld ?_
                              rotate_left
                              · intro w hSw
                                (try dsimp only at hSw)
                                go_simp
                                (try with_reducible rfl)
                              (try simp only [List.getElem_toArray, List.getElem_cons_zero, List.getElem_cons_succ, Act.put, List.setIfInBounds_toArray, List.set_cons_zero, List.set_cons_succ])
                              refine wpAnyH_take (i := 7) (v := ?_) rfl (by kernel_rfl) (by kernel_rfl) (by kernel_rfl) (fun _ _ _ h => h) (Or.inl ⟨by rfl, ?_⟩) hHeld ?_
                              rotate_left
                              · intro w hSw
                                (try dsimp only at hSw)
                                go_simp
                                (try with_reducible rfl)
                              (try simp only [List.getElem_toArray, List.getElem_cons_zero, List.getElem_cons_succ, Act.put, List.setIfInBounds_toArray, List.set_cons_zero, List.set_cons_succ])
                              refine wpAnyH_take (i := 8) (v := ?_) rfl (by kernel_rfl) (by kernel_rfl) (by kernel_rfl) (fun _ _ _ h => h) (Or.inl ⟨by rfl, ?_⟩) hHeld ?_
                              rotate_left
                              · intro w hSw
                                (try dsimp only at hSw)
                                go_simp
                                (try with_reducible rfl)
                              (try simp only [List.getElem_toArray, List.getElem_cons_zero, List.getElem_cons_succ, Act.put, List.setIfInBounds_toArray, List.set_cons_zero, List.set_cons_succ])
                              refine wpAnyH_take (i := 9) (v := ?_) rfl (by kernel_rfl) (by kernel_rfl) (by kernel_rfl) (fun _ _ _ h => h) (Or.inl ⟨by rfl, ?_⟩) hHeld ?_
                              rotate_left
                              · intro w hSw
                                (try dsimp only at hSw)
                                go_simp
                                (try with_reducible rfl)
                              (try simp only [List.getElem_toArray, List.getElem_cons_zero, List.getElem_cons_succ, Act.put, List.setIfInBounds_toArray, List.set_cons_zero, List.set_cons_succ])
                              refine wpAnyH_take (i := 10) (v := ?_) rfl (by kernel_rfl) (by kernel_rfl) (by kernel_rfl) (fun _ _ _ h => h) (Or.inl ⟨by rfl, ?_⟩) hHeld ?_
                              rotate_left
                              · intro w hSw
                                (try dsimp only at hSw)
                                go_simp
                                (try with_reducible rfl)
                              (try simp only [List.getElem_toArray, List.getElem_cons_zero, List.getElem_cons_succ, Act.put, List.setIfInBounds_toArray, List.set_cons_zero, List.set_cons_succ])
                              refine wpAnyH_take (i := 11) (v := ?_) rfl (by kernel_rfl) (by kernel_rfl) (by kernel_rfl) (fun _ _ _ h => h) (Or.inl ⟨by rfl, ?_⟩) hHeld ?_
                              rotate_left
                              · intro w hSw
                                (try dsimp only at hSw)
                                go_simp
                                (try with_reducible rfl)
                              (try simp only [List.getElem_toArray, List.getElem_cons_zero, List.getElem_cons_succ, Act.put, List.setIfInBounds_toArray, List.set_cons_zero, List.set_cons_succ])
                              refine wpAnyH_ready (rs := [12]) (by kernel_rfl) (by simp) ?_
                              refine AllReadyH.cons rfl (fun K hK => ?_) AllReadyH.nil
                              go_simp
                              (first | (go_at_call 30; (with_reducible refine (CI1.out _).mono ?_); rintro e w' ⟨rfl, hb⟩; obtain ⟨bs1, d1, rfl⟩ := below_grow hb; clear hb) | (go_at_call 30; (with_reducible refine (CI2.out _).mono ?_); rintro e w' ⟨rfl, hb⟩; obtain ⟨bs2, d2, rfl⟩ := below_grow hb; clear hb))
                              refine hK.out _ _ (by (first | (refine ⟨?_, ?_, ?_, ?_, ?_, ?_⟩ <;> (first | (with_reducible assumption) | (with_reducible refine cell_up s0 ?_) | (with_reducible refine cell_up s1 ?_) | (with_reducible refine cell_up t0 ?_) | (with_reducible refine cell_up t1 ?_) | (with_reducible refine cell_up v0 ?_) | (with_reducible refine cell_up v1 ?_)) <;> (repeat' (first | (with_reducible exact Below.refl _ _) | (with_reducible assumption) | (with_reducible refine below_over ?_ _ _) | (with_reducible refine Lw.below_alloc ?_ _) | (with_reducible refine Below.drew ?_) | (with_reducible refine below_drewN ?_ _) | (with_reducible refine Below.setCell ?_ ?_ _) | go_size))))) (fun hHeld => ?_)
                              clear hK K
                              (try simp only [List.getElem_toArray, List.getElem_cons_zero, List.getElem_cons_succ, Act.put, List.setIfInBounds_toArray, List.set_cons_zero, List.set_cons_succ])
                              refine wpAnyH_take (i := 13) (v := ?_) rfl (by kernel_rfl) (by kernel_rfl) (by kernel_rfl) (fun _ _ _ h => h) (Or.inl ⟨by rfl, ?_⟩) hHeld ?_
                              rotate_left
                              · intro w hSw
                                (try dsimp only at hSw)
                                go_simp
                                (try with_reducible rfl)
                              (try simp only [List.getElem_toArray, List.getElem_cons_zero, List.getElem_cons_succ, Act.put, List.setIfInBounds_toArray, List.set_cons_zero, List.set_cons_succ])
                              refine wpAnyH_take (i := 14) (v := ?_) rfl (by kernel_rfl) (by kernel_rfl) (by kernel_rfl) (fun _ _ _ h => h) (Or.inl ⟨by rfl, ?_⟩) hHeld ?_
                              rotate_left
                              · intro w hSw
                                (try dsimp only at hSw)
                                go_simp
                                (try with_reducible rfl)
                              (try simp only [List.getElem_toArray, List.getElem_cons_zero, List.getElem_cons_succ, Act.put, List.setIfInBounds_toArray, List.set_cons_zero, List.set_cons_succ])
                              refine wpAnyH_take (i := 15) (v := ?_) rfl (by kernel_rfl) (by kernel_rfl) (by kernel_rfl) (fun _ _ _ h => h) (Or.inl ⟨by rfl, ?_⟩) hHeld ?_
                              rotate_left
                              · intro w hSw
                                (try dsimp only at hSw)
                                go_simp
                                (try with_reducible rfl)
                              (try simp only [List.getElem_toArray, List.getElem_cons_zero, List.getElem_cons_succ, Act.put, List.setIfInBounds_toArray, List.set_cons_zero, List.set_cons_succ])
                              refine wpAnyH_take (i := 16) (v := ?_) rfl (by kernel_rfl) (by kernel_rfl) (by kernel_rfl) (fun _ _ _ h => h) (Or.inl ⟨by rfl, ?_⟩) hHeld ?_
                              rotate_left
                              · intro w hSw
                                (try dsimp only at hSw)
                                go_simp
                                (try with_reducible rfl)
                              (try simp only [List.getElem_toArray, List.getElem_cons_zero, List.getElem_cons_succ, Act.put, List.setIfInBounds_toArray, List.set_cons_zero, List.set_cons_succ])
                              refine wpAnyH_take (i := 17) (v := ?_) rfl (by kernel_rfl) (by kernel_rfl) (by kernel_rfl) (fun _ _ _ h => h) (Or.inl ⟨by rfl, ?_⟩) hHeld ?_
                              rotate_left
                              · intro w hSw
                                (try dsimp only at hSw)
                                go_simp
                                (try with_reducible rfl)
                              (try simp only [List.getElem_toArray, List.getElem_cons_zero, List.getElem_cons_succ, Act.put, List.setIfInBounds_toArray, List.set_cons_zero, List.set_cons_succ])
                              refine wpAnyH_take (i := 18) (v := ?_) rfl (by kernel_rfl) (by kernel_rfl) (by kernel_rfl) (fun _ _ _ h => h) (Or.inl ⟨by rfl, ?_⟩) hHeld ?_
                              rotate_left
                              · intro w hSw
                                (try dsimp only at hSw)
                                go_simp
                                (try with_reducible rfl)
                              (try simp only [List.getElem_toArray, List.getElem_cons_zero, List.getElem_cons_succ, Act.put, List.setIfInBounds_toArray, List.set_cons_zero, List.set_cons_succ])
                              refine wpAnyH_take (i := 19) (v := ?_) rfl (by kernel_rfl) (by kernel_rfl) (by kernel_rfl) (fun _ _ _ h => h) (Or.inl ⟨by rfl, ?_⟩) hHeld ?_
                              rotate_left
                              · intro w hSw
                                (try dsimp only at hSw)
                                go_simp
                                (try with_reducible rfl)
                              (try simp only [List.getElem_toArray, List.getElem_cons_zero, List.getElem_cons_succ, Act.put, List.setIfInBounds_toArray, List.set_cons_zero, List.set_cons_succ])
                              refine wpAnyH_take (i := 20) (v := ?_) rfl (by kernel_rfl) (by kernel_rfl) (by kernel_rfl) (fun _ _ _ h => h) (Or.inl ⟨by rfl, ?_⟩) hHeld ?_
                              rotate_left
                              · intro w hSw
                                (try dsimp only at hSw)
                                go_simp
                                (try with_reducible rfl)
                              (try simp only [List.getElem_toArray, List.getElem_cons_zero, List.getElem_cons_succ, Act.put, List.setIfInBounds_toArray, List.set_cons_zero, List.set_cons_succ])
                              refine wpAnyH_take (i := 21) (v := ?_) rfl (by kernel_rfl) (by kernel_rfl) (by kernel_rfl) (fun _ _ _ h => h) (Or.inl ⟨by rfl, ?_⟩) hHeld ?_
                              rotate_left
                              · intro w hSw
                                (try dsimp only at hSw)
                                go_simp
                                (try with_reducible rfl)
                              (try simp only [List.getElem_toArray, List.getElem_cons_zero, List.getElem_cons_succ, Act.put, List.setIfInBounds_toArray, List.set_cons_zero, List.set_cons_succ])
                              refine wpAnyH_take (i := 22) (v := ?_) rfl (by kernel_rfl) (by kernel_rfl) (by kernel_rfl) (fun _ _ _ h => h) (Or.inl ⟨by rfl, ?_⟩) hHeld ?_
                              rotate_left
                              · intro w hSw
                                (try dsimp only at hSw)
                                go_simp
                                (try with_reducible rfl)
                              (try simp only [List.getElem_toArray, List.getElem_cons_zero, List.getElem_cons_succ, Act.put, List.setIfInBounds_toArray, List.set_cons_zero, List.set_cons_succ])
                              refine wpAnyH_take (i := 23) (v := ?_) rfl (by kernel_rfl) (by kernel_rfl) (by kernel_rfl) (fun _ _ _ h => h) (Or.inl ⟨by rfl, ?_⟩) hHeld ?_
                              rotate_left
                              · intro w hSw
                                (try dsimp only at hSw)
                                go_simp
                                (try with_reducible rfl)
                              (try simp only [List.getElem_toArray, List.getElem_cons_zero, List.getElem_cons_succ, Act.put, List.setIfInBounds_toArray, List.set_cons_zero, List.set_cons_succ])
                              refine wpAnyH_ready (rs := [24]) (by kernel_rfl) (by simp) ?_
                              refine AllReadyH.cons rfl (fun K hK => ?_) AllReadyH.nil
                              go_simp
                              (first | (go_at_call 30; (with_reducible refine (CI1.out _).mono ?_); rintro e w' ⟨rfl, hb⟩; obtain ⟨bs1, d1, rfl⟩ := below_grow hb; clear hb) | (go_at_call 30; (with_reducible refine (CI2.out _).mono ?_); rintro e w' ⟨rfl, hb⟩; obtain ⟨bs2, d2, rfl⟩ := below_grow hb; clear hb))
                              refine hK.out _ _ (by (first | (refine ⟨?_, ?_, ?_, ?_, ?_, ?_⟩ <;> (first | (with_reducible assumption) | (with_reducible refine cell_up s0 ?_) | (with_reducible refine cell_up s1 ?_) | (with_reducible refine cell_up t0 ?_) | (with_reducible refine cell_up t1 ?_) | (with_reducible refine cell_up v0 ?_) | (with_reducible refine cell_up v1 ?_)) <;> (repeat' (first | (with_reducible exact Below.refl _ _) | (with_reducible assumption) | (with_reducible refine below_over ?_ _ _) | (with_reducible refine Lw.below_alloc ?_ _) | (with_reducible refine Below.drew ?_) | (with_reducible refine below_drewN ?_ _) | (with_reducible refine Below.setCell ?_ ?_ _) | go_size))))) (fun hHeld => ?_)
                              clear hK K
                              (try simp only [List.getElem_toArray, List.getElem_cons_zero, List.getElem_cons_succ, Act.put, List.setIfInBounds_toArray, List.set_cons_zero, List.set_cons_succ])
                              refine wpAnyH_take (i := 25) (v := ?_) rfl (by kernel_rfl) (by kernel_rfl) (by kernel_rfl) (fun _ _ _ h => h) (Or.inl ⟨by rfl, ?_⟩) hHeld ?_
                              rotate_left
                              · intro w hSw
                                (try dsimp only at hSw)
                                go_simp
                                (try with_reducible rfl)
                              (try simp only [List.getElem_toArray, List.getElem_cons_zero, List.getElem_cons_succ, Act.put, List.setIfInBounds_toArray, List.set_cons_zero, List.set_cons_succ])
                              refine wpAnyH_take (i := 26) (v := ?_) rfl (by kernel_rfl) (by kernel_rfl) (by kernel_rfl) (fun _ _ _ h => h) (Or.inl ⟨by rfl, ?_⟩) hHeld ?_
                              rotate_left
                              · intro w hSw
                                (try dsimp only at hSw)
                                go_simp
                                (try with_reducible rfl)
                              (try simp only [List.getElem_toArray, List.getElem_cons_zero, List.getElem_cons_succ, Act.put, List.setIfInBounds_toArray, List.set_cons_zero, List.set_cons_succ])
                              refine wpAnyH_take (i := 27) (v := ?_) rfl (by kernel_rfl) (by kernel_rfl) (by kernel_rfl) (fun _ _ _ h => h) (Or.inl ⟨by rfl, ?_⟩) hHeld ?_
                              rotate_left
                              · intro w hSw
                                (try dsimp only at hSw)
                                go_simp
                                (try with_reducible rfl)
                              (try simp only [List.getElem_toArray, List.getElem_cons_zero, List.getElem_cons_succ, Act.put, List.setIfInBounds_toArray, List.set_cons_zero, List.set_cons_succ])
                              refine wpAnyH_take (i := 28) (v := ?_) rfl (by kernel_rfl) (by kernel_rfl) (by kernel_rfl) (fun _ _ _ h => h) (Or.inl ⟨by rfl, ?_⟩) hHeld ?_
                              rotate_left
                              · intro w hSw
                                (try dsimp only at hSw)
                                go_simp
                                (try with_reducible rfl)
                              (try simp only [List.getElem_toArray, List.getElem_cons_zero, List.getElem_cons_succ, Act.put, List.setIfInBounds_toArray, List.set_cons_zero, List.set_cons_succ])
                              refine wpAnyH_done (by kernel_rfl) ?_ _
                              all_goals go_wp2
                              all_goals go_roundw
                              all_goals first
                                | exact ⟨n + 1, false, by omega, by omega, rfl, by go_num, (by rw [HAX.out]; rfl), HVz.out.up (by repeat' (first | (with_reducible exact Below.refl _ _) | (with_reducible assumption) | (with_reducible refine below_over ?_ _ _) | (with_reducible refine Lw.below_alloc ?_ _) | (with_reducible refine Below.drew ?_) | (with_reducible refine below_drewN ?_ _) | (with_reducible refine Below.setCell ?_ ?_ _) | go_size))⟩
                                | (simp [intOf]; omega)
                      · obtain rfl : n = j := by omega
                        have htl : (K.take n).length = n := by rw [List.length_take, HKQ.out]; omega
                        have hlat : laterQ (K.take n) m (LX, IX) = b := by
                          have h := HALT.out
                          rw [← altQ_end, htl]
                          exact h
                        have hnx := sumQ_next (K.take n) (LX, IX) RX m
                        rw [hlat] at hnx
                        have hnk : numK (K.take n) m = NK := by unfold numK; rw [HMT.out]; rfl
                        rw [hnk] at hnx
                        obtain ⟨SM, hSM⟩ : ∃ v, sumQ (K.take n) (LX, IX) RX m = v := ⟨_, rfl⟩
                        obtain ⟨SM2, hSM2⟩ : ∃ v, sumQ (K.take n) (LX, IX) RX (m + 1) = v := ⟨_, rfl⟩
                        have hsb := HSB.out
                        rw [hSM2] at hsb
                        rw [hSM, hSM2] at hnx
                        rw [hSM]
                        have HSM2 := Lib.hid hSM2
                        obtain ⟨t0, t1, t2, t3⟩ := quad4 (strI HVz.out.i0) HM.out had6
                        simp only at t2
                        have n1 : ¬ (n : Int) < (n : Int) := by omega
                        clear hlat hnk hSM hSM2 t0 t1 t3 htl
                        cases b with
                        | true =>
                          as_aux_lemma =>
                          have hw : wrap64 (SM + NK) = SM2 := by rw [if_pos rfl] at hnx; rw [← hnx]; exact IntWalk.wrap64_in _ hsb
                          have hw2 : IntKind.i64.wrap (SM + NK) = SM2 := by rw [if_pos rfl] at hnx; rw [← hnx]; exact IntWalk.i64_in _ hsb
                          clear hnx hsb
                          go_wp2
                          go_roundw
                          case rel => exact ⟨m + 1, by omega, by rw [HSM2.out], by go_num, HVz.out.up (by repeat' (first | (with_reducible exact Below.refl _ _) | (with_reducible assumption) | (with_reducible refine below_over ?_ _ _) | (with_reducible refine Lw.below_alloc ?_ _) | (with_reducible refine Below.drew ?_) | (with_reducible refine below_drewN ?_ _) | (with_reducible refine Below.setCell ?_ ?_ _) | go_size))⟩
                          case measure => simp [intOf]; omega
                        | false =>
                          as_aux_lemma =>
                          have hw : SM2 = SM := by rw [if_neg (by decide)] at hnx; omega
                          clear hnx hsb
                          go_wp2
                          go_roundw
                          case rel => exact ⟨m + 1, by omega, by rw [HSM2.out, hw], by go_num, HVz.out.up (by repeat' (first | (with_reducible exact Below.refl _ _) | (with_reducible assumption) | (with_reducible refine below_over ?_ _ _) | (with_reducible refine Lw.below_alloc ?_ _) | (with_reducible refine Below.drew ?_) | (with_reducible refine below_drewN ?_ _) | (with_reducible refine Below.setCell ?_ ?_ _) | go_size))⟩
                          case measure => simp [intOf]; omega
                  · obtain rfl : m = j := by omega
                    rw [HEND.out]
                    simp only at s0 s1 s2 s3
                    have m1 : ¬ (m : Int) < (m : Int) := by omega
                    go_upto_region 37 with fail
                    clear m1
                    go_cut [247] (fun s wx => s = .bool false ∧ Have w wx [stRowT 4 encR (some a5) KN cap5 K, stRowT 3 encF A4 k cap4 QL, boxT gc 24 #[.int .i64 c.bt, .int .i64 c.rw, .int .i64 c.wd, .int .i64 c.md, .int .u64 c.sd], stT p F c Z, boxT w.heap.size 27 #[.int .i64 x.bt, .int .i64 x.rw, .int .i64 x.wd, .int .i64 x.md, .int .u64 x.sd, .slice A n0 k0]])
                    case first =>
                     as_aux_lemma =>
                      cases m with
                      | zero =>
                        have z1 : ¬ (0 : Int) < ((0 : Nat) : Int) := by decide
                        by_cases hl0 : LX = 0
                        · have hky := hks.2 hl0
                          subst hl0
                          have y1 : ((0 : Nat) : Int) < (KY : Int) := by omega
                          have y2 : decide ((0 : Int) < (KY : Int)) = true := decide_eq_true (by omega)
                          have y3 : decide (0 < KY) = true := decide_eq_true hky
                          go_quiet (fail)
                          all_goals go_wp2
                          all_goals go_meet
                          all_goals exact ⟨rfl, HVx.out.up (by repeat' (first | (with_reducible exact Below.refl _ _) | (with_reducible assumption) | (with_reducible refine below_over ?_ _ _) | (with_reducible refine Lw.below_alloc ?_ _) | (with_reducible refine Below.drew ?_) | (with_reducible refine below_drewN ?_ _) | (with_reducible refine Below.setCell ?_ ?_ _) | go_size))⟩
                        · have hky : ¬ 0 < KY := fun h => hl0 (hks.1 h)
                          have y2 : decide ((0 : Int) < (KY : Int)) = false := decide_eq_false (by omega)
                          have y3 : decide (0 < KY) = false := decide_eq_false hky
                          have t1 : ((LX : Int) == 0) = false := beq_eq_false_iff_ne.2 (by omega)
                          have t2 : ¬ (LX : Int) = 0 := by omega
                          go_quiet (fail)
                          all_goals go_wp2
                          all_goals go_meet
                          all_goals exact ⟨rfl, HVx.out.up (by repeat' (first | (with_reducible exact Below.refl _ _) | (with_reducible assumption) | (with_reducible refine below_over ?_ _ _) | (with_reducible refine Lw.below_alloc ?_ _) | (with_reducible refine Below.drew ?_) | (with_reducible refine below_drewN ?_ _) | (with_reducible refine Below.setCell ?_ ?_ _) | go_size))⟩
                      | succ m =>
                        obtain ⟨q, hq2⟩ : ∃ q, K[m]? = some q := ⟨_, List.getElem?_eq_getElem (by rw [HKQ.out]; omega)⟩
                        obtain ⟨LP, IP, NP, RP, hqq⟩ : ∃ (a b : Nat) (v z : Int), q = ((a, b), v, z) := ⟨_, _, _, _, rfl⟩
                        subst hqq
                        have hro := (HKEPT.out.row.at hq2 HX.out (Nat.lt_succ_self m)).1
                        simp only at hro
                        obtain ⟨a6, g6, o6, ee, had6, cc⟩ := (strI HVx.out.i0).at hq2 rfl
                        injection ee with ee
                        subst ee
                        have t0 := cc 0 _ rfl
                        rw [Nat.add_zero] at t0
                        simp only at t0
                        have f2 : IntKind.i64.wrap (m : Int) = (m : Int) := IntWalk.i64_in _ ⟨by omega, by omega⟩
                        have f3 : (m : Int) < (KN : Int) := by omega
                        have f4 : (0 : Int) < (m : Int) + 1 := by omega
                        have l1 : ¬ (LX : Int) < (LP : Int) := by omega
                        have l2 : ¬ LX < LP := by omega
                        have l3 : decide ((LX : Int) < (LP : Int)) = false := decide_eq_false l1
                        clear cc hq2 j0 j1
                        by_cases hl0 : LX = 0
                        · have hky := hks.2 hl0
                          subst hl0
                          have y1 : (m : Int) + 1 < (KY : Int) := by omega
                          have y2 : decide ((m : Int) + 1 < (KY : Int)) = true := decide_eq_true y1
                          go_quiet (fail)
                          all_goals go_wp2
                          all_goals go_meet
                          all_goals exact ⟨rfl, HVx.out.up (by repeat' (first | (with_reducible exact Below.refl _ _) | (with_reducible assumption) | (with_reducible refine below_over ?_ _ _) | (with_reducible refine Lw.below_alloc ?_ _) | (with_reducible refine Below.drew ?_) | (with_reducible refine below_drewN ?_ _) | (with_reducible refine Below.setCell ?_ ?_ _) | go_size))⟩
                        · have hky : ¬ m + 1 < KY := fun h => hl0 (hks.1 h)
                          have y1 : ¬ (m : Int) + 1 < (KY : Int) := by omega
                          have y2 : decide ((m : Int) + 1 < (KY : Int)) = false := decide_eq_false y1
                          have t1 : ((LX : Int) == 0) = false := beq_eq_false_iff_ne.2 (by omega)
                          have t2 : ¬ (LX : Int) = 0 := by omega
                          go_quiet (fail)
                          all_goals go_wp2
                          all_goals go_meet
                          all_goals exact ⟨rfl, HVx.out.up (by repeat' (first | (with_reducible exact Below.refl _ _) | (with_reducible assumption) | (with_reducible refine below_over ?_ _ _) | (with_reducible refine Lw.below_alloc ?_ _) | (with_reducible refine Below.drew ?_) | (with_reducible refine below_drewN ?_ _) | (with_reducible refine Below.setCell ?_ ?_ _) | go_size))⟩
                    case rest =>
                      as_aux_lemma =>
                      obtain ⟨rfl, hv⟩ := hcut
                      have HVw := Lib.hid hv
                      clear hv
                      go_wp2
                      go_roundw
                      case rel => exact ⟨m + 1, by omega, by go_num, HVw.out.up (by repeat' (first | (with_reducible exact Below.refl _ _) | (with_reducible assumption) | (with_reducible refine below_over ?_ _ _) | (with_reducible refine Lw.below_alloc ?_ _) | (with_reducible refine Below.drew ?_) | (with_reducible refine below_drewN ?_ _) | (with_reducible refine Below.setCell ?_ ?_ _) | go_size))⟩
                      case measure => simp [intOf]; omega
        · obtain rfl : j = KN := by omega
          have j1 : ¬ (j : Int) < (j : Int) := by omega
          have ky1 : (KY : Int) ≤ (j : Int) := by omega
          have ky2 : decide ((KY : Int) ≤ (j : Int)) = true := decide_eq_true ky1
          have ky3 : decide (KY ≤ j) = true := decide_eq_true hklen
          go_wp2
          go_ret
          exact ⟨ret_bs (by first | rfl | (simp [*]; done)), HVs.out.below⟩
theorem kept_law (x : Cfg) (A : Option Addr) (n0 k0 : Nat) (qs : Ups) (a : Int) (w : World) (hx : x.Ok) (hq : UpdV w A n0 k0 qs) :
    Calls Tryz.prog 8 #[.agg #[.int .i64 x.bt, .int .i64 x.rw, .int .i64 x.wd, .int .i64 x.md, .int .u64 x.sd, .slice A n0 k0], .int .i64 a] w fun e w' => e = .returned (.bool true) ∧ Below w.heap.size w w' := by
  obtain ⟨V, LS, a1, a2, a3, g1, g2⟩ := least_cut a
  obtain ⟨N, hN⟩ : ∃ N : Nat, countQ (fun L i => spV (anyC x 8 9) (stsOf (anyC x 8 9) (upsR (anyC x 8 9) 0 qs 0 60)) (L : Int) i) LS (anyC x 8 9).bt.toNat ((anyC x 8 9).bt.toNat + 1) = N := ⟨_, rfl⟩
  by_cases h1 : N ≤ 300
  · exact kept_y x A n0 k0 qs a w hx hq V LS N a1 a2 a3 g1 g2 hN h1
  · exact kept_n x A n0 k0 qs a w hx hq V LS N a1 a2 a3 g1 g2 hN (by omega)
namespace heavyKept
open Go.ChangeShapes Go.WideShapes Go.ChangeAt Go.Joins
set_option maxRecDepth 100000 in
theorem lifted (os : Os) (started : os.Started) (H : Type) (enc : TypeId × Value → H) :
    ReturnsInHanded {} Tryz.checked os 8 .any (Rows.heavyKeptSpec.pre6 enc Tryz.prog Tryz.f8 Rows.heavyKeptRow.domain false) (Rows.heavyKeptSpec.post enc Tryz.prog Tryz.f8 false true false false) := by
  refine Lw.lifted (C := Tryz.checked) (B := 4) (by kernel_rfl) os started (by kernel_rfl) Tryz.func8
    (ChangeSpec.witness6 (enc := enc) (C := Tryz.checked) false ⟨#[], #[.agg #[.int .i64 0, .int .i64 0, .int .i64 0, .int .i64 0, .int .u64 0, .slice none 0 0], .int .i64 0], []⟩ 8 (by kernel_rfl) (by kernel_rfl) (by kernel_rfl) (by kernel_rfl)) rfl Tryz.underlying4 (by kernel_rfl) (by kernel_rfl) (by kernel_rfl) ?_ ?_
  · intro ds h
    rw [Tryz.params8] at h
    match ds, h with
    | [_, _], _ => rfl
  · intro W base args ds p hval hA
    rw [Tryz.params8] at hA hval
    obtain ⟨v0, vs0, d0, ds0, p0, q0, hargs, rfl, rfl, h0, r0⟩ := trodAll_cons hA
    obtain ⟨v1, vs1, d1, ds1, p1, q1, rfl, rfl, rfl, h1, r1⟩ := trodAll_cons r0
    obtain ⟨rfl, rfl, rfl⟩ := trodAll_nil r1
    obtain rfl : args = #[v0, v1] := by cases args; simp_all
    obtain ⟨x0, A0, n0, k0, qs0, rfl, hx0, hq0⟩ := open_playX (hval 0 27 v0 rfl rfl) h0
    obtain ⟨a1, rfl, rfl, rfl, w1⟩ := open_int Tryz.underlying2 (hval 1 2 v1 rfl rfl) h1
    have b1 := Lw.wf_i64 w1
    exact kept_law x0 A0 n0 k0 qs0 a1 W hx0 hq0
theorem over : Rows.heavyKeptRow.holds Tryz.pinned (OpenSpec.ofChange Rows.heavyKeptSpec) :=
  OpenClaim.holds_of_wide 8 Tryz.f8 rfl rfl rfl rfl rfl rfl rfl ⟨rfl, rfl, rfl, rfl, rfl⟩ rfl rfl rfl rfl rfl (by kernel_rfl) Tryz.func8 (by kernel_rfl)
    (of_decide_eq_true (by kernel_rfl)) (by unfold Func.isWrapper; first | (rw [if_pos (by decide +kernel)]; kernel_rfl) | (rw [if_neg (by decide +kernel)]; exact ⟨rfl, rfl⟩))
    (fun os started H enc _ => lifted os started H enc)
theorem proved : Rows.HeavyKeptSaid :=
  over
#print axioms proved
end heavyKept
end Go.Proofs.YtmdkdjgamhaeoaaGreat.Hvy
