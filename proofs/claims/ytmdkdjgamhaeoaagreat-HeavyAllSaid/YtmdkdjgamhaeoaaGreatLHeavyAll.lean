/- The statement HeavyAll of layer 18 holds. Printed by wip/gen/hvy5.py. -/
import Derived.Test.YtmdkdjgamhaeoaaGreatQe
import Derived.Test.YtmdkdjgamhaeoaaGreatQm
import Derived.Test.YtmdkdjgamhaeoaaGreatQp
import Derived.Deep.LoopGhost
import Derived.Deep.RegionHeld3
import Derived.Deep.DeepCutAuto
import Derived.Deep.QuietTactic
import Derived.BigQuiet
namespace Go.Proofs.YtmdkdjgamhaeoaaGreat.Hvy
open Go Go.RowKit Lw Grd Lin Con Shp Sk Exa Lev Stk Pcs Spn Qnt
set_option linter.unusedVariables false
set_option linter.unusedSimpArgs false
set_option linter.constructorNameAsVariable false
theorem alloc_at {X : World} {n : Nat} {vs : Array Value} {t : TypeId} (h : X.heap.size = n) : (X.alloc (.cells vs t)).heap[n]? = some (.cells vs t (0, 0)) := by
  subst h
  exact heap_alloc_new X _
theorem grow_heap {X : World} {b : Nat} {o : Obj} (h : X.heap[b]? = some o) (bs : Array Obj) (d : Nat) : (grow X bs d).heap[b]? = some o := by
  rw [(grow_below X bs d).block b (Array.getElem?_eq_some_iff.1 h).1]
  exact h
set_option maxRecDepth 100000 in
set_option maxHeartbeats 40000000 in
theorem all_1o (x : Cfg) (A : Option Addr) (n0 k0 : Nat) (qs : Ups) (a b : Int) (w : World) (hx : x.Ok) (hq : UpdV w A n0 k0 qs) (Y : Int) (hB : bits .and .i64 x.md 1 = Y) (hB1 : (Y == 1) = false) (V LS V1 A1 : Int) (N : Nat) (a1 : bits .and .i64 a 1099511627775 = V) (a2 : wrap64 (1 + V) = LS) (a3 : IntKind.i64.wrap (1 + V) = LS) (g1 : 1 ≤ LS) (g2 : LS ≤ 1099511627776) (d1 : bits .and .i64 b 65535 = V1) (d2 : Int.tmod V1 301 = A1) (d3 : wrap64 A1 = A1) (d4 : IntKind.i64.wrap A1 = A1) (g3 : 0 ≤ A1) (g4 : A1 < 301)
    (hN : countQ (fun L i => spV { anyC x 10 9 with md := 1 } (stsOf { anyC x 10 9 with md := 1 } (upsR { anyC x 10 9 with md := 1 } 0 qs 0 60)) (L : Int) i) LS { anyC x 10 9 with md := 1 }.bt.toNat ({ anyC x 10 9 with md := 1 }.bt.toNat + 1) = N) (hk : A1 < (N : Int)) :
    Calls Tryz.prog 5 #[.agg #[.int .i64 x.bt, .int .i64 x.rw, .int .i64 x.wd, .int .i64 x.md, .int .u64 x.sd, .slice A n0 k0], .int .i64 a, .int .i64 b] w fun e w' => e = .returned (.bool true) ∧ Below w.heap.size w w' := by
  obtain ⟨c, hC⟩ : ∃ c, { anyC x 10 9 with md := 1 } = c := ⟨_, rfl⟩
  have hr0 := any_right x 10 9 (by omega) (by omega) (by omega) (by omega)
  have hco0 := any_ok x hx 10 9 (by omega) (by omega) (by omega) (by omega)
  have hr : IsRight c := by rw [← hC]; exact ⟨hr0.1, hr0.2.1, hr0.2.2.1, hr0.2.2.2.1, hr0.2.2.2.2.1, hr0.2.2.2.2.2.1, (by show (1 : Int) ≤ 1; omega), (by show (1 : Int) ≤ 3; omega)⟩
  have hco : c.Ok := by rw [← hC]; exact ⟨hco0.b0, hco0.b1, hco0.r0, hco0.r1, hco0.w0, hco0.w1, by show -9223372036854775808 ≤ (1 : Int); omega, by show (1 : Int) ≤ 9223372036854775807; omega, hco0.s0, hco0.s1⟩
  have hmd : c.md = 1 := by rw [← hC]
  have FD := Lib.hid (fun w hq => fed_m x A n0 k0 qs 1 (by omega) (by omega) c w hx hq hC)
  have hbt := hr.1
  have hbt2 := hr.2.1
  have hkeys : 1 ≤ keys c 0 := keys_pos.2 ⟨hr, by omega, by omega⟩
  have hui := upsR_in hkeys qs 0 60
  have CPL := Lib.hid (fun w hq => rplain_any c A n0 k0 qs w hco hkeys hq)
  have CHA := Lib.hid (fun w n i hq hn i0 i1 => rhas_any c A n0 k0 qs n i w hco hkeys hq hn i0 i1)
  have CC0 := Lib.hid (fun w k d h0 h1 h2 h3 => rcut15_any c k d w hco h0 h1 h2 h3 hkeys)
  rw [hC] at hN
  obtain ⟨us, hus⟩ : ∃ us, upsR c 0 qs 0 60 = us := ⟨_, rfl⟩
  rw [hus] at FD hui CPL CHA hN
  have lb : A1 ≤ 4096 := by clear hN; omega
  have q1 := hv_over (c := c) (pt := (fun L i => spV c (stsOf c us) (L : Int) i)) (least := LS) (bud := A1) g1 lb (by rw [hN]; exact hk)
  have C1 := Lib.hid (fun p F w hs => hv_heavy p F c (stsOf c us) LS A1 w hs (by omega) (by omega) (by omega) (by omega))
  rw [q1.1, q1.2] at C1
  obtain ⟨Z, hZ⟩ : ∃ Z, stsOf c us = Z := ⟨_, rfl⟩
  rw [hZ] at FD C1
  have HQ := Lib.hid hq
  have HBX : Hid (Have w (w.alloc (.cells #[.int .i64 x.bt, .int .i64 x.rw, .int .i64 x.wd, .int .i64 x.md, .int .u64 x.sd, .slice A n0 k0] 27)) [boxT w.heap.size 27 #[.int .i64 x.bt, .int .i64 x.rw, .int .i64 x.wd, .int .i64 x.md, .int .u64 x.sd, .slice A n0 k0]]) := Lib.hid (box_new w _ _)
  clear hr0 hco0 hr hco hC hmd hbt hbt2 hkeys hui hus hN q1 hZ hq hx hk lb g1 g2 g3 g4
  go_enter Tryz.func5, Tryz.ntmps5
  go_wp2_with (first
    
    | (go_at_call 15; (with_reducible refine (C1.out p F _ (stI HV3.out.i1)).mono ?_); rintro e w4 ⟨A4, n4, cap4, rfl, h1, h2, hb⟩; obtain rfl : 0 = n4 := (strI h1).len; have HV4 := Lib.hid (HV3.out.push (stRowT 3 encF A4 0 cap4 []) hb h1 h2); clear h1 h2 hb; clear x0 x1 x2 x3 x4 x5; obtain ⟨x0, x1, x2, x3, x4, x5⟩ := box6 HV4.out.i3; obtain ⟨c0, c1, c2, c3, c4⟩ := box5 HV4.out.i1)
    | (go_at_call 24; (with_reducible refine (FD.out _ (HQ.out.up HV1.out.below)).mono ?_); rintro e w2 ⟨p, F, rfl, hv⟩; have HV2 := Lib.hid (HV1.out.join hv); simp only [List.cons_append, List.nil_append] at HV2; clear hv; have HV3 := Lib.hid (HV2.out.push (boxT w2.heap.size 24 #[.int .i64 c.bt, .int .i64 c.rw, .int .i64 c.wd, .int .i64 c.md, .int .u64 c.sd]) (Lw.below_alloc (Below.refl _ _) _) (heap_alloc_new w2 _) (fun k hk => Nat.le_of_eq hk.symm)); clear x0 x1 x2 x3 x4 x5; obtain ⟨x0, x1, x2, x3, x4, x5⟩ := box6 HV3.out.i2)
    | (go_at_call 9; (with_reducible refine (shown_any _).mono ?_); rintro e w1 ⟨rfl, hb⟩; have HV1 := Lib.hid (HBX.out.up hb); clear hb; obtain ⟨x0, x1, x2, x3, x4, x5⟩ := box6 HV1.out.i0))
  go_ret
  exact ⟨ret_bs (by first | rfl | (simp [*]; done)), HV4.out.below⟩
set_option maxRecDepth 100000 in
set_option maxHeartbeats 40000000 in
theorem all_1n (x : Cfg) (A : Option Addr) (n0 k0 : Nat) (qs : Ups) (a b : Int) (w : World) (hx : x.Ok) (hq : UpdV w A n0 k0 qs) (Y : Int) (hB : bits .and .i64 x.md 1 = Y) (hB1 : (Y == 1) = false) (V LS V1 A1 : Int) (N : Nat) (a1 : bits .and .i64 a 1099511627775 = V) (a2 : wrap64 (1 + V) = LS) (a3 : IntKind.i64.wrap (1 + V) = LS) (g1 : 1 ≤ LS) (g2 : LS ≤ 1099511627776) (d1 : bits .and .i64 b 65535 = V1) (d2 : Int.tmod V1 301 = A1) (d3 : wrap64 A1 = A1) (d4 : IntKind.i64.wrap A1 = A1) (g3 : 0 ≤ A1) (g4 : A1 < 301)
    (hN : countQ (fun L i => spV { anyC x 10 9 with md := 1 } (stsOf { anyC x 10 9 with md := 1 } (upsR { anyC x 10 9 with md := 1 } 0 qs 0 60)) (L : Int) i) LS { anyC x 10 9 with md := 1 }.bt.toNat ({ anyC x 10 9 with md := 1 }.bt.toNat + 1) = N) (hk : (N : Int) ≤ A1) (hpl : plainB (upsR { anyC x 10 9 with md := 1 } 0 qs 0 60) = false) :
    Calls Tryz.prog 5 #[.agg #[.int .i64 x.bt, .int .i64 x.rw, .int .i64 x.wd, .int .i64 x.md, .int .u64 x.sd, .slice A n0 k0], .int .i64 a, .int .i64 b] w fun e w' => e = .returned (.bool true) ∧ Below w.heap.size w w' := by
  obtain ⟨c, hC⟩ : ∃ c, { anyC x 10 9 with md := 1 } = c := ⟨_, rfl⟩
  have hr0 := any_right x 10 9 (by omega) (by omega) (by omega) (by omega)
  have hco0 := any_ok x hx 10 9 (by omega) (by omega) (by omega) (by omega)
  have hr : IsRight c := by rw [← hC]; exact ⟨hr0.1, hr0.2.1, hr0.2.2.1, hr0.2.2.2.1, hr0.2.2.2.2.1, hr0.2.2.2.2.2.1, (by show (1 : Int) ≤ 1; omega), (by show (1 : Int) ≤ 3; omega)⟩
  have hco : c.Ok := by rw [← hC]; exact ⟨hco0.b0, hco0.b1, hco0.r0, hco0.r1, hco0.w0, hco0.w1, by show -9223372036854775808 ≤ (1 : Int); omega, by show (1 : Int) ≤ 9223372036854775807; omega, hco0.s0, hco0.s1⟩
  have hmd : c.md = 1 := by rw [← hC]
  have FD := Lib.hid (fun w hq => fed_m x A n0 k0 qs 1 (by omega) (by omega) c w hx hq hC)
  have hbt := hr.1
  have hbt2 := hr.2.1
  have hkeys : 1 ≤ keys c 0 := keys_pos.2 ⟨hr, by omega, by omega⟩
  have hui := upsR_in hkeys qs 0 60
  have CPL := Lib.hid (fun w hq => rplain_any c A n0 k0 qs w hco hkeys hq)
  have CHA := Lib.hid (fun w n i hq hn i0 i1 => rhas_any c A n0 k0 qs n i w hco hkeys hq hn i0 i1)
  have CC0 := Lib.hid (fun w k d h0 h1 h2 h3 => rcut15_any c k d w hco h0 h1 h2 h3 hkeys)
  rw [hC] at hN hpl
  obtain ⟨us, hus⟩ : ∃ us, upsR c 0 qs 0 60 = us := ⟨_, rfl⟩
  rw [hus] at FD hui CPL CHA hN hpl
  rw [hpl] at CPL
  have lb : A1 ≤ 4096 := by clear hN; omega
  have q1 := hv_yes (c := c) (pt := (fun L i => spV c (stsOf c us) (L : Int) i)) (least := LS) (bud := A1) g1 lb (by rw [hN]; exact hk)
  have C1 := Lib.hid (fun p F w hs => hv_heavy p F c (stsOf c us) LS A1 w hs (by omega) (by omega) (by omega) (by omega))
  rw [q1.1, q1.2] at C1
  have hlen := foundQ_len (fun L i => spV c (stsOf c us) (L : Int) i) LS c.bt.toNat
  rw [hN] at hlen
  obtain ⟨QL, hQL⟩ : ∃ l, foundQ (fun L i => spV c (stsOf c us) (L : Int) i) LS c.bt.toNat (c.bt.toNat + 1) = l := ⟨_, rfl⟩
  rw [hQL] at hlen C1
  obtain ⟨LN, hLN⟩ : ∃ n, QL.length = n := ⟨_, rfl⟩
  have HLQ := Lib.hid hLN
  rw [hLN] at hlen
  have hL400 : LN ≤ 301 := by clear hN; omega
  obtain ⟨Z, hZ⟩ : ∃ Z, stsOf c us = Z := ⟨_, rfl⟩
  rw [hZ] at FD C1
  have HQ := Lib.hid hq
  have HBX : Hid (Have w (w.alloc (.cells #[.int .i64 x.bt, .int .i64 x.rw, .int .i64 x.wd, .int .i64 x.md, .int .u64 x.sd, .slice A n0 k0] 27)) [boxT w.heap.size 27 #[.int .i64 x.bt, .int .i64 x.rw, .int .i64 x.wd, .int .i64 x.md, .int .u64 x.sd, .slice A n0 k0]]) := Lib.hid (box_new w _ _)
  clear hr0 hco0 hr hco hC hmd hbt hbt2 hkeys hui hus hN q1 hZ hq hx hk lb g1 g2 g3 g4 hQL hlen hLN hpl
  go_enter Tryz.func5, Tryz.ntmps5
  go_wp2_with (first
    | (go_at_call 25; (with_reducible refine (CPL.out _ (HQ.out.up HV4.out.below)).mono ?_); rintro e w5 ⟨rfl, hb⟩; have HV5 := Lib.hid (HV4.out.up hb); clear hb c0 c1 c2 c3 c4; clear x0 x1 x2 x3 x4 x5; obtain ⟨x0, x1, x2, x3, x4, x5⟩ := box6 HV5.out.i3)
    | (go_at_call 15; (with_reducible refine (C1.out p F _ (stI HV3.out.i1)).mono ?_); rintro e w4 ⟨A4, n4, cap4, rfl, h1, h2, hb⟩; obtain rfl : LN = n4 := HLQ.out.symm.trans (strI h1).len; have HV4 := Lib.hid (HV3.out.push (stRowT 3 encF A4 LN cap4 QL) hb h1 h2); clear h1 h2 hb; clear x0 x1 x2 x3 x4 x5; obtain ⟨x0, x1, x2, x3, x4, x5⟩ := box6 HV4.out.i3; obtain ⟨c0, c1, c2, c3, c4⟩ := box5 HV4.out.i1)
    | (go_at_call 24; (with_reducible refine (FD.out _ (HQ.out.up HV1.out.below)).mono ?_); rintro e w2 ⟨p, F, rfl, hv⟩; have HV2 := Lib.hid (HV1.out.join hv); simp only [List.cons_append, List.nil_append] at HV2; clear hv; have HV3 := Lib.hid (HV2.out.push (boxT w2.heap.size 24 #[.int .i64 c.bt, .int .i64 c.rw, .int .i64 c.wd, .int .i64 c.md, .int .u64 c.sd]) (Lw.below_alloc (Below.refl _ _) _) (heap_alloc_new w2 _) (fun k hk => Nat.le_of_eq hk.symm)); clear x0 x1 x2 x3 x4 x5; obtain ⟨x0, x1, x2, x3, x4, x5⟩ := box6 HV3.out.i2)
    | (go_at_call 9; (with_reducible refine (shown_any _).mono ?_); rintro e w1 ⟨rfl, hb⟩; have HV1 := Lib.hid (HBX.out.up hb); clear hb; obtain ⟨x0, x1, x2, x3, x4, x5⟩ := box6 HV1.out.i0))
  go_ret
  exact ⟨ret_bs (by first | rfl | (simp [*]; done)), HV5.out.below⟩
set_option maxRecDepth 100000 in
set_option maxHeartbeats 40000000 in
theorem all_1y (x : Cfg) (A : Option Addr) (n0 k0 : Nat) (qs : Ups) (a b : Int) (w : World) (hx : x.Ok) (hq : UpdV w A n0 k0 qs) (Y : Int) (hB : bits .and .i64 x.md 1 = Y) (hB1 : (Y == 1) = false) (V LS V1 A1 : Int) (N : Nat) (a1 : bits .and .i64 a 1099511627775 = V) (a2 : wrap64 (1 + V) = LS) (a3 : IntKind.i64.wrap (1 + V) = LS) (g1 : 1 ≤ LS) (g2 : LS ≤ 1099511627776) (d1 : bits .and .i64 b 65535 = V1) (d2 : Int.tmod V1 301 = A1) (d3 : wrap64 A1 = A1) (d4 : IntKind.i64.wrap A1 = A1) (g3 : 0 ≤ A1) (g4 : A1 < 301)
    (hN : countQ (fun L i => spV { anyC x 10 9 with md := 1 } (stsOf { anyC x 10 9 with md := 1 } (upsR { anyC x 10 9 with md := 1 } 0 qs 0 60)) (L : Int) i) LS { anyC x 10 9 with md := 1 }.bt.toNat ({ anyC x 10 9 with md := 1 }.bt.toNat + 1) = N) (hk : (N : Int) ≤ A1) (hpl : plainB (upsR { anyC x 10 9 with md := 1 } 0 qs 0 60) = true) :
    Calls Tryz.prog 5 #[.agg #[.int .i64 x.bt, .int .i64 x.rw, .int .i64 x.wd, .int .i64 x.md, .int .u64 x.sd, .slice A n0 k0], .int .i64 a, .int .i64 b] w fun e w' => e = .returned (.bool true) ∧ Below w.heap.size w w' := by
  obtain ⟨c, hC⟩ : ∃ c, { anyC x 10 9 with md := 1 } = c := ⟨_, rfl⟩
  have hr0 := any_right x 10 9 (by omega) (by omega) (by omega) (by omega)
  have hco0 := any_ok x hx 10 9 (by omega) (by omega) (by omega) (by omega)
  have hr : IsRight c := by rw [← hC]; exact ⟨hr0.1, hr0.2.1, hr0.2.2.1, hr0.2.2.2.1, hr0.2.2.2.2.1, hr0.2.2.2.2.2.1, (by show (1 : Int) ≤ 1; omega), (by show (1 : Int) ≤ 3; omega)⟩
  have hco : c.Ok := by rw [← hC]; exact ⟨hco0.b0, hco0.b1, hco0.r0, hco0.r1, hco0.w0, hco0.w1, by show -9223372036854775808 ≤ (1 : Int); omega, by show (1 : Int) ≤ 9223372036854775807; omega, hco0.s0, hco0.s1⟩
  have hmd : c.md = 1 := by rw [← hC]
  have FD := Lib.hid (fun w hq => fed_m x A n0 k0 qs 1 (by omega) (by omega) c w hx hq hC)
  have hbt := hr.1
  have hbt2 := hr.2.1
  have hkeys : 1 ≤ keys c 0 := keys_pos.2 ⟨hr, by omega, by omega⟩
  have hui := upsR_in hkeys qs 0 60
  have CPL := Lib.hid (fun w hq => rplain_any c A n0 k0 qs w hco hkeys hq)
  have CHA := Lib.hid (fun w n i hq hn i0 i1 => rhas_any c A n0 k0 qs n i w hco hkeys hq hn i0 i1)
  have CC0 := Lib.hid (fun w k d h0 h1 h2 h3 => rcut15_any c k d w hco h0 h1 h2 h3 hkeys)
  rw [hC] at hN hpl
  obtain ⟨us, hus⟩ : ∃ us, upsR c 0 qs 0 60 = us := ⟨_, rfl⟩
  rw [hus] at FD hui CPL CHA hN hpl
  rw [hpl] at CPL
  have lb : A1 ≤ 4096 := by clear hN; omega
  have q1 := hv_yes (c := c) (pt := (fun L i => spV c (stsOf c us) (L : Int) i)) (least := LS) (bud := A1) g1 lb (by rw [hN]; exact hk)
  have C1 := Lib.hid (fun p F w hs => hv_heavy p F c (stsOf c us) LS A1 w hs (by omega) (by omega) (by omega) (by omega))
  rw [q1.1, q1.2] at C1
  have hlen := foundQ_len (fun L i => spV c (stsOf c us) (L : Int) i) LS c.bt.toNat
  rw [hN] at hlen
  have HAL := Lib.hid (fun L i hL hi hh => all_found hr (by omega) hui hpl (LS := LS) (L := L) (i := i) hL hi hh)
  have HKI := Lib.hid (fun U L u0 u1 hL => key_ix hr (U := U) u0 u1 (L := L) hL)
  have HKY := Lib.hid hkeys
  obtain ⟨QL, hQL⟩ : ∃ l, foundQ (fun L i => spV c (stsOf c us) (L : Int) i) LS c.bt.toNat (c.bt.toNat + 1) = l := ⟨_, rfl⟩
  rw [hQL] at hlen C1 HAL
  obtain ⟨LN, hLN⟩ : ∃ n, QL.length = n := ⟨_, rfl⟩
  have HLQ := Lib.hid hLN
  rw [hLN] at hlen
  have hL400 : LN ≤ 301 := by clear hN; omega
  obtain ⟨BB, hBB⟩ : ∃ B, c.bt.toNat = B := ⟨_, rfl⟩
  rw [hBB] at HAL HKI
  have HBB : Hid (c.bt = (BB : Int)) := Lib.hid (by clear hN; omega)
  have hb59 : BB ≤ 59 := by clear hN; omega
  have HL := Lib.hid hq.len
  have hnc := hq.nc
  have hcm := hq.cm
  unfold maxLen at hcm
  obtain ⟨Z, hZ⟩ : ∃ Z, stsOf c us = Z := ⟨_, rfl⟩
  rw [hZ] at FD C1
  have HQ := Lib.hid hq
  have HBX : Hid (Have w (w.alloc (.cells #[.int .i64 x.bt, .int .i64 x.rw, .int .i64 x.wd, .int .i64 x.md, .int .u64 x.sd, .slice A n0 k0] 27)) [boxT w.heap.size 27 #[.int .i64 x.bt, .int .i64 x.rw, .int .i64 x.wd, .int .i64 x.md, .int .u64 x.sd, .slice A n0 k0]]) := Lib.hid (box_new w _ _)
  clear hr0 hco0 hr hco hC hmd hbt hbt2 hkeys hui hus hN q1 hZ hq hx hk lb g1 g2 g3 g4 hQL hlen hLN hpl hBB
  go_enter Tryz.func5, Tryz.ntmps5
  go_wp2_with (first
    | (go_at_call 25; (with_reducible refine (CPL.out _ (HQ.out.up HV4.out.below)).mono ?_); rintro e w5 ⟨rfl, hb⟩; have HV5 := Lib.hid (HV4.out.up hb); clear hb c0 c1 c2 c3 c4; clear x0 x1 x2 x3 x4 x5; obtain ⟨x0, x1, x2, x3, x4, x5⟩ := box6 HV5.out.i3)
    | (go_at_call 15; (with_reducible refine (C1.out p F _ (stI HV3.out.i1)).mono ?_); rintro e w4 ⟨A4, n4, cap4, rfl, h1, h2, hb⟩; obtain rfl : LN = n4 := HLQ.out.symm.trans (strI h1).len; have HV4 := Lib.hid (HV3.out.push (stRowT 3 encF A4 LN cap4 QL) hb h1 h2); clear h1 h2 hb; clear x0 x1 x2 x3 x4 x5; obtain ⟨x0, x1, x2, x3, x4, x5⟩ := box6 HV4.out.i3; obtain ⟨c0, c1, c2, c3, c4⟩ := box5 HV4.out.i1)
    | (go_at_call 24; (with_reducible refine (FD.out _ (HQ.out.up HV1.out.below)).mono ?_); rintro e w2 ⟨p, F, rfl, hv⟩; have HV2 := Lib.hid (HV1.out.join hv); simp only [List.cons_append, List.nil_append] at HV2; clear hv; have HV3 := Lib.hid (HV2.out.push (boxT w2.heap.size 24 #[.int .i64 c.bt, .int .i64 c.rw, .int .i64 c.wd, .int .i64 c.md, .int .u64 c.sd]) (Lw.below_alloc (Below.refl _ _) _) (heap_alloc_new w2 _) (fun k hk => Nat.le_of_eq hk.symm)); clear x0 x1 x2 x3 x4 x5; obtain ⟨x0, x1, x2, x3, x4, x5⟩ := box6 HV3.out.i2)
    | (go_at_call 9; (with_reducible refine (shown_any _).mono ?_); rintro e w1 ⟨rfl, hb⟩; have HV1 := Lib.hid (HBX.out.up hb); clear hb; obtain ⟨x0, x1, x2, x3, x4, x5⟩ := box6 HV1.out.i0))
  obtain ⟨gc, hgc⟩ : ∃ g, w2.heap.size = g := ⟨_, rfl⟩
  rw [hgc] at HV5 ⊢
  clear hgc HV1 HV2 HV3 HV4 FD C1 CPL HBX a1 a2 a3 d1 d2 d3 d4 hB hB1 x0 x1 x2 x3 x4 x5
  go_loopw [13] (fun iv wr => ∃ (j : Nat), j ≤ n0 ∧ j ≤ 60 ∧ iv = .int .i64 (j : Int) ∧ Have w wr [stRowT 3 encF A4 LN cap4 QL, boxT gc 24 #[.int .i64 c.bt, .int .i64 c.rw, .int .i64 c.wd, .int .i64 c.md, .int .u64 c.sd], stT p F c Z, boxT w.heap.size 27 #[.int .i64 x.bt, .int .i64 x.rw, .int .i64 x.wd, .int .i64 x.md, .int .u64 x.sd, .slice A n0 k0]]) (fun iv _ => 60 - (intOf iv).toNat)
  case atStart => exact ⟨0, Nat.zero_le _, Nat.zero_le _, rfl, HV5.out.up (by repeat' (first | (with_reducible exact Below.refl _ _) | (with_reducible assumption) | (with_reducible refine below_over ?_ _ _) | (with_reducible refine Lw.below_alloc ?_ _) | (with_reducible refine Below.drew ?_) | (with_reducible refine below_drewN ?_ _) | (with_reducible refine Below.setCell ?_ ?_ _) | go_size))⟩
  case round =>
    obtain ⟨j, hj, hj6, rfl, hv⟩ := hrel
    have HVr := Lib.hid hv
    clear hv
    obtain ⟨x0, x1, x2, x3, x4, x5⟩ := box6 HVr.out.i3
    by_cases hlt : j < n0 ∧ j < 60
    · obtain ⟨hj1, hj2⟩ := hlt
      obtain ⟨q, hq1⟩ : ∃ q, qs[j]? = some q := ⟨_, List.getElem?_eq_getElem (by rw [HL.out]; omega)⟩
      have hcu := cutU_ok HKY.out q
      obtain ⟨ua, g, o, rfl, hadd, d1w, d2w, kb, db⟩ := HQ.out.at hq1
      obtain ⟨qk, qd⟩ := q
      simp only at d1w d2w kb db
      have D1W := Lib.hid d1w
      have D2W := Lib.hid d2w
      have CC := Lib.hid (fun w => CC0.out w qk qd kb.1 kb.2 db.1 db.2)
      obtain ⟨U, hU⟩ : ∃ U, (cutU c 0 (qk, qd)).1 = U := ⟨_, rfl⟩
      obtain ⟨D, hD⟩ : ∃ D, (cutU c 0 (qk, qd)).2 = D := ⟨_, rfl⟩
      have hT : cutU c 0 (qk, qd) = (U, D) := by rw [← hU, ← hD]
      rw [hU, hD] at CC
      rw [hT] at hcu
      have HCU := Lib.hid hcu
      have hfd := fld_key U D
      have jn : (j : Int) < (n0 : Int) := by omega
      have j6 : (j : Int) < 60 := by omega
      have j0 : (0 : Int) ≤ (j : Int) := by omega
      clear hq1 hcu hT hU hD d1w d2w
      go_wp2
      go_loopw [14] (fun lv wr => ∃ (LV : Nat), LV ≤ BB + 1 ∧ lv = .int .i64 (LV : Int) ∧ Have w wr [stRowT 3 encF A4 LN cap4 QL, boxT gc 24 #[.int .i64 c.bt, .int .i64 c.rw, .int .i64 c.wd, .int .i64 c.md, .int .u64 c.sd], stT p F c Z, boxT w.heap.size 27 #[.int .i64 x.bt, .int .i64 x.rw, .int .i64 x.wd, .int .i64 x.md, .int .u64 x.sd, .slice (some ua) n0 k0]]) (fun lv _ => BB + 1 - (intOf lv).toNat)
      case atStart => exact ⟨0, Nat.zero_le _, rfl, HVr.out.up (by repeat' (first | (with_reducible exact Below.refl _ _) | (with_reducible assumption) | (with_reducible refine below_over ?_ _ _) | (with_reducible refine Lw.below_alloc ?_ _) | (with_reducible refine Below.drew ?_) | (with_reducible refine below_drewN ?_ _) | (with_reducible refine Below.setCell ?_ ?_ _) | go_size))⟩
      case round =>
        obtain ⟨LV, hLV, rfl, hv⟩ := hrel
        have HVs := Lib.hid hv
        clear hv x0 x1 x2 x3 x4 x5
        obtain ⟨x0, x1, x2, x3, x4, x5⟩ := box6 HVs.out.i3
        obtain ⟨c0, c1, c2, c3, c4⟩ := box5 HVs.out.i1
        have d1 := cell_up D1W.out HVs.out.below
        have d2 := cell_up D2W.out HVs.out.below
        by_cases hlb : LV ≤ BB
        · obtain ⟨IX, i1, i2, i3, i4, i5⟩ := HKI.out U LV HCU.out.1 HCU.out.2.1 hlb
          have lle : (LV : Int) ≤ c.bt := by rw [HBB.out]; omega
          have l0 : (0 : Int) ≤ (LV : Int) := by omega
          have I3 := Lib.hid i3
          have I4 := Lib.hid i4
          clear i3 i4
          go_upto_region 21 with fail
          go_cut [15] (fun s15 wx => ∃ gp : Nat, s15 = .pointer (some ⟨gp, 0, none⟩) ∧ Have w wx [boxT gp 69 #[.int .i64 (LV : Int), .int .u64 (IX : Int)], stRowT 3 encF A4 LN cap4 QL, boxT gc 24 #[.int .i64 c.bt, .int .i64 c.rw, .int .i64 c.wd, .int .i64 c.md, .int .u64 c.sd], stT p F c Z, boxT w.heap.size 27 #[.int .i64 x.bt, .int .i64 x.rw, .int .i64 x.wd, .int .i64 x.md, .int .u64 x.sd, .slice (some ua) n0 k0]])
          case first =>
            go_region_held3 (fun w' => w'.cell? ⟨gc, 0, none⟩ = some (.int .i64 c.bt) ∧ w'.cell? ⟨gc, 1, none⟩ = some (.int .i64 c.rw) ∧ w'.cell? ⟨gc, 2, none⟩ = some (.int .i64 c.wd) ∧ w'.cell? ⟨gc, 3, none⟩ = some (.int .i64 c.md) ∧ w'.cell? ⟨gc, 4, none⟩ = some (.int .u64 c.sd) ∧ w'.cell? ⟨w.heap.size, 5, none⟩ = some (.slice (some ua) n0 k0) ∧ w'.cell? ⟨g, o, none⟩ = some (.int .u64 qk) ∧ w'.cell? ⟨g, o + 1, none⟩ = some (.int .i64 qd)) (first | (refine ⟨?_, ?_, ?_, ?_, ?_, ?_, ?_, ?_⟩ <;> (first | (with_reducible assumption) | (with_reducible refine cell_up c0 ?_) | (with_reducible refine cell_up c1 ?_) | (with_reducible refine cell_up c2 ?_) | (with_reducible refine cell_up c3 ?_) | (with_reducible refine cell_up c4 ?_) | (with_reducible refine cell_up x5 ?_) | (with_reducible refine cell_up d1 ?_) | (with_reducible refine cell_up d2 ?_)) <;> (repeat' (first | (with_reducible exact Below.refl _ _) | (with_reducible assumption) | (with_reducible refine below_over ?_ _ _) | (with_reducible refine Lw.below_alloc ?_ _) | (with_reducible refine Below.drew ?_) | (with_reducible refine below_drewN ?_ _) | (with_reducible refine Below.setCell ?_ ?_ _) | go_size)))) (first
              | (go_at_call 26; (with_reducible refine (CC.out _).mono ?_); rintro e w' ⟨rfl, hb⟩; obtain ⟨bs, dd, rfl⟩ := below_grow hb; clear hb))
            all_goals go_wp2_with fail
            all_goals go_meet
            all_goals refine ⟨_, rfl, HVs.out.push (boxT _ _ _) (by repeat' (first | (with_reducible exact Below.refl _ _) | (with_reducible assumption) | (with_reducible refine below_over ?_ _ _) | (with_reducible refine Lw.below_alloc ?_ _) | (with_reducible refine Below.drew ?_) | (with_reducible refine below_drewN ?_ _) | (with_reducible refine Below.setCell ?_ ?_ _) | go_size)) ?_ (fun k hk => by subst hk; simp; done)⟩
            all_goals first | exact alloc_at (by simp) | exact grow_heap (alloc_at (by simp)) _ _
          case rest =>
            obtain ⟨gp, rfl, hvt⟩ := hcut
            obtain ⟨wt, rfl⟩ : ∃ wt, wt = wc := ⟨_, rfl⟩
            have HVt0 := Lib.hid hvt
            clear hvt d1 d2 hfd c0 c1 c2 c3 c4 x0 x1 x2 x3 x4 x5
            obtain ⟨HK, hHK⟩ : ∃ v, hasK ((IX : Nat) : Int) (upN us LV) = v := ⟨_, rfl⟩
            have CHK := Lib.hid (fun w hq => CHA.out w LV (IX : Int) hq (by omega) (by omega) (by have := I4.out; have e59 : (2 : Nat) ^ 59 = 576460752303423488 := rfl; omega))
            rw [hHK] at CHK
            obtain ⟨KP, hKP⟩ : ∃ KP : Nat, LS ≤ HK → KP < LN ∧ ∃ v, QL[KP]? = some ((LV, IX), v) := by
              by_cases e : LS ≤ HK
              · obtain ⟨k, v, h1⟩ := HAL.out LV IX hlb I3.out (by rw [hHK]; exact e)
                exact ⟨k, fun _ => ⟨by rw [← HLQ.out]; exact (List.getElem?_eq_some_iff.1 h1).1, v, h1⟩⟩
              · exact ⟨0, fun h => absurd h e⟩
            have HKP := Lib.hid hKP
            clear hKP hHK
            go_wp2
            go_loopw [16, 17] (fun bv kv wr => ∃ (k : Nat) (b : Bool), k ≤ LN ∧ bv = .bool b ∧ kv = .int .i64 (k : Int) ∧ ((LS ≤ HK ∧ KP < k) → b = true) ∧ Have w wr [boxT gp 69 #[.int .i64 (LV : Int), .int .u64 (IX : Int)], stRowT 3 encF A4 LN cap4 QL, boxT gc 24 #[.int .i64 c.bt, .int .i64 c.rw, .int .i64 c.wd, .int .i64 c.md, .int .u64 c.sd], stT p F c Z, boxT w.heap.size 27 #[.int .i64 x.bt, .int .i64 x.rw, .int .i64 x.wd, .int .i64 x.md, .int .u64 x.sd, .slice (some ua) n0 k0]]) (fun _ kv _ => LN - (intOf kv).toNat)
            case atStart => exact ⟨0, false, Nat.zero_le _, rfl, rfl, (fun h => absurd h.2 (Nat.not_lt_zero _)), HVt0.out.up (by repeat' (first | (with_reducible exact Below.refl _ _) | (with_reducible assumption) | (with_reducible refine below_over ?_ _ _) | (with_reducible refine Lw.below_alloc ?_ _) | (with_reducible refine Below.drew ?_) | (with_reducible refine below_drewN ?_ _) | (with_reducible refine Below.setCell ?_ ?_ _) | go_size))⟩
            case round =>
              obtain ⟨k, b, hk, rfl, rfl, hbk, hv⟩ := hrel
              have HVt := Lib.hid hv
              have HBK := Lib.hid hbk
              clear hv hbk
              obtain ⟨y0, y1⟩ := box2h HVt.out.i0
              by_cases hki : k < LN
              · have k2 : (k : Int) < (LN : Int) := by omega
                have k3 : (0 : Int) ≤ (k : Int) := by omega
                cases b with
                | true =>
                  go_upto_region 26 with fail
                  go_quiet (fail)
                  all_goals go_wp2
                  all_goals go_roundw
                  all_goals first
                    | exact ⟨k + 1, true, by omega, rfl, by go_num, fun _ => rfl, HVt.out.up (by repeat' (first | (with_reducible exact Below.refl _ _) | (with_reducible assumption) | (with_reducible refine below_over ?_ _ _) | (with_reducible refine Lw.below_alloc ?_ _) | (with_reducible refine Below.drew ?_) | (with_reducible refine below_drewN ?_ _) | (with_reducible refine Below.setCell ?_ ?_ _) | go_size))⟩
                    | (simp [intOf]; omega)
                | false =>
                  obtain ⟨q, hq2⟩ : ∃ q, QL[k]? = some q := ⟨_, List.getElem?_eq_getElem (by rw [HLQ.out]; omega)⟩
                  obtain ⟨LK, IK, NK, hqq⟩ : ∃ (a b : Nat) (v : Int), q = ((a, b), v) := ⟨_, _, _, rfl⟩
                  subst hqq
                  have HQ2 := Lib.hid hq2
                  obtain ⟨ak, gk, ok, ee, hadk, cc⟩ := (strI HVt.out.i1).at hq2 rfl
                  subst ee
                  have r0 := cc 0 _ rfl
                  have r1 := cc 1 _ rfl
                  rw [Nat.add_zero] at r0
                  simp only at r0 r1
                  clear cc hq2
                  by_cases h1 : LK = LV ∧ IK = IX
                  · obtain ⟨rfl, rfl⟩ := h1
                    go_upto_region 26 with fail
                    go_quiet (fail)
                    all_goals go_wp2
                    all_goals go_roundw
                    all_goals first
                      | exact ⟨k + 1, true, by omega, rfl, by go_num, fun _ => rfl, HVt.out.up (by repeat' (first | (with_reducible exact Below.refl _ _) | (with_reducible assumption) | (with_reducible refine below_over ?_ _ _) | (with_reducible refine Lw.below_alloc ?_ _) | (with_reducible refine Below.drew ?_) | (with_reducible refine below_drewN ?_ _) | (with_reducible refine Below.setCell ?_ ?_ _) | go_size))⟩
                      | (simp [intOf]; omega)
                  · have HF : Hid ((LS ≤ HK ∧ KP < k + 1) → false = true) := Lib.hid (fun h => by
                      exfalso
                      have e : ¬ KP < k := fun e => by have := HBK.out ⟨h.1, e⟩; cases this
                      have e2 : KP = k := by have := h.2; omega
                      obtain ⟨-, v, hv⟩ := HKP.out h.1
                      rw [e2, HQ2.out] at hv
                      injection hv with hv
                      exact h1 ⟨congrArg (fun x => x.1.1) hv, congrArg (fun x => x.1.2) hv⟩)
                    by_cases e : LK = LV
                    · subst e
                      have e2 : IK ≠ IX := fun h => h1 ⟨rfl, h⟩
                      have s1 : ((IK : Int) == (IX : Int)) = false := beq_eq_false_iff_ne.2 (by omega)
                      have s2 : (IK == IX) = false := beq_eq_false_iff_ne.2 e2
                      have s3 : ¬ (IK : Int) = (IX : Int) := by omega
                      clear h1
                      go_upto_region 26 with fail
                      go_quiet (fail)
                      all_goals go_wp2
                      all_goals go_roundw
                      all_goals first
                        | exact ⟨k + 1, false, by omega, rfl, by go_num, HF.out, HVt.out.up (by repeat' (first | (with_reducible exact Below.refl _ _) | (with_reducible assumption) | (with_reducible refine below_over ?_ _ _) | (with_reducible refine Lw.below_alloc ?_ _) | (with_reducible refine Below.drew ?_) | (with_reducible refine below_drewN ?_ _) | (with_reducible refine Below.setCell ?_ ?_ _) | go_size))⟩
                        | (simp [intOf]; omega)
                    · have s1 : ((LK : Int) == (LV : Int)) = false := beq_eq_false_iff_ne.2 (by omega)
                      have s2 : (LK == LV) = false := beq_eq_false_iff_ne.2 e
                      have s3 : ¬ (LK : Int) = (LV : Int) := by omega
                      clear h1
                      go_upto_region 26 with fail
                      go_quiet (fail)
                      all_goals go_wp2
                      all_goals go_roundw
                      all_goals first
                        | exact ⟨k + 1, false, by omega, rfl, by go_num, HF.out, HVt.out.up (by repeat' (first | (with_reducible exact Below.refl _ _) | (with_reducible assumption) | (with_reducible refine below_over ?_ _ _) | (with_reducible refine Lw.below_alloc ?_ _) | (with_reducible refine Below.drew ?_) | (with_reducible refine below_drewN ?_ _) | (with_reducible refine Below.setCell ?_ ?_ _) | go_size))⟩
                        | (simp [intOf]; omega)
              · obtain rfl : k = LN := by omega
                obtain ⟨c0, c1, c2, c3, c4⟩ := box5 HVt.out.i2
                obtain ⟨x0, x1, x2, x3, x4, x5⟩ := box6 HVt.out.i4
                by_cases hLS : LS ≤ HK
                · have hbt := HBK.out ⟨hLS, (HKP.out hLS).1⟩
                  subst hbt
                  have hl1 : ¬ HK < LS := by omega
                  go_wp2_with (go_at_call 27; (with_reducible refine (CHK.out _ (HQ.out.up HVt.out.below)).mono ?_); rintro e w9 ⟨rfl, hb⟩; have HV9 := Lib.hid (HVt.out.up hb); clear hb)
                  go_roundw
                  case rel => exact ⟨LV + 1, by omega, by go_num, (HV9.out.drop_0).up (by repeat' (first | (with_reducible exact Below.refl _ _) | (with_reducible assumption) | (with_reducible refine below_over ?_ _ _) | (with_reducible refine Lw.below_alloc ?_ _) | (with_reducible refine Below.drew ?_) | (with_reducible refine below_drewN ?_ _) | (with_reducible refine Below.setCell ?_ ?_ _) | go_size))⟩
                  case measure => simp [intOf]; omega
                · have hl2 : HK < LS := by omega
                  go_wp2_with (go_at_call 27; (with_reducible refine (CHK.out _ (HQ.out.up HVt.out.below)).mono ?_); rintro e w9 ⟨rfl, hb⟩; have HV9 := Lib.hid (HVt.out.up hb); clear hb)
                  go_roundw
                  case rel => exact ⟨LV + 1, by omega, by go_num, (HV9.out.drop_0).up (by repeat' (first | (with_reducible exact Below.refl _ _) | (with_reducible assumption) | (with_reducible refine below_over ?_ _ _) | (with_reducible refine Lw.below_alloc ?_ _) | (with_reducible refine Below.drew ?_) | (with_reducible refine below_drewN ?_ _) | (with_reducible refine Below.setCell ?_ ?_ _) | go_size))⟩
                  case measure => simp [intOf]; omega
        · obtain rfl : LV = BB + 1 := by omega
          have lgt : ¬ ((BB : Int) + 1) ≤ c.bt := by rw [HBB.out]; omega
          have lgt2 : c.bt < (BB : Int) + 1 := by rw [HBB.out]; omega
          go_wp2
          go_roundw
          case rel => exact ⟨j + 1, by omega, by omega, by go_num, HVs.out.up (by repeat' (first | (with_reducible exact Below.refl _ _) | (with_reducible assumption) | (with_reducible refine below_over ?_ _ _) | (with_reducible refine Lw.below_alloc ?_ _) | (with_reducible refine Below.drew ?_) | (with_reducible refine below_drewN ?_ _) | (with_reducible refine Below.setCell ?_ ?_ _) | go_size))⟩
          case measure => simp [intOf]; omega
    · have hcases : ((j : Int) < n0 ∧ ¬ (j : Int) < 60) ∨ ¬ (j : Int) < n0 := by omega
      clear hlt
      rcases hcases with ⟨hc1, hc2⟩ | hc1
      all_goals go_wp2
      all_goals go_ret
      all_goals exact ⟨ret_bs (by first | rfl | (simp [*]; done)), HVr.out.below⟩
set_option maxRecDepth 100000 in
set_option maxHeartbeats 40000000 in
theorem all_2o (x : Cfg) (A : Option Addr) (n0 k0 : Nat) (qs : Ups) (a b : Int) (w : World) (hx : x.Ok) (hq : UpdV w A n0 k0 qs) (Y : Int) (hB : bits .and .i64 x.md 1 = Y) (hB1 : (Y == 1) = true) (V LS V1 A1 : Int) (N : Nat) (a1 : bits .and .i64 a 1099511627775 = V) (a2 : wrap64 (1 + V) = LS) (a3 : IntKind.i64.wrap (1 + V) = LS) (g1 : 1 ≤ LS) (g2 : LS ≤ 1099511627776) (d1 : bits .and .i64 b 65535 = V1) (d2 : Int.tmod V1 301 = A1) (d3 : wrap64 A1 = A1) (d4 : IntKind.i64.wrap A1 = A1) (g3 : 0 ≤ A1) (g4 : A1 < 301)
    (hN : countQ (fun L i => spV { anyC x 10 9 with md := 2 } (stsOf { anyC x 10 9 with md := 2 } (upsR { anyC x 10 9 with md := 2 } 0 qs 0 60)) (L : Int) i) LS { anyC x 10 9 with md := 2 }.bt.toNat ({ anyC x 10 9 with md := 2 }.bt.toNat + 1) = N) (hk : A1 < (N : Int)) :
    Calls Tryz.prog 5 #[.agg #[.int .i64 x.bt, .int .i64 x.rw, .int .i64 x.wd, .int .i64 x.md, .int .u64 x.sd, .slice A n0 k0], .int .i64 a, .int .i64 b] w fun e w' => e = .returned (.bool true) ∧ Below w.heap.size w w' := by
  obtain ⟨c, hC⟩ : ∃ c, { anyC x 10 9 with md := 2 } = c := ⟨_, rfl⟩
  have hr0 := any_right x 10 9 (by omega) (by omega) (by omega) (by omega)
  have hco0 := any_ok x hx 10 9 (by omega) (by omega) (by omega) (by omega)
  have hr : IsRight c := by rw [← hC]; exact ⟨hr0.1, hr0.2.1, hr0.2.2.1, hr0.2.2.2.1, hr0.2.2.2.2.1, hr0.2.2.2.2.2.1, (by show (1 : Int) ≤ 2; omega), (by show (2 : Int) ≤ 3; omega)⟩
  have hco : c.Ok := by rw [← hC]; exact ⟨hco0.b0, hco0.b1, hco0.r0, hco0.r1, hco0.w0, hco0.w1, by show -9223372036854775808 ≤ (2 : Int); omega, by show (2 : Int) ≤ 9223372036854775807; omega, hco0.s0, hco0.s1⟩
  have hmd : c.md = 2 := by rw [← hC]
  have FD := Lib.hid (fun w hq => fed_m x A n0 k0 qs 2 (by omega) (by omega) c w hx hq hC)
  have hbt := hr.1
  have hbt2 := hr.2.1
  have hkeys : 1 ≤ keys c 0 := keys_pos.2 ⟨hr, by omega, by omega⟩
  have hui := upsR_in hkeys qs 0 60
  have CPL := Lib.hid (fun w hq => rplain_any c A n0 k0 qs w hco hkeys hq)
  have CHA := Lib.hid (fun w n i hq hn i0 i1 => rhas_any c A n0 k0 qs n i w hco hkeys hq hn i0 i1)
  have CC0 := Lib.hid (fun w k d h0 h1 h2 h3 => rcut15_any c k d w hco h0 h1 h2 h3 hkeys)
  rw [hC] at hN
  obtain ⟨us, hus⟩ : ∃ us, upsR c 0 qs 0 60 = us := ⟨_, rfl⟩
  rw [hus] at FD hui CPL CHA hN
  have lb : A1 ≤ 4096 := by clear hN; omega
  have q1 := hv_over (c := c) (pt := (fun L i => spV c (stsOf c us) (L : Int) i)) (least := LS) (bud := A1) g1 lb (by rw [hN]; exact hk)
  have C1 := Lib.hid (fun p F w hs => hv_heavy p F c (stsOf c us) LS A1 w hs (by omega) (by omega) (by omega) (by omega))
  rw [q1.1, q1.2] at C1
  obtain ⟨Z, hZ⟩ : ∃ Z, stsOf c us = Z := ⟨_, rfl⟩
  rw [hZ] at FD C1
  have HQ := Lib.hid hq
  have HBX : Hid (Have w (w.alloc (.cells #[.int .i64 x.bt, .int .i64 x.rw, .int .i64 x.wd, .int .i64 x.md, .int .u64 x.sd, .slice A n0 k0] 27)) [boxT w.heap.size 27 #[.int .i64 x.bt, .int .i64 x.rw, .int .i64 x.wd, .int .i64 x.md, .int .u64 x.sd, .slice A n0 k0]]) := Lib.hid (box_new w _ _)
  clear hr0 hco0 hr hco hC hmd hbt hbt2 hkeys hui hus hN q1 hZ hq hx hk lb g1 g2 g3 g4
  go_enter Tryz.func5, Tryz.ntmps5
  go_wp2_with (first
    
    | (go_at_call 15; (with_reducible refine (C1.out p F _ (stI HV3.out.i1)).mono ?_); rintro e w4 ⟨A4, n4, cap4, rfl, h1, h2, hb⟩; obtain rfl : 0 = n4 := (strI h1).len; have HV4 := Lib.hid (HV3.out.push (stRowT 3 encF A4 0 cap4 []) hb h1 h2); clear h1 h2 hb; clear x0 x1 x2 x3 x4 x5; obtain ⟨x0, x1, x2, x3, x4, x5⟩ := box6 HV4.out.i3; obtain ⟨c0, c1, c2, c3, c4⟩ := box5 HV4.out.i1)
    | (go_at_call 24; (with_reducible refine (FD.out _ (HQ.out.up HV1.out.below)).mono ?_); rintro e w2 ⟨p, F, rfl, hv⟩; have HV2 := Lib.hid (HV1.out.join hv); simp only [List.cons_append, List.nil_append] at HV2; clear hv; have HV3 := Lib.hid (HV2.out.push (boxT w2.heap.size 24 #[.int .i64 c.bt, .int .i64 c.rw, .int .i64 c.wd, .int .i64 c.md, .int .u64 c.sd]) (Lw.below_alloc (Below.refl _ _) _) (heap_alloc_new w2 _) (fun k hk => Nat.le_of_eq hk.symm)); clear x0 x1 x2 x3 x4 x5; obtain ⟨x0, x1, x2, x3, x4, x5⟩ := box6 HV3.out.i2)
    | (go_at_call 9; (with_reducible refine (shown_any _).mono ?_); rintro e w1 ⟨rfl, hb⟩; have HV1 := Lib.hid (HBX.out.up hb); clear hb; obtain ⟨x0, x1, x2, x3, x4, x5⟩ := box6 HV1.out.i0))
  go_ret
  exact ⟨ret_bs (by first | rfl | (simp [*]; done)), HV4.out.below⟩
set_option maxRecDepth 100000 in
set_option maxHeartbeats 40000000 in
theorem all_2n (x : Cfg) (A : Option Addr) (n0 k0 : Nat) (qs : Ups) (a b : Int) (w : World) (hx : x.Ok) (hq : UpdV w A n0 k0 qs) (Y : Int) (hB : bits .and .i64 x.md 1 = Y) (hB1 : (Y == 1) = true) (V LS V1 A1 : Int) (N : Nat) (a1 : bits .and .i64 a 1099511627775 = V) (a2 : wrap64 (1 + V) = LS) (a3 : IntKind.i64.wrap (1 + V) = LS) (g1 : 1 ≤ LS) (g2 : LS ≤ 1099511627776) (d1 : bits .and .i64 b 65535 = V1) (d2 : Int.tmod V1 301 = A1) (d3 : wrap64 A1 = A1) (d4 : IntKind.i64.wrap A1 = A1) (g3 : 0 ≤ A1) (g4 : A1 < 301)
    (hN : countQ (fun L i => spV { anyC x 10 9 with md := 2 } (stsOf { anyC x 10 9 with md := 2 } (upsR { anyC x 10 9 with md := 2 } 0 qs 0 60)) (L : Int) i) LS { anyC x 10 9 with md := 2 }.bt.toNat ({ anyC x 10 9 with md := 2 }.bt.toNat + 1) = N) (hk : (N : Int) ≤ A1) (hpl : plainB (upsR { anyC x 10 9 with md := 2 } 0 qs 0 60) = false) :
    Calls Tryz.prog 5 #[.agg #[.int .i64 x.bt, .int .i64 x.rw, .int .i64 x.wd, .int .i64 x.md, .int .u64 x.sd, .slice A n0 k0], .int .i64 a, .int .i64 b] w fun e w' => e = .returned (.bool true) ∧ Below w.heap.size w w' := by
  obtain ⟨c, hC⟩ : ∃ c, { anyC x 10 9 with md := 2 } = c := ⟨_, rfl⟩
  have hr0 := any_right x 10 9 (by omega) (by omega) (by omega) (by omega)
  have hco0 := any_ok x hx 10 9 (by omega) (by omega) (by omega) (by omega)
  have hr : IsRight c := by rw [← hC]; exact ⟨hr0.1, hr0.2.1, hr0.2.2.1, hr0.2.2.2.1, hr0.2.2.2.2.1, hr0.2.2.2.2.2.1, (by show (1 : Int) ≤ 2; omega), (by show (2 : Int) ≤ 3; omega)⟩
  have hco : c.Ok := by rw [← hC]; exact ⟨hco0.b0, hco0.b1, hco0.r0, hco0.r1, hco0.w0, hco0.w1, by show -9223372036854775808 ≤ (2 : Int); omega, by show (2 : Int) ≤ 9223372036854775807; omega, hco0.s0, hco0.s1⟩
  have hmd : c.md = 2 := by rw [← hC]
  have FD := Lib.hid (fun w hq => fed_m x A n0 k0 qs 2 (by omega) (by omega) c w hx hq hC)
  have hbt := hr.1
  have hbt2 := hr.2.1
  have hkeys : 1 ≤ keys c 0 := keys_pos.2 ⟨hr, by omega, by omega⟩
  have hui := upsR_in hkeys qs 0 60
  have CPL := Lib.hid (fun w hq => rplain_any c A n0 k0 qs w hco hkeys hq)
  have CHA := Lib.hid (fun w n i hq hn i0 i1 => rhas_any c A n0 k0 qs n i w hco hkeys hq hn i0 i1)
  have CC0 := Lib.hid (fun w k d h0 h1 h2 h3 => rcut15_any c k d w hco h0 h1 h2 h3 hkeys)
  rw [hC] at hN hpl
  obtain ⟨us, hus⟩ : ∃ us, upsR c 0 qs 0 60 = us := ⟨_, rfl⟩
  rw [hus] at FD hui CPL CHA hN hpl
  rw [hpl] at CPL
  have lb : A1 ≤ 4096 := by clear hN; omega
  have q1 := hv_yes (c := c) (pt := (fun L i => spV c (stsOf c us) (L : Int) i)) (least := LS) (bud := A1) g1 lb (by rw [hN]; exact hk)
  have C1 := Lib.hid (fun p F w hs => hv_heavy p F c (stsOf c us) LS A1 w hs (by omega) (by omega) (by omega) (by omega))
  rw [q1.1, q1.2] at C1
  have hlen := foundQ_len (fun L i => spV c (stsOf c us) (L : Int) i) LS c.bt.toNat
  rw [hN] at hlen
  obtain ⟨QL, hQL⟩ : ∃ l, foundQ (fun L i => spV c (stsOf c us) (L : Int) i) LS c.bt.toNat (c.bt.toNat + 1) = l := ⟨_, rfl⟩
  rw [hQL] at hlen C1
  obtain ⟨LN, hLN⟩ : ∃ n, QL.length = n := ⟨_, rfl⟩
  have HLQ := Lib.hid hLN
  rw [hLN] at hlen
  have hL400 : LN ≤ 301 := by clear hN; omega
  obtain ⟨Z, hZ⟩ : ∃ Z, stsOf c us = Z := ⟨_, rfl⟩
  rw [hZ] at FD C1
  have HQ := Lib.hid hq
  have HBX : Hid (Have w (w.alloc (.cells #[.int .i64 x.bt, .int .i64 x.rw, .int .i64 x.wd, .int .i64 x.md, .int .u64 x.sd, .slice A n0 k0] 27)) [boxT w.heap.size 27 #[.int .i64 x.bt, .int .i64 x.rw, .int .i64 x.wd, .int .i64 x.md, .int .u64 x.sd, .slice A n0 k0]]) := Lib.hid (box_new w _ _)
  clear hr0 hco0 hr hco hC hmd hbt hbt2 hkeys hui hus hN q1 hZ hq hx hk lb g1 g2 g3 g4 hQL hlen hLN hpl
  go_enter Tryz.func5, Tryz.ntmps5
  go_wp2_with (first
    | (go_at_call 25; (with_reducible refine (CPL.out _ (HQ.out.up HV4.out.below)).mono ?_); rintro e w5 ⟨rfl, hb⟩; have HV5 := Lib.hid (HV4.out.up hb); clear hb c0 c1 c2 c3 c4; clear x0 x1 x2 x3 x4 x5; obtain ⟨x0, x1, x2, x3, x4, x5⟩ := box6 HV5.out.i3)
    | (go_at_call 15; (with_reducible refine (C1.out p F _ (stI HV3.out.i1)).mono ?_); rintro e w4 ⟨A4, n4, cap4, rfl, h1, h2, hb⟩; obtain rfl : LN = n4 := HLQ.out.symm.trans (strI h1).len; have HV4 := Lib.hid (HV3.out.push (stRowT 3 encF A4 LN cap4 QL) hb h1 h2); clear h1 h2 hb; clear x0 x1 x2 x3 x4 x5; obtain ⟨x0, x1, x2, x3, x4, x5⟩ := box6 HV4.out.i3; obtain ⟨c0, c1, c2, c3, c4⟩ := box5 HV4.out.i1)
    | (go_at_call 24; (with_reducible refine (FD.out _ (HQ.out.up HV1.out.below)).mono ?_); rintro e w2 ⟨p, F, rfl, hv⟩; have HV2 := Lib.hid (HV1.out.join hv); simp only [List.cons_append, List.nil_append] at HV2; clear hv; have HV3 := Lib.hid (HV2.out.push (boxT w2.heap.size 24 #[.int .i64 c.bt, .int .i64 c.rw, .int .i64 c.wd, .int .i64 c.md, .int .u64 c.sd]) (Lw.below_alloc (Below.refl _ _) _) (heap_alloc_new w2 _) (fun k hk => Nat.le_of_eq hk.symm)); clear x0 x1 x2 x3 x4 x5; obtain ⟨x0, x1, x2, x3, x4, x5⟩ := box6 HV3.out.i2)
    | (go_at_call 9; (with_reducible refine (shown_any _).mono ?_); rintro e w1 ⟨rfl, hb⟩; have HV1 := Lib.hid (HBX.out.up hb); clear hb; obtain ⟨x0, x1, x2, x3, x4, x5⟩ := box6 HV1.out.i0))
  go_ret
  exact ⟨ret_bs (by first | rfl | (simp [*]; done)), HV5.out.below⟩
set_option maxRecDepth 100000 in
set_option maxHeartbeats 40000000 in
theorem all_2y (x : Cfg) (A : Option Addr) (n0 k0 : Nat) (qs : Ups) (a b : Int) (w : World) (hx : x.Ok) (hq : UpdV w A n0 k0 qs) (Y : Int) (hB : bits .and .i64 x.md 1 = Y) (hB1 : (Y == 1) = true) (V LS V1 A1 : Int) (N : Nat) (a1 : bits .and .i64 a 1099511627775 = V) (a2 : wrap64 (1 + V) = LS) (a3 : IntKind.i64.wrap (1 + V) = LS) (g1 : 1 ≤ LS) (g2 : LS ≤ 1099511627776) (d1 : bits .and .i64 b 65535 = V1) (d2 : Int.tmod V1 301 = A1) (d3 : wrap64 A1 = A1) (d4 : IntKind.i64.wrap A1 = A1) (g3 : 0 ≤ A1) (g4 : A1 < 301)
    (hN : countQ (fun L i => spV { anyC x 10 9 with md := 2 } (stsOf { anyC x 10 9 with md := 2 } (upsR { anyC x 10 9 with md := 2 } 0 qs 0 60)) (L : Int) i) LS { anyC x 10 9 with md := 2 }.bt.toNat ({ anyC x 10 9 with md := 2 }.bt.toNat + 1) = N) (hk : (N : Int) ≤ A1) (hpl : plainB (upsR { anyC x 10 9 with md := 2 } 0 qs 0 60) = true) :
    Calls Tryz.prog 5 #[.agg #[.int .i64 x.bt, .int .i64 x.rw, .int .i64 x.wd, .int .i64 x.md, .int .u64 x.sd, .slice A n0 k0], .int .i64 a, .int .i64 b] w fun e w' => e = .returned (.bool true) ∧ Below w.heap.size w w' := by
  obtain ⟨c, hC⟩ : ∃ c, { anyC x 10 9 with md := 2 } = c := ⟨_, rfl⟩
  have hr0 := any_right x 10 9 (by omega) (by omega) (by omega) (by omega)
  have hco0 := any_ok x hx 10 9 (by omega) (by omega) (by omega) (by omega)
  have hr : IsRight c := by rw [← hC]; exact ⟨hr0.1, hr0.2.1, hr0.2.2.1, hr0.2.2.2.1, hr0.2.2.2.2.1, hr0.2.2.2.2.2.1, (by show (1 : Int) ≤ 2; omega), (by show (2 : Int) ≤ 3; omega)⟩
  have hco : c.Ok := by rw [← hC]; exact ⟨hco0.b0, hco0.b1, hco0.r0, hco0.r1, hco0.w0, hco0.w1, by show -9223372036854775808 ≤ (2 : Int); omega, by show (2 : Int) ≤ 9223372036854775807; omega, hco0.s0, hco0.s1⟩
  have hmd : c.md = 2 := by rw [← hC]
  have FD := Lib.hid (fun w hq => fed_m x A n0 k0 qs 2 (by omega) (by omega) c w hx hq hC)
  have hbt := hr.1
  have hbt2 := hr.2.1
  have hkeys : 1 ≤ keys c 0 := keys_pos.2 ⟨hr, by omega, by omega⟩
  have hui := upsR_in hkeys qs 0 60
  have CPL := Lib.hid (fun w hq => rplain_any c A n0 k0 qs w hco hkeys hq)
  have CHA := Lib.hid (fun w n i hq hn i0 i1 => rhas_any c A n0 k0 qs n i w hco hkeys hq hn i0 i1)
  have CC0 := Lib.hid (fun w k d h0 h1 h2 h3 => rcut15_any c k d w hco h0 h1 h2 h3 hkeys)
  rw [hC] at hN hpl
  obtain ⟨us, hus⟩ : ∃ us, upsR c 0 qs 0 60 = us := ⟨_, rfl⟩
  rw [hus] at FD hui CPL CHA hN hpl
  rw [hpl] at CPL
  have lb : A1 ≤ 4096 := by clear hN; omega
  have q1 := hv_yes (c := c) (pt := (fun L i => spV c (stsOf c us) (L : Int) i)) (least := LS) (bud := A1) g1 lb (by rw [hN]; exact hk)
  have C1 := Lib.hid (fun p F w hs => hv_heavy p F c (stsOf c us) LS A1 w hs (by omega) (by omega) (by omega) (by omega))
  rw [q1.1, q1.2] at C1
  have hlen := foundQ_len (fun L i => spV c (stsOf c us) (L : Int) i) LS c.bt.toNat
  rw [hN] at hlen
  have HAL := Lib.hid (fun L i hL hi hh => all_found hr (by omega) hui hpl (LS := LS) (L := L) (i := i) hL hi hh)
  have HKI := Lib.hid (fun U L u0 u1 hL => key_ix hr (U := U) u0 u1 (L := L) hL)
  have HKY := Lib.hid hkeys
  obtain ⟨QL, hQL⟩ : ∃ l, foundQ (fun L i => spV c (stsOf c us) (L : Int) i) LS c.bt.toNat (c.bt.toNat + 1) = l := ⟨_, rfl⟩
  rw [hQL] at hlen C1 HAL
  obtain ⟨LN, hLN⟩ : ∃ n, QL.length = n := ⟨_, rfl⟩
  have HLQ := Lib.hid hLN
  rw [hLN] at hlen
  have hL400 : LN ≤ 301 := by clear hN; omega
  obtain ⟨BB, hBB⟩ : ∃ B, c.bt.toNat = B := ⟨_, rfl⟩
  rw [hBB] at HAL HKI
  have HBB : Hid (c.bt = (BB : Int)) := Lib.hid (by clear hN; omega)
  have hb59 : BB ≤ 59 := by clear hN; omega
  have HL := Lib.hid hq.len
  have hnc := hq.nc
  have hcm := hq.cm
  unfold maxLen at hcm
  obtain ⟨Z, hZ⟩ : ∃ Z, stsOf c us = Z := ⟨_, rfl⟩
  rw [hZ] at FD C1
  have HQ := Lib.hid hq
  have HBX : Hid (Have w (w.alloc (.cells #[.int .i64 x.bt, .int .i64 x.rw, .int .i64 x.wd, .int .i64 x.md, .int .u64 x.sd, .slice A n0 k0] 27)) [boxT w.heap.size 27 #[.int .i64 x.bt, .int .i64 x.rw, .int .i64 x.wd, .int .i64 x.md, .int .u64 x.sd, .slice A n0 k0]]) := Lib.hid (box_new w _ _)
  clear hr0 hco0 hr hco hC hmd hbt hbt2 hkeys hui hus hN q1 hZ hq hx hk lb g1 g2 g3 g4 hQL hlen hLN hpl hBB
  go_enter Tryz.func5, Tryz.ntmps5
  go_wp2_with (first
    | (go_at_call 25; (with_reducible refine (CPL.out _ (HQ.out.up HV4.out.below)).mono ?_); rintro e w5 ⟨rfl, hb⟩; have HV5 := Lib.hid (HV4.out.up hb); clear hb c0 c1 c2 c3 c4; clear x0 x1 x2 x3 x4 x5; obtain ⟨x0, x1, x2, x3, x4, x5⟩ := box6 HV5.out.i3)
    | (go_at_call 15; (with_reducible refine (C1.out p F _ (stI HV3.out.i1)).mono ?_); rintro e w4 ⟨A4, n4, cap4, rfl, h1, h2, hb⟩; obtain rfl : LN = n4 := HLQ.out.symm.trans (strI h1).len; have HV4 := Lib.hid (HV3.out.push (stRowT 3 encF A4 LN cap4 QL) hb h1 h2); clear h1 h2 hb; clear x0 x1 x2 x3 x4 x5; obtain ⟨x0, x1, x2, x3, x4, x5⟩ := box6 HV4.out.i3; obtain ⟨c0, c1, c2, c3, c4⟩ := box5 HV4.out.i1)
    | (go_at_call 24; (with_reducible refine (FD.out _ (HQ.out.up HV1.out.below)).mono ?_); rintro e w2 ⟨p, F, rfl, hv⟩; have HV2 := Lib.hid (HV1.out.join hv); simp only [List.cons_append, List.nil_append] at HV2; clear hv; have HV3 := Lib.hid (HV2.out.push (boxT w2.heap.size 24 #[.int .i64 c.bt, .int .i64 c.rw, .int .i64 c.wd, .int .i64 c.md, .int .u64 c.sd]) (Lw.below_alloc (Below.refl _ _) _) (heap_alloc_new w2 _) (fun k hk => Nat.le_of_eq hk.symm)); clear x0 x1 x2 x3 x4 x5; obtain ⟨x0, x1, x2, x3, x4, x5⟩ := box6 HV3.out.i2)
    | (go_at_call 9; (with_reducible refine (shown_any _).mono ?_); rintro e w1 ⟨rfl, hb⟩; have HV1 := Lib.hid (HBX.out.up hb); clear hb; obtain ⟨x0, x1, x2, x3, x4, x5⟩ := box6 HV1.out.i0))
  obtain ⟨gc, hgc⟩ : ∃ g, w2.heap.size = g := ⟨_, rfl⟩
  rw [hgc] at HV5 ⊢
  clear hgc HV1 HV2 HV3 HV4 FD C1 CPL HBX a1 a2 a3 d1 d2 d3 d4 hB hB1 x0 x1 x2 x3 x4 x5
  go_loopw [13] (fun iv wr => ∃ (j : Nat), j ≤ n0 ∧ j ≤ 60 ∧ iv = .int .i64 (j : Int) ∧ Have w wr [stRowT 3 encF A4 LN cap4 QL, boxT gc 24 #[.int .i64 c.bt, .int .i64 c.rw, .int .i64 c.wd, .int .i64 c.md, .int .u64 c.sd], stT p F c Z, boxT w.heap.size 27 #[.int .i64 x.bt, .int .i64 x.rw, .int .i64 x.wd, .int .i64 x.md, .int .u64 x.sd, .slice A n0 k0]]) (fun iv _ => 60 - (intOf iv).toNat)
  case atStart => exact ⟨0, Nat.zero_le _, Nat.zero_le _, rfl, HV5.out.up (by repeat' (first | (with_reducible exact Below.refl _ _) | (with_reducible assumption) | (with_reducible refine below_over ?_ _ _) | (with_reducible refine Lw.below_alloc ?_ _) | (with_reducible refine Below.drew ?_) | (with_reducible refine below_drewN ?_ _) | (with_reducible refine Below.setCell ?_ ?_ _) | go_size))⟩
  case round =>
    obtain ⟨j, hj, hj6, rfl, hv⟩ := hrel
    have HVr := Lib.hid hv
    clear hv
    obtain ⟨x0, x1, x2, x3, x4, x5⟩ := box6 HVr.out.i3
    by_cases hlt : j < n0 ∧ j < 60
    · obtain ⟨hj1, hj2⟩ := hlt
      obtain ⟨q, hq1⟩ : ∃ q, qs[j]? = some q := ⟨_, List.getElem?_eq_getElem (by rw [HL.out]; omega)⟩
      have hcu := cutU_ok HKY.out q
      obtain ⟨ua, g, o, rfl, hadd, d1w, d2w, kb, db⟩ := HQ.out.at hq1
      obtain ⟨qk, qd⟩ := q
      simp only at d1w d2w kb db
      have D1W := Lib.hid d1w
      have D2W := Lib.hid d2w
      have CC := Lib.hid (fun w => CC0.out w qk qd kb.1 kb.2 db.1 db.2)
      obtain ⟨U, hU⟩ : ∃ U, (cutU c 0 (qk, qd)).1 = U := ⟨_, rfl⟩
      obtain ⟨D, hD⟩ : ∃ D, (cutU c 0 (qk, qd)).2 = D := ⟨_, rfl⟩
      have hT : cutU c 0 (qk, qd) = (U, D) := by rw [← hU, ← hD]
      rw [hU, hD] at CC
      rw [hT] at hcu
      have HCU := Lib.hid hcu
      have hfd := fld_key U D
      have jn : (j : Int) < (n0 : Int) := by omega
      have j6 : (j : Int) < 60 := by omega
      have j0 : (0 : Int) ≤ (j : Int) := by omega
      clear hq1 hcu hT hU hD d1w d2w
      go_wp2
      go_loopw [14] (fun lv wr => ∃ (LV : Nat), LV ≤ BB + 1 ∧ lv = .int .i64 (LV : Int) ∧ Have w wr [stRowT 3 encF A4 LN cap4 QL, boxT gc 24 #[.int .i64 c.bt, .int .i64 c.rw, .int .i64 c.wd, .int .i64 c.md, .int .u64 c.sd], stT p F c Z, boxT w.heap.size 27 #[.int .i64 x.bt, .int .i64 x.rw, .int .i64 x.wd, .int .i64 x.md, .int .u64 x.sd, .slice (some ua) n0 k0]]) (fun lv _ => BB + 1 - (intOf lv).toNat)
      case atStart => exact ⟨0, Nat.zero_le _, rfl, HVr.out.up (by repeat' (first | (with_reducible exact Below.refl _ _) | (with_reducible assumption) | (with_reducible refine below_over ?_ _ _) | (with_reducible refine Lw.below_alloc ?_ _) | (with_reducible refine Below.drew ?_) | (with_reducible refine below_drewN ?_ _) | (with_reducible refine Below.setCell ?_ ?_ _) | go_size))⟩
      case round =>
        obtain ⟨LV, hLV, rfl, hv⟩ := hrel
        have HVs := Lib.hid hv
        clear hv x0 x1 x2 x3 x4 x5
        obtain ⟨x0, x1, x2, x3, x4, x5⟩ := box6 HVs.out.i3
        obtain ⟨c0, c1, c2, c3, c4⟩ := box5 HVs.out.i1
        have d1 := cell_up D1W.out HVs.out.below
        have d2 := cell_up D2W.out HVs.out.below
        by_cases hlb : LV ≤ BB
        · obtain ⟨IX, i1, i2, i3, i4, i5⟩ := HKI.out U LV HCU.out.1 HCU.out.2.1 hlb
          have lle : (LV : Int) ≤ c.bt := by rw [HBB.out]; omega
          have l0 : (0 : Int) ≤ (LV : Int) := by omega
          have I3 := Lib.hid i3
          have I4 := Lib.hid i4
          clear i3 i4
          go_upto_region 21 with fail
          go_cut [15] (fun s15 wx => ∃ gp : Nat, s15 = .pointer (some ⟨gp, 0, none⟩) ∧ Have w wx [boxT gp 69 #[.int .i64 (LV : Int), .int .u64 (IX : Int)], stRowT 3 encF A4 LN cap4 QL, boxT gc 24 #[.int .i64 c.bt, .int .i64 c.rw, .int .i64 c.wd, .int .i64 c.md, .int .u64 c.sd], stT p F c Z, boxT w.heap.size 27 #[.int .i64 x.bt, .int .i64 x.rw, .int .i64 x.wd, .int .i64 x.md, .int .u64 x.sd, .slice (some ua) n0 k0]])
          case first =>
            go_region_held3 (fun w' => w'.cell? ⟨gc, 0, none⟩ = some (.int .i64 c.bt) ∧ w'.cell? ⟨gc, 1, none⟩ = some (.int .i64 c.rw) ∧ w'.cell? ⟨gc, 2, none⟩ = some (.int .i64 c.wd) ∧ w'.cell? ⟨gc, 3, none⟩ = some (.int .i64 c.md) ∧ w'.cell? ⟨gc, 4, none⟩ = some (.int .u64 c.sd) ∧ w'.cell? ⟨w.heap.size, 5, none⟩ = some (.slice (some ua) n0 k0) ∧ w'.cell? ⟨g, o, none⟩ = some (.int .u64 qk) ∧ w'.cell? ⟨g, o + 1, none⟩ = some (.int .i64 qd)) (first | (refine ⟨?_, ?_, ?_, ?_, ?_, ?_, ?_, ?_⟩ <;> (first | (with_reducible assumption) | (with_reducible refine cell_up c0 ?_) | (with_reducible refine cell_up c1 ?_) | (with_reducible refine cell_up c2 ?_) | (with_reducible refine cell_up c3 ?_) | (with_reducible refine cell_up c4 ?_) | (with_reducible refine cell_up x5 ?_) | (with_reducible refine cell_up d1 ?_) | (with_reducible refine cell_up d2 ?_)) <;> (repeat' (first | (with_reducible exact Below.refl _ _) | (with_reducible assumption) | (with_reducible refine below_over ?_ _ _) | (with_reducible refine Lw.below_alloc ?_ _) | (with_reducible refine Below.drew ?_) | (with_reducible refine below_drewN ?_ _) | (with_reducible refine Below.setCell ?_ ?_ _) | go_size)))) (first
              | (go_at_call 26; (with_reducible refine (CC.out _).mono ?_); rintro e w' ⟨rfl, hb⟩; obtain ⟨bs, dd, rfl⟩ := below_grow hb; clear hb))
            all_goals go_wp2_with fail
            all_goals go_meet
            all_goals refine ⟨_, rfl, HVs.out.push (boxT _ _ _) (by repeat' (first | (with_reducible exact Below.refl _ _) | (with_reducible assumption) | (with_reducible refine below_over ?_ _ _) | (with_reducible refine Lw.below_alloc ?_ _) | (with_reducible refine Below.drew ?_) | (with_reducible refine below_drewN ?_ _) | (with_reducible refine Below.setCell ?_ ?_ _) | go_size)) ?_ (fun k hk => by subst hk; simp; done)⟩
            all_goals first | exact alloc_at (by simp) | exact grow_heap (alloc_at (by simp)) _ _
          case rest =>
            obtain ⟨gp, rfl, hvt⟩ := hcut
            obtain ⟨wt, rfl⟩ : ∃ wt, wt = wc := ⟨_, rfl⟩
            have HVt0 := Lib.hid hvt
            clear hvt d1 d2 hfd c0 c1 c2 c3 c4 x0 x1 x2 x3 x4 x5
            obtain ⟨HK, hHK⟩ : ∃ v, hasK ((IX : Nat) : Int) (upN us LV) = v := ⟨_, rfl⟩
            have CHK := Lib.hid (fun w hq => CHA.out w LV (IX : Int) hq (by omega) (by omega) (by have := I4.out; have e59 : (2 : Nat) ^ 59 = 576460752303423488 := rfl; omega))
            rw [hHK] at CHK
            obtain ⟨KP, hKP⟩ : ∃ KP : Nat, LS ≤ HK → KP < LN ∧ ∃ v, QL[KP]? = some ((LV, IX), v) := by
              by_cases e : LS ≤ HK
              · obtain ⟨k, v, h1⟩ := HAL.out LV IX hlb I3.out (by rw [hHK]; exact e)
                exact ⟨k, fun _ => ⟨by rw [← HLQ.out]; exact (List.getElem?_eq_some_iff.1 h1).1, v, h1⟩⟩
              · exact ⟨0, fun h => absurd h e⟩
            have HKP := Lib.hid hKP
            clear hKP hHK
            go_wp2
            go_loopw [16, 17] (fun bv kv wr => ∃ (k : Nat) (b : Bool), k ≤ LN ∧ bv = .bool b ∧ kv = .int .i64 (k : Int) ∧ ((LS ≤ HK ∧ KP < k) → b = true) ∧ Have w wr [boxT gp 69 #[.int .i64 (LV : Int), .int .u64 (IX : Int)], stRowT 3 encF A4 LN cap4 QL, boxT gc 24 #[.int .i64 c.bt, .int .i64 c.rw, .int .i64 c.wd, .int .i64 c.md, .int .u64 c.sd], stT p F c Z, boxT w.heap.size 27 #[.int .i64 x.bt, .int .i64 x.rw, .int .i64 x.wd, .int .i64 x.md, .int .u64 x.sd, .slice (some ua) n0 k0]]) (fun _ kv _ => LN - (intOf kv).toNat)
            case atStart => exact ⟨0, false, Nat.zero_le _, rfl, rfl, (fun h => absurd h.2 (Nat.not_lt_zero _)), HVt0.out.up (by repeat' (first | (with_reducible exact Below.refl _ _) | (with_reducible assumption) | (with_reducible refine below_over ?_ _ _) | (with_reducible refine Lw.below_alloc ?_ _) | (with_reducible refine Below.drew ?_) | (with_reducible refine below_drewN ?_ _) | (with_reducible refine Below.setCell ?_ ?_ _) | go_size))⟩
            case round =>
              obtain ⟨k, b, hk, rfl, rfl, hbk, hv⟩ := hrel
              have HVt := Lib.hid hv
              have HBK := Lib.hid hbk
              clear hv hbk
              obtain ⟨y0, y1⟩ := box2h HVt.out.i0
              by_cases hki : k < LN
              · have k2 : (k : Int) < (LN : Int) := by omega
                have k3 : (0 : Int) ≤ (k : Int) := by omega
                cases b with
                | true =>
                  go_upto_region 26 with fail
                  go_quiet (fail)
                  all_goals go_wp2
                  all_goals go_roundw
                  all_goals first
                    | exact ⟨k + 1, true, by omega, rfl, by go_num, fun _ => rfl, HVt.out.up (by repeat' (first | (with_reducible exact Below.refl _ _) | (with_reducible assumption) | (with_reducible refine below_over ?_ _ _) | (with_reducible refine Lw.below_alloc ?_ _) | (with_reducible refine Below.drew ?_) | (with_reducible refine below_drewN ?_ _) | (with_reducible refine Below.setCell ?_ ?_ _) | go_size))⟩
                    | (simp [intOf]; omega)
                | false =>
                  obtain ⟨q, hq2⟩ : ∃ q, QL[k]? = some q := ⟨_, List.getElem?_eq_getElem (by rw [HLQ.out]; omega)⟩
                  obtain ⟨LK, IK, NK, hqq⟩ : ∃ (a b : Nat) (v : Int), q = ((a, b), v) := ⟨_, _, _, rfl⟩
                  subst hqq
                  have HQ2 := Lib.hid hq2
                  obtain ⟨ak, gk, ok, ee, hadk, cc⟩ := (strI HVt.out.i1).at hq2 rfl
                  subst ee
                  have r0 := cc 0 _ rfl
                  have r1 := cc 1 _ rfl
                  rw [Nat.add_zero] at r0
                  simp only at r0 r1
                  clear cc hq2
                  by_cases h1 : LK = LV ∧ IK = IX
                  · obtain ⟨rfl, rfl⟩ := h1
                    go_upto_region 26 with fail
                    go_quiet (fail)
                    all_goals go_wp2
                    all_goals go_roundw
                    all_goals first
                      | exact ⟨k + 1, true, by omega, rfl, by go_num, fun _ => rfl, HVt.out.up (by repeat' (first | (with_reducible exact Below.refl _ _) | (with_reducible assumption) | (with_reducible refine below_over ?_ _ _) | (with_reducible refine Lw.below_alloc ?_ _) | (with_reducible refine Below.drew ?_) | (with_reducible refine below_drewN ?_ _) | (with_reducible refine Below.setCell ?_ ?_ _) | go_size))⟩
                      | (simp [intOf]; omega)
                  · have HF : Hid ((LS ≤ HK ∧ KP < k + 1) → false = true) := Lib.hid (fun h => by
                      exfalso
                      have e : ¬ KP < k := fun e => by have := HBK.out ⟨h.1, e⟩; cases this
                      have e2 : KP = k := by have := h.2; omega
                      obtain ⟨-, v, hv⟩ := HKP.out h.1
                      rw [e2, HQ2.out] at hv
                      injection hv with hv
                      exact h1 ⟨congrArg (fun x => x.1.1) hv, congrArg (fun x => x.1.2) hv⟩)
                    by_cases e : LK = LV
                    · subst e
                      have e2 : IK ≠ IX := fun h => h1 ⟨rfl, h⟩
                      have s1 : ((IK : Int) == (IX : Int)) = false := beq_eq_false_iff_ne.2 (by omega)
                      have s2 : (IK == IX) = false := beq_eq_false_iff_ne.2 e2
                      have s3 : ¬ (IK : Int) = (IX : Int) := by omega
                      clear h1
                      go_upto_region 26 with fail
                      go_quiet (fail)
                      all_goals go_wp2
                      all_goals go_roundw
                      all_goals first
                        | exact ⟨k + 1, false, by omega, rfl, by go_num, HF.out, HVt.out.up (by repeat' (first | (with_reducible exact Below.refl _ _) | (with_reducible assumption) | (with_reducible refine below_over ?_ _ _) | (with_reducible refine Lw.below_alloc ?_ _) | (with_reducible refine Below.drew ?_) | (with_reducible refine below_drewN ?_ _) | (with_reducible refine Below.setCell ?_ ?_ _) | go_size))⟩
                        | (simp [intOf]; omega)
                    · have s1 : ((LK : Int) == (LV : Int)) = false := beq_eq_false_iff_ne.2 (by omega)
                      have s2 : (LK == LV) = false := beq_eq_false_iff_ne.2 e
                      have s3 : ¬ (LK : Int) = (LV : Int) := by omega
                      clear h1
                      go_upto_region 26 with fail
                      go_quiet (fail)
                      all_goals go_wp2
                      all_goals go_roundw
                      all_goals first
                        | exact ⟨k + 1, false, by omega, rfl, by go_num, HF.out, HVt.out.up (by repeat' (first | (with_reducible exact Below.refl _ _) | (with_reducible assumption) | (with_reducible refine below_over ?_ _ _) | (with_reducible refine Lw.below_alloc ?_ _) | (with_reducible refine Below.drew ?_) | (with_reducible refine below_drewN ?_ _) | (with_reducible refine Below.setCell ?_ ?_ _) | go_size))⟩
                        | (simp [intOf]; omega)
              · obtain rfl : k = LN := by omega
                obtain ⟨c0, c1, c2, c3, c4⟩ := box5 HVt.out.i2
                obtain ⟨x0, x1, x2, x3, x4, x5⟩ := box6 HVt.out.i4
                by_cases hLS : LS ≤ HK
                · have hbt := HBK.out ⟨hLS, (HKP.out hLS).1⟩
                  subst hbt
                  have hl1 : ¬ HK < LS := by omega
                  go_wp2_with (go_at_call 27; (with_reducible refine (CHK.out _ (HQ.out.up HVt.out.below)).mono ?_); rintro e w9 ⟨rfl, hb⟩; have HV9 := Lib.hid (HVt.out.up hb); clear hb)
                  go_roundw
                  case rel => exact ⟨LV + 1, by omega, by go_num, (HV9.out.drop_0).up (by repeat' (first | (with_reducible exact Below.refl _ _) | (with_reducible assumption) | (with_reducible refine below_over ?_ _ _) | (with_reducible refine Lw.below_alloc ?_ _) | (with_reducible refine Below.drew ?_) | (with_reducible refine below_drewN ?_ _) | (with_reducible refine Below.setCell ?_ ?_ _) | go_size))⟩
                  case measure => simp [intOf]; omega
                · have hl2 : HK < LS := by omega
                  go_wp2_with (go_at_call 27; (with_reducible refine (CHK.out _ (HQ.out.up HVt.out.below)).mono ?_); rintro e w9 ⟨rfl, hb⟩; have HV9 := Lib.hid (HVt.out.up hb); clear hb)
                  go_roundw
                  case rel => exact ⟨LV + 1, by omega, by go_num, (HV9.out.drop_0).up (by repeat' (first | (with_reducible exact Below.refl _ _) | (with_reducible assumption) | (with_reducible refine below_over ?_ _ _) | (with_reducible refine Lw.below_alloc ?_ _) | (with_reducible refine Below.drew ?_) | (with_reducible refine below_drewN ?_ _) | (with_reducible refine Below.setCell ?_ ?_ _) | go_size))⟩
                  case measure => simp [intOf]; omega
        · obtain rfl : LV = BB + 1 := by omega
          have lgt : ¬ ((BB : Int) + 1) ≤ c.bt := by rw [HBB.out]; omega
          have lgt2 : c.bt < (BB : Int) + 1 := by rw [HBB.out]; omega
          go_wp2
          go_roundw
          case rel => exact ⟨j + 1, by omega, by omega, by go_num, HVs.out.up (by repeat' (first | (with_reducible exact Below.refl _ _) | (with_reducible assumption) | (with_reducible refine below_over ?_ _ _) | (with_reducible refine Lw.below_alloc ?_ _) | (with_reducible refine Below.drew ?_) | (with_reducible refine below_drewN ?_ _) | (with_reducible refine Below.setCell ?_ ?_ _) | go_size))⟩
          case measure => simp [intOf]; omega
    · have hcases : ((j : Int) < n0 ∧ ¬ (j : Int) < 60) ∨ ¬ (j : Int) < n0 := by omega
      clear hlt
      rcases hcases with ⟨hc1, hc2⟩ | hc1
      all_goals go_wp2
      all_goals go_ret
      all_goals exact ⟨ret_bs (by first | rfl | (simp [*]; done)), HVr.out.below⟩
theorem all_law (x : Cfg) (A : Option Addr) (n0 k0 : Nat) (qs : Ups) (a b : Int) (w : World) (hx : x.Ok) (hq : UpdV w A n0 k0 qs) :
    Calls Tryz.prog 5 #[.agg #[.int .i64 x.bt, .int .i64 x.rw, .int .i64 x.wd, .int .i64 x.md, .int .u64 x.sd, .slice A n0 k0], .int .i64 a, .int .i64 b] w fun e w' => e = .returned (.bool true) ∧ Below w.heap.size w w' := by
  obtain ⟨V, LS, a1, a2, a3, g1, g2⟩ := least_cut a
  obtain ⟨V1, A1, d1, d2, d3, d4, g3, g4⟩ := bud_cut b 301 (by omega) (by omega)
  cases hB1 : (bits .and .i64 x.md 1 == 1) with
  | true =>
    by_cases h1 : ((countQ (fun L i => spV { anyC x 10 9 with md := 2 } (stsOf { anyC x 10 9 with md := 2 } (upsR { anyC x 10 9 with md := 2 } 0 qs 0 60)) (L : Int) i) LS { anyC x 10 9 with md := 2 }.bt.toNat ({ anyC x 10 9 with md := 2 }.bt.toNat + 1) : Nat) : Int) ≤ A1
    · cases hp : plainB (upsR { anyC x 10 9 with md := 2 } 0 qs 0 60) with
      | true => exact all_2y x A n0 k0 qs a b w hx hq _ rfl hB1 V LS V1 A1 _ a1 a2 a3 g1 g2 d1 d2 d3 d4 g3 g4 rfl h1 hp
      | false => exact all_2n x A n0 k0 qs a b w hx hq _ rfl hB1 V LS V1 A1 _ a1 a2 a3 g1 g2 d1 d2 d3 d4 g3 g4 rfl h1 hp
    · exact all_2o x A n0 k0 qs a b w hx hq _ rfl hB1 V LS V1 A1 _ a1 a2 a3 g1 g2 d1 d2 d3 d4 g3 g4 rfl (by omega)
  | false =>
    by_cases h1 : ((countQ (fun L i => spV { anyC x 10 9 with md := 1 } (stsOf { anyC x 10 9 with md := 1 } (upsR { anyC x 10 9 with md := 1 } 0 qs 0 60)) (L : Int) i) LS { anyC x 10 9 with md := 1 }.bt.toNat ({ anyC x 10 9 with md := 1 }.bt.toNat + 1) : Nat) : Int) ≤ A1
    · cases hp : plainB (upsR { anyC x 10 9 with md := 1 } 0 qs 0 60) with
      | true => exact all_1y x A n0 k0 qs a b w hx hq _ rfl hB1 V LS V1 A1 _ a1 a2 a3 g1 g2 d1 d2 d3 d4 g3 g4 rfl h1 hp
      | false => exact all_1n x A n0 k0 qs a b w hx hq _ rfl hB1 V LS V1 A1 _ a1 a2 a3 g1 g2 d1 d2 d3 d4 g3 g4 rfl h1 hp
    · exact all_1o x A n0 k0 qs a b w hx hq _ rfl hB1 V LS V1 A1 _ a1 a2 a3 g1 g2 d1 d2 d3 d4 g3 g4 rfl (by omega)
namespace heavyAll
open Go.ChangeShapes Go.WideShapes Go.ChangeAt Go.Joins
set_option maxRecDepth 100000 in
theorem lifted (os : Os) (started : os.Started) (H : Type) (enc : TypeId × Value → H) :
    ReturnsInHanded {} Tryz.checked os 5 .any (Rows.heavyAllSpec.pre6 enc Tryz.prog Tryz.f5 Rows.heavyAllRow.domain false) (Rows.heavyAllSpec.post enc Tryz.prog Tryz.f5 false true false false) := by
  refine Lw.lifted (C := Tryz.checked) (B := 4) (by kernel_rfl) os started (by kernel_rfl) Tryz.func5
    (ChangeSpec.witness6 (enc := enc) (C := Tryz.checked) false ⟨#[], #[.agg #[.int .i64 0, .int .i64 0, .int .i64 0, .int .i64 0, .int .u64 0, .slice none 0 0], .int .i64 0, .int .i64 0], []⟩ 8 (by kernel_rfl) (by kernel_rfl) (by kernel_rfl) (by kernel_rfl)) rfl Tryz.underlying4 (by kernel_rfl) (by kernel_rfl) (by kernel_rfl) ?_ ?_
  · intro ds h
    rw [Tryz.params5] at h
    match ds, h with
    | [_, _, _], _ => rfl
  · intro W base args ds p hval hA
    rw [Tryz.params5] at hA hval
    obtain ⟨v0, vs0, d0, ds0, p0, q0, hargs, rfl, rfl, h0, r0⟩ := trodAll_cons hA
    obtain ⟨v1, vs1, d1, ds1, p1, q1, rfl, rfl, rfl, h1, r1⟩ := trodAll_cons r0
    obtain ⟨v2, vs2, d2, ds2, p2, q2, rfl, rfl, rfl, h2, r2⟩ := trodAll_cons r1
    obtain ⟨rfl, rfl, rfl⟩ := trodAll_nil r2
    obtain rfl : args = #[v0, v1, v2] := by cases args; simp_all
    obtain ⟨x0, A0, n0, k0, qs0, rfl, hx0, hq0⟩ := open_playX (hval 0 27 v0 rfl rfl) h0
    obtain ⟨a1, rfl, rfl, rfl, w1⟩ := open_int Tryz.underlying2 (hval 1 2 v1 rfl rfl) h1
    have b1 := Lw.wf_i64 w1
    obtain ⟨a2, rfl, rfl, rfl, w2⟩ := open_int Tryz.underlying3 (hval 2 3 v2 rfl rfl) h2
    have b2 := Lw.wf_i64 w2
    exact all_law x0 A0 n0 k0 qs0 a1 a2 W hx0 hq0
theorem over : Rows.heavyAllRow.holds Tryz.pinned (OpenSpec.ofChange Rows.heavyAllSpec) :=
  OpenClaim.holds_of_wide 5 Tryz.f5 rfl rfl rfl rfl rfl rfl rfl ⟨rfl, rfl, rfl, rfl, rfl⟩ rfl rfl rfl rfl rfl (by kernel_rfl) Tryz.func5 (by kernel_rfl)
    (of_decide_eq_true (by kernel_rfl)) (by unfold Func.isWrapper; first | (rw [if_pos (by decide +kernel)]; kernel_rfl) | (rw [if_neg (by decide +kernel)]; exact ⟨rfl, rfl⟩))
    (fun os started H enc _ => lifted os started H enc)
theorem proved : Rows.HeavyAllSaid :=
  over
#print axioms proved
end heavyAll
end Go.Proofs.YtmdkdjgamhaeoaaGreat.Hvy
