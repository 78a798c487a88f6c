/- The statement SummaryEach of layer 19 holds. Printed by wip/gen/smr7.py. -/
import Derived.Test.YtkflggojiiebeaaGreatVba
namespace Go.Proofs.YtkflggojiiebeaaGreat.Smr
open Go Go.RowKit Lw Grd Lin Con Shp Sk Exa Lev Stk Pcs Spn Qnt Hvy
set_option linter.unusedVariables false
set_option linter.unusedSimpArgs false
theorem own_rd1 {k : IntKind} {w : World} {base : Nat} {e : TypeId} {A : Option Addr} {n cap : Nat} {zs : List Int} (h : w.ownsRow base e 1 (.slice A n cap) n (zs.map (Value.int k))) : Rd k w A zs := by
  obtain ⟨A2, cap2, e2, hr, -⟩ := own_rd h
  injection e2 with e2a e2b e2c
  subst e2a
  exact hr
theorem own_rdz {k : IntKind} {w : World} {base : Nat} {e : TypeId} {A : Option Addr} {n cap : Nat} {zs : List Int} (h : w.ownsRow base e 1 (.slice A n cap) n (zs.map (Value.int k))) : Rd k w A zs ∧ (A = none → n = 0 ∧ cap = 0) := by
  obtain ⟨A2, cap2, e2, hr, -, -, hn⟩ := own_rd h
  injection e2 with e2a e2b e2c
  subst e2a e2c
  exact ⟨hr, hn⟩
theorem keys_10 {c : Cfg} (hr : IsRight c) (hb : c.bt ≤ 10) : keys c 0 ≤ 1024 := by
  rw [keys_yes hr (by omega) (by have := hr.1; omega)]
  have h1 : 2 ^ (c.bt - 0).toNat ≤ 2 ^ 10 := Nat.pow_le_pow_right (by omega) (by omega)
  have e : ((2 ^ (c.bt - 0).toNat : Nat) : Int) = 2 ^ (c.bt - 0).toNat := by simp
  have e2 : (2 : Nat) ^ 10 = 1024 := rfl
  omega
set_option maxRecDepth 100000 in
set_option maxHeartbeats 40000000 in
theorem each_n (x : Cfg) (A : Option Addr) (n0 k0 : Nat) (qs : Ups) (B : Option Addr) (nl cb : Nat) (zs : List Int) (w : World) (hx : x.Ok) (hq : UpdV w A n0 k0 qs) (hB : B = none → nl = 0 ∧ cb = 0) (hbn : nl ≤ cb) (hcap : cb ≤ maxLen) (hrB : Rd .u64 w B zs) (hlB : zs.length = nl) (hzB : ∀ v ∈ zs, 0 ≤ v ∧ v ≤ 18446744073709551615) (hT : ¬ 1 ≤ spV (anyC x 10 9) (stsOf (anyC x 10 9) (upsR (anyC x 10 9) 0 qs 0 60)) (anyC x 10 9).bt 0) :
    Calls Tryz.prog 8 #[.agg #[.int .i64 x.bt, .int .i64 x.rw, .int .i64 x.wd, .int .i64 x.md, .int .u64 x.sd, .slice A n0 k0], .slice B nl cb] w fun e w' => e = .returned (.bool true) ∧ Below w.heap.size w w' := by
  obtain ⟨c, hC⟩ : ∃ c, anyC x 10 9 = c := ⟨_, rfl⟩
  have hr := any_right x 10 9 (by omega) (by omega) (by omega) (by omega)
  have hco := any_ok x hx 10 9 (by omega) (by omega) (by omega) (by omega)
  have FD := Lib.hid (fun w hq => fed_z x A n0 k0 qs c w hx hq hC)
  rw [hC] at hr hco
  have hbt := hr.1
  have hbt2 := hr.2.1
  have hkeys : 1 ≤ keys c 0 := keys_pos.2 ⟨hr, by omega, by omega⟩
  have hul := upsR_len c 0 qs 0 60
  have hui := upsR_in hkeys qs 0 60
  obtain ⟨us, hus⟩ : ∃ us, upsR c 0 qs 0 60 = us := ⟨_, rfl⟩
  rw [hus] at FD hul hui
  have hb10 : c.bt ≤ 10 := by rw [← hC]; exact any_bt x 10 9 (by omega)
  rw [hC, hus] at hT
  have etop := has_all hr us
  have htb := ptU_bd hr hui hul (L := c.bt.toNat) (i := 0) (Nat.le_refl _) (by rw [Nat.sub_self]; decide)
  have CT0 := Lib.hid (fun p F w hs => cs_total p F c (stsOf c us) w hs)
  have htb1 : -65970697666560 ≤ ptU c us c.bt.toNat 0 := htb.1
  have htb2 : ptU c us c.bt.toNat 0 ≤ 65970697666560 := htb.2
  obtain ⟨TV, hTV⟩ : ∃ v, ptU c us c.bt.toNat 0 = v := ⟨_, rfl⟩
  rw [etop, hTV] at CT0
  rw [hTV] at htb1 htb2
  rw [etop, hTV] at hT
  have hk10 := keys_10 hr hb10
  have CK := Lib.hid (fun w => rkeys_any c 0 w hco (by omega) (by omega))
  have HQN : Hid (∀ k : Int, 1 ≤ k → k ≤ TV → qnC c (fun L i => spV c (stsOf c us) (L : Int) i) k = 0) := Lib.hid (fun k h1 h2 => by
    obtain ⟨l, w1, -, -⟩ := way_fed hr hui hul (k := k) h1 (by rw [hTV]; exact h2)
    exact (qn_yes (c := c) (pt := (fun L i => spV c (stsOf c us) (L : Int) i)) (k := k) h1 (by show k ≤ ptU c us c.bt.toNat 0; omega) w1).1)
  have HQS : Hid (∀ KS : List Int, (∀ k ∈ KS, 1 ≤ k ∧ k ≤ TV) → manyC (qnF c (fun L i => spV c (stsOf c us) (L : Int) i)) KS = 0 ∧ manyL (qnF c (fun L i => spV c (stsOf c us) (L : Int) i)) KS = KS.map (fun k => qnV c (fun L i => spV c (stsOf c us) (L : Int) i) k)) := Lib.hid (fun KS h => many_ok (fun q hq => HQN.out q (h q hq).1 (h q hq).2))
  have HSP : Hid (∀ (LT : Int) (CS : List Int), Cuts (keys c 0) LT CS → hgC c (fun L i => spV c (stsOf c us) (L : Int) i) CS = 0 ∧ hgL c (fun L i => spV c (stsOf c us) (L : Int) i) CS = (spansQ (keys c 0) CS).map (fun s => rgV c (fun L i => spV c (stsOf c us) (L : Int) i) s.1 s.2)) := Lib.hid (fun LT CS h => spans_ok hr hui hul hkeys h)
  have HRG : Hid (∀ lo hi : Int, 0 ≤ lo → lo ≤ hi → hi < keys c 0 → rgC c (fun L i => spV c (stsOf c us) (L : Int) i) lo hi = 0) := Lib.hid (fun lo hi h0 h1 h2 => rg_ok hr hui hul h0 h1 h2)
  obtain ⟨K, hK⟩ : ∃ v, keys c 0 = v := ⟨_, rfl⟩
  rw [hK] at CK HSP HRG hk10 hkeys
  have HKB : Hid (1 ≤ K ∧ K ≤ 100000) := Lib.hid (by omega)
  have HTB : Hid (TV ≤ 65970697666560) := Lib.hid htb2
  obtain ⟨Z, hZ⟩ : ∃ Z, stsOf c us = Z := ⟨_, rfl⟩
  rw [hZ] at FD CT0 HQN HQS HSP HRG
  have HQ := Lib.hid hq
  have HRB := Lib.hid hrB
  have HLZ := Lib.hid hlB
  have HZ := Lib.hid hzB
  have hnl : (nl : Int) ≤ 9223372036854775807 := by unfold maxLen at hcap; omega
  obtain ⟨i0, i_, iz0, iz1, iz2⟩ := info_parts i64_info
  obtain ⟨j0, j_, jz0, jz1, jz2⟩ := info_parts u64_info
  have HBX : Hid (Have w (w.alloc (.cells #[.int .i64 x.bt, .int .i64 x.rw, .int .i64 x.wd, .int .i64 x.md, .int .u64 x.sd, .slice A n0 k0] 63)) [boxT w.heap.size 63 #[.int .i64 x.bt, .int .i64 x.rw, .int .i64 x.wd, .int .i64 x.md, .int .u64 x.sd, .slice A n0 k0]]) := Lib.hid (box_new w _ _)
  clear hr hco hC hbt hbt2 hul hui hus etop htb htb1 hTV hZ hq hx hk10 hkeys hK hb10 hB hbn hcap hrB hlB hzB
  go_enter Tryz.func8, Tryz.ntmps8
  go_wp2_with (first
    | (go_at_call 38; (with_reducible refine (CT0.out p F _ (stI HV4.out.i1)).mono ?_); rintro e w4 ⟨rfl, hb⟩; have HV5 := Lib.hid (HV4.out.up hb); clear hb)
    | (go_at_call 37; (with_reducible refine (CK.out _).mono ?_); rintro e w3 ⟨rfl, hb⟩; have HV4 := Lib.hid (HV3.out.up hb); clear hb c0 c1 c2 c3 c4)
    | (go_at_call 36; (with_reducible refine (FD.out _ (HQ.out.up HV1.out.below)).mono ?_); rintro e w2 ⟨p, F, rfl, hv⟩; have HV2 := Lib.hid (HV1.out.join hv); simp only [List.cons_append, List.nil_append] at HV2; clear hv; have HV3 := Lib.hid (HV2.out.push (boxT w2.heap.size 24 #[.int .i64 c.bt, .int .i64 c.rw, .int .i64 c.wd, .int .i64 c.md, .int .u64 c.sd]) (Lw.below_alloc (Below.refl _ _) _) (heap_alloc_new w2 _) (fun k hk => Nat.le_of_eq hk.symm)); clear x0 x1 x2 x3 x4 x5; obtain ⟨c0, c1, c2, c3, c4⟩ := box5 HV3.out.i0)
    | (go_at_call 26; (with_reducible refine (shown_any _).mono ?_); rintro e w1 ⟨rfl, hb⟩; have HV1 := Lib.hid (HBX.out.up hb); clear hb; obtain ⟨x0, x1, x2, x3, x4, x5⟩ := box6 HV1.out.i0))
  obtain ⟨gc, hgc⟩ : ∃ g, w2.heap.size = g := ⟨_, rfl⟩
  rw [hgc] at HV5 ⊢
  have HV6 : Hid (Have w w4 [ownK w.heap.size 2 1 (.slice none 0 0) ([] : List Int).length (([] : List Int).map (Value.int .i64)), ownK w.heap.size 22 1 (.slice none 0 0) ([] : List Int).length (([] : List Int).map (Value.int .u64)), boxT gc 24 #[.int .i64 c.bt, .int .i64 c.rw, .int .i64 c.wd, .int .i64 c.md, .int .u64 c.sd], stT p F c Z, boxT w.heap.size 63 #[.int .i64 x.bt, .int .i64 x.rw, .int .i64 x.wd, .int .i64 x.md, .int .u64 x.sd, .slice A n0 k0]]) := Lib.hid ((HV5.out.push (ownK w.heap.size 22 1 (.slice none 0 0) 0 []) (Below.refl _ _) (World.ownsRow_nil w4 _ _ _) (fun k hk => by cases hk)).push (ownK w.heap.size 2 1 (.slice none 0 0) 0 []) (Below.refl _ _) (World.ownsRow_nil w4 _ _ _) (fun k hk => by cases hk))
  clear hgc HV1 HV2 HV3 HV4 HV5 FD CT0 CK HBX
  go_loopw [10, 11, 12, 13] (fun kv cv lv iv wr => ∃ (t : Nat) (KS CS : List Int) (LT : Int), t ≤ 12 ∧ (t ≤ nl ∨ t = 0) ∧ iv = .int .i64 (t : Int) ∧ lv = .int .u64 LT ∧ 0 ≤ LT ∧ LT ≤ (t : Int) * 200000 ∧ KS.length ≤ t ∧ CS.length ≤ t ∧ (∀ k ∈ KS, 1 ≤ k ∧ k ≤ TV) ∧ Cuts K LT CS ∧ Have w wr [ownK w.heap.size 2 1 kv KS.length (KS.map (Value.int .i64)), ownK w.heap.size 22 1 cv CS.length (CS.map (Value.int .u64)), boxT gc 24 #[.int .i64 c.bt, .int .i64 c.rw, .int .i64 c.wd, .int .i64 c.md, .int .u64 c.sd], stT p F c Z, boxT w.heap.size 63 #[.int .i64 x.bt, .int .i64 x.rw, .int .i64 x.wd, .int .i64 x.md, .int .u64 x.sd, .slice A n0 k0]]) (fun _ _ _ iv _ => 20 - (intOf iv).toNat)
  case atStart => exact ⟨0, [], [], 0, Nat.zero_le _, .inr rfl, rfl, rfl, Int.le_refl _, by omega, Nat.le_refl _, Nat.le_refl _, (fun k hk => by cases hk), Cuts.nil K, HV6.out⟩
  case round =>
    obtain ⟨t, KS, CS, LT, hk1, hk2, rfl, rfl, hl0, hlb, hkl, hcl, hks, hcs, hv⟩ := hrel
    have HVr := Lib.hid hv
    clear hv
    obtain ⟨-, Aq, capq, rfl⟩ := own_formK (okI HVr.out.i0)
    obtain ⟨-, Ac, capc, rfl⟩ := own_formK (okI HVr.out.i1)
    by_cases hlt : t < nl ∧ t < 12
    · have hlt9 := hlt
      obtain ⟨hj1, hj2⟩ := hlt
      have lt0 : (0 : Int) ≤ (t : Int) := by omega
      have lt1 : (t : Int) < (nl : Int) := by omega
      have lt2 : (t : Int) < 12 := by omega
      obtain ⟨v, hv⟩ : ∃ v, zs[t]? = some v := ⟨_, List.getElem?_eq_getElem (by rw [HLZ.out]; exact hj1)⟩
      have hvb := HZ.out v (List.mem_of_getElem? hv)
      obtain ⟨ad, rfl, hcv⟩ := HRB.out _ _ hv
      have d1 := cell_up hcv HVr.out.below
      have HZV := Lib.hid hv
      obtain ⟨Q, Q1, R2, L1, L2, ⟨n1, n2, n3, n4, n5⟩, ⟨m1, m2, m3⟩, ⟨o1, o2⟩, hlt2, hL1, hL2⟩ := cut_nums (K := K) (LT := LT) (v := v) HKB.out.1 HKB.out.2 hl0 (by omega) hvb.1
      have HL2 := Lib.hid (And.intro hlt2 (And.intro hL1 hL2))
      have HBND := Lib.hid (And.intro hl0 hlb)
      have HT2 : Hid (t + 1 ≤ 12 ∧ t + 1 ≤ nl) := Lib.hid (by omega)
      have HK := Lib.hid hks
      have HC := Lib.hid hcs
      have hk12 : KS.length ≤ 12 := by omega
      have hc12 : CS.length ≤ 12 := by omega
      have HLEN : Hid (KS.length ≤ t ∧ CS.length ≤ t) := Lib.hid ⟨hkl, hcl⟩
      have q0 : decide (0 < TV) = false := decide_eq_false (by omega)
      have q1 : ¬ 0 < TV := by omega
      clear hv hcv hvb hlt2 hL1 hL2 hl0 hlb hks hcs hkl hcl hk1 hk2
      obtain ⟨KS2, hKS2⟩ : ∃ l, KS = l := ⟨_, rfl⟩
      have HKS := HK
      have HKT : Hid (KS2.length ≤ t + 1) := Lib.hid (by rw [← hKS2]; have := HLEN.out; omega)
      rw [hKS2] at HKS
      obtain ⟨w7, hw7⟩ : ∃ w7, w7 = wr := ⟨_, rfl⟩
      have HVB : Hid (Have w w7 [ownK w.heap.size 2 1 (.slice Aq KS2.length capq) KS2.length (KS2.map (Value.int .i64)), ownK w.heap.size 22 1 (.slice Ac CS.length capc) CS.length (CS.map (Value.int .u64)), boxT gc 24 #[.int .i64 c.bt, .int .i64 c.rw, .int .i64 c.wd, .int .i64 c.md, .int .u64 c.sd], stT p F c Z, boxT w.heap.size 63 #[.int .i64 x.bt, .int .i64 x.rw, .int .i64 x.wd, .int .i64 x.md, .int .u64 x.sd, .slice A n0 k0]]) := Lib.hid (by rw [hw7, ← hKS2]; exact HVr.out)
      rw [hKS2]
      rw [← hw7]
      have d1b := d1
      rw [← hw7] at d1b
      clear hKS2 hw7
      by_cases hlk : L2 < K
      · have e0 : decide (L2 < K) = true := decide_eq_true hlk
        have HLK := Lib.hid hlk
        go_wp2_with (at_builtin; go_must (refine wpList_append_lies _ rfl _ _ 66 rfl w.heap.size 22 j0 (.int .u64 0) 1 8 u64s_u j_ jz0 jz1 jz2 rfl (by decide) _ _ _ rfl ((okI HVB.out.i1).alloc _) ⟨_, 0, none⟩ 1 1 [.int .u64 L2] rfl rfl (World.news_of_block (heap_alloc_new w7 _)) (one_u64 _) (by decide) (by unfold maxLen; omega) (by omega) (by simp; have := HVB.out.below.size; omega) _ rfl ?_); intro g8 cap8 w8 hown8 hgrow8 hat8 hlt8)
        have HVa := Lib.hid (HVB.out.up (Lw.below_alloc (Below.refl _ w7) (.cells #[.int .u64 L2] 22)))
        have HV8 := Lib.hid (turn1K HVa.out hown8 hgrow8 hat8)
        have HCM : Hid ((CS ++ [L2]).map (Value.int .u64) = CS.map (Value.int .u64) ++ [.int .u64 L2]) := Lib.hid (by simp)
        have HCL : Hid ((CS ++ [L2]).length = CS.length + 1) := Lib.hid (by simp)
        go_roundw
        case rel => exact ⟨t + 1, KS2, CS ++ [L2], L2, HT2.out.1, .inl HT2.out.2, by go_num, rfl, by have := HL2.out; omega, by have h5 := HL2.out.2.2; have h6 := HBND.out.2; omega, HKT.out, by rw [HCL.out]; have := HLEN.out; omega, HKS.out, HC.out.snoc HL2.out.1 HL2.out.2.1 HLK.out, by rw [HCM.out, HCL.out]; exact HV8.out.up (by repeat' (first | (with_reducible first | exact Below.refl _ _ | assumption | refine below_over ?_ _ _ | refine Lw.below_alloc ?_ _ | refine Below.drew ?_ | refine below_drewN ?_ _ | refine Below.setCell ?_ ?_ _) | go_size))⟩
        case measure => simp [intOf]; omega
      · have e0 : decide (L2 < K) = false := decide_eq_false hlk
        go_wp2
        go_roundw
        case rel => exact ⟨t + 1, KS2, CS, L2, HT2.out.1, .inl HT2.out.2, by go_num, rfl, by have := HL2.out; omega, by have h5 := HL2.out.2.2; have h6 := HBND.out.2; omega, HKT.out, by have := HLEN.out; omega, HKS.out, HC.out.more (by have := HL2.out.1; omega), HVB.out.up (by repeat' (first | (with_reducible first | exact Below.refl _ _ | assumption | refine below_over ?_ _ _ | refine Lw.below_alloc ?_ _ | refine Below.drew ?_ | refine below_drewN ?_ _ | refine Below.setCell ?_ ?_ _) | go_size))⟩
        case measure => simp [intOf]; omega
    · have hcases : ((t : Int) < (nl : Int) ∧ ¬ (t : Int) < 12) ∨ ¬ (t : Int) < (nl : Int) := by omega
      have HKX := Lib.hid hks
      have HCX := Lib.hid hcs
      have hkn : KS.length ≤ 12 := by omega
      have hcn : CS.length ≤ 12 := by omega
      obtain ⟨hrdq, hnq⟩ := own_rdz (okI HVr.out.i0)
      obtain ⟨hrdc, hnc⟩ := own_rdz (okI HVr.out.i1)
      have hqs := HQS.out KS HKX.out
      have hhs := HSP.out LT CS HCX.out
      have CQ0 := Lib.hid (fun w9 hs hr9 => sm_quants p F c Z Aq KS.length capq KS w9 hs hnq hr9 rfl (fun v hv => by have := HKX.out v hv; have := HTB.out; omega) (by omega))
      have CH0 := Lib.hid (fun w9 hs hr9 => sm_histo p F c Z Ac CS.length capc CS w9 hs hnc hr9 rfl (fun v hv => by have := (of_decide_eq_true HCX.out.2.1) v hv; have := HKB.out; omega) (by omega) hs.2.1)
      rw [hqs.1, hqs.2] at CQ0
      rw [hhs.1, hhs.2] at CH0
      have HRQ := Lib.hid hrdq
      have HRC := Lib.hid hrdc
      obtain ⟨QL, hQL⟩ : ∃ l, KS.map (fun k => qnV c (fun L i => spV c Z (L : Int) i) k) = l := ⟨_, rfl⟩
      obtain ⟨HL, hHL⟩ : ∃ l, (spansQ K CS).map (fun s => rgV c (fun L i => spV c Z (L : Int) i) s.1 s.2) = l := ⟨_, rfl⟩
      rw [hQL] at CQ0
      rw [hHL] at CH0
      have HQL := Lib.hid hQL
      have HHL := Lib.hid hHL
      have HQN6 : Hid (QL.length = KS.length) := Lib.hid (by rw [← hQL, List.length_map])
      have HHN7 : Hid (HL.length = CS.length + 1) := Lib.hid (by rw [← hHL, List.length_map, spansQ_len])
      obtain ⟨wq, hwq⟩ : ∃ wq, wq = wr := ⟨_, rfl⟩
      rw [← hwq] at HVr HRQ HRC ⊢
      clear hwq hqs hhs hrdq hrdc hnq hnc hQL hHL hks hcs hkl hcl hl0 hlb hk1 hk2 hlt
      have w9 : wrap64 ((CS.length : Int) + 1) = ((CS.length + 1 : Nat) : Int) := by rw [IntWalk.wrap64_in _ ⟨by omega, by omega⟩]; omega
      rcases hcases with ⟨hc1, hc2⟩ | hc1
      all_goals as_aux_lemma =>
        go_upto_region 20 with (first
          | (go_at_call 31; (with_reducible refine (CH0.out _ (stI HV6.out.i4) (own_rd1 (okI HV6.out.i2))).mono ?_); rintro e w7 ⟨A7, n7, cap7, rfl, ho7, hl7, hb⟩; obtain ⟨wh, hwh⟩ : ∃ wh, wh = w6 := ⟨_, rfl⟩; rw [← hwh] at ho7 hb HV6; obtain rfl : HL.length = n7 := hl7; have HV7 := Lib.hid (HV6.out.push (ownK wh.heap.size 2 1 (.slice A7 HL.length cap7) HL.length (HL.map (Value.int .i64))) hb ho7 (fun k hk => own_ge ho7 k hk)); clear ho7 hb)
          | (go_at_call 28; (with_reducible refine (CQ0.out _ (stI HVr.out.i3) (own_rd1 (okI HVr.out.i0))).mono ?_); rintro e w6 ⟨A6, n6, cap6, rfl, ho6, hl6, hb⟩; obtain rfl : QL.length = n6 := hl6; have HV6 := Lib.hid (HVr.out.push (ownK wq.heap.size 22 1 (.slice A6 QL.length cap6) QL.length (QL.map (Value.int .u64))) hb ho6 (fun k hk => own_ge ho6 k hk)); clear ho6 hb))
        have hq6 := HQN6.out
        have hh7 := HHN7.out
        obtain ⟨KN, hKN⟩ : ∃ n, KS.length = n := ⟨_, rfl⟩
        obtain ⟨CN, hCN⟩ : ∃ n, CS.length = n := ⟨_, rfl⟩
        rw [hq6, hh7, hKN, hCN] at HV7 ⊢
        rw [hKN] at hkn
        rw [hCN] at hcn w9
        have HKN := Lib.hid hKN
        have HCN := Lib.hid hCN
        clear hq6 hh7 hKN hCN
        go_wp2
        go_loopw [18] (fun iv wr => ∃ (t : Nat), t ≤ KN ∧ iv = .int .i64 (t : Int) ∧ Have w wr [ownK wh.heap.size 2 1 (.slice A7 (CN + 1) cap7) (CN + 1) (HL.map (Value.int .i64)), ownK wq.heap.size 22 1 (.slice A6 KN cap6) KN (QL.map (Value.int .u64)), ownK w.heap.size 2 1 (.slice Aq KN capq) KN (KS.map (Value.int .i64)), ownK w.heap.size 22 1 (.slice Ac CN capc) CN (CS.map (Value.int .u64)), boxT gc 24 #[.int .i64 c.bt, .int .i64 c.rw, .int .i64 c.wd, .int .i64 c.md, .int .u64 c.sd], stT p F c Z, boxT w.heap.size 63 #[.int .i64 x.bt, .int .i64 x.rw, .int .i64 x.wd, .int .i64 x.md, .int .u64 x.sd, .slice A n0 k0]]) (fun iv _ => KN - (intOf iv).toNat)
        case atStart => exact ⟨0, Nat.zero_le _, rfl, HV7.out⟩
        case round =>
          obtain ⟨t, ht, rfl, hv⟩ := hrel
          have HVs := Lib.hid hv
          clear hv
          by_cases hlt : t < KN
          · have lt0 : (0 : Int) ≤ (t : Int) := by omega
            have lt1 : (t : Int) < (KN : Int) := by omega
            obtain ⟨k, hk⟩ : ∃ k, KS[t]? = some k := ⟨_, List.getElem?_eq_getElem (by rw [HKN.out]; exact hlt)⟩
            have hkb := HKX.out k (List.mem_of_getElem? hk)
            have hqk : QL[t]? = some (qnV c (fun L i => spV c Z (L : Int) i) k) := by rw [← HQL.out, List.getElem?_map, hk]; rfl
            obtain ⟨ad, rfl, d1⟩ := (own_rd1 (okI HVs.out.i2)) _ _ hk
            obtain ⟨ae, rfl, d2⟩ := (own_rd1 (okI HVs.out.i1)) _ _ hqk
            have CQK := Lib.hid (fun w hs => qn_quant p F c Z k w hs (by omega) (by have := HTB.out; omega))
            rw [HQN.out k hkb.1 hkb.2] at CQK
            obtain ⟨QV, hQV⟩ : ∃ v, qnV c (fun L i => spV c Z (L : Int) i) k = v := ⟨_, rfl⟩
            rw [hQV] at d2 CQK
            have D2 := Lib.hid d2
            clear hk hkb hqk hQV d2
            go_wp2_with (go_at_call 39; (with_reducible refine (CQK.out _ (stI HVs.out.i5)).mono ?_); rintro e w8 ⟨rfl, hb⟩; have HV8 := Lib.hid (HVs.out.up hb); have d2 := cell_up D2.out hb; clear hb)
            go_roundw
            case rel => exact ⟨t + 1, by omega, by go_num, HV8.out⟩
            case measure => simp [intOf]; omega
          · obtain rfl : t = KN := by omega
            have lt1 : ¬ (t : Int) < (t : Int) := by omega
            clear ht hlt
            go_wp2
            clear lt1
            go_loopw [21, 22] (fun fv iv wr => ∃ (i : Nat) (FV : Int), i ≤ CN + 1 ∧ iv = .int .i64 (i : Int) ∧ fv = .int .u64 FV ∧ (i ≤ CN → FV = loQ CS i) ∧ Have w wr [ownK wh.heap.size 2 1 (.slice A7 (CN + 1) cap7) (CN + 1) (HL.map (Value.int .i64)), ownK wq.heap.size 22 1 (.slice A6 t cap6) t (QL.map (Value.int .u64)), ownK w.heap.size 2 1 (.slice Aq t capq) t (KS.map (Value.int .i64)), ownK w.heap.size 22 1 (.slice Ac CN capc) CN (CS.map (Value.int .u64)), boxT gc 24 #[.int .i64 c.bt, .int .i64 c.rw, .int .i64 c.wd, .int .i64 c.md, .int .u64 c.sd], stT p F c Z, boxT w.heap.size 63 #[.int .i64 x.bt, .int .i64 x.rw, .int .i64 x.wd, .int .i64 x.md, .int .u64 x.sd, .slice A n0 k0]]) (fun _ iv _ => CN + 1 - (intOf iv).toNat)
            case atStart => exact ⟨0, 0, Nat.zero_le _, rfl, rfl, fun _ => (loQ_zero CS).symm, HVs.out⟩
            case round =>
              obtain ⟨i, FV, hi, rfl, rfl, hfv, hv⟩ := hrel
              have HVu := Lib.hid hv
              clear hv
              by_cases hle : i ≤ CN
              · have le0 : (0 : Int) ≤ (i : Int) := by omega
                have le1 : (i : Int) < (CN : Int) + 1 := by omega
                have hfe := hfv hle
                have hsi := span_in (K := K) HKB.out.1 HCX.out.2.1 HCX.out.1 (i := i) (by rw [HCN.out]; exact hle)
                have hsq := spansQ_at (K := K) (l := CS) (i := i) (by rw [HCN.out]; exact hle)
                rw [← hfe] at hsi hsq
                have hhv : HL[i]? = some (rgV c (fun L i => spV c Z (L : Int) i) FV (hiQ K CS i)) := by rw [← HHL.out, List.getElem?_map, hsq]; rfl
                obtain ⟨ae, rfl, d2⟩ := (own_rd1 (okI HVu.out.i0)) _ _ hhv
                have CR := Lib.hid (fun w hs => sp_range p F c Z FV (hiQ K CS i) w hs (by omega) (by have := HKB.out; omega) (by omega) (by have := HKB.out; omega))
                rw [HRG.out FV (hiQ K CS i) hsi.1 hsi.2.1 hsi.2.2] at CR
                obtain ⟨HV_, hHV⟩ : ∃ v, rgV c (fun L i => spV c Z (L : Int) i) FV (hiQ K CS i) = v := ⟨_, rfl⟩
                rw [hHV] at d2 CR
                have D2 := Lib.hid d2
                have wK : IntKind.u64.wrap (K - 1) = K - 1 := by rw [IntKind.wrap_u64]; have := HKB.out; omega
                clear hfv hfe hsq hhv hHV d2 hle
                by_cases hlx : i < CN
                · obtain ⟨x, hx⟩ : ∃ x, CS[i]? = some x := ⟨_, List.getElem?_eq_getElem (by rw [HCN.out]; exact hlx)⟩
                  have hxb := HCX.out.at hx
                  obtain ⟨ad, rfl, d1⟩ := (own_rd1 (okI HVu.out.i3)) _ _ hx
                  have hhi := hiQ_at (K := K) hx
                  have HLO := Lib.hid (loQ_next hx)
                  rw [hhi] at CR
                  obtain ⟨XM, hXM⟩ : ∃ v, x - 1 = v := ⟨_, rfl⟩
                  have wx : IntKind.u64.wrap (x - 1) = XM := by rw [← hXM, IntKind.wrap_u64]; have := HKB.out; omega
                  have wx2 : IntKind.u64.wrap (XM + 1) = x := by rw [← hXM, IntKind.wrap_u64]; have := HKB.out; omega
                  rw [hXM] at CR
                  have lx : (i : Int) < (CN : Int) := by omega
                  clear hsi hhi hx hxb hXM
                  go_wp2_with (go_at_call 40; (with_reducible refine (CR.out _ (stI HVu.out.i5)).mono ?_); rintro e w8 ⟨rfl, hb⟩; have HV8 := Lib.hid (HVu.out.up hb); have d2 := cell_up D2.out hb; clear hb)
                  go_roundw
                  case rel => exact ⟨i + 1, x, by omega, by go_num, rfl, fun _ => HLO.out.symm, HV8.out⟩
                  case measure => simp [intOf]; omega
                · have hhi : hiQ K CS i = K - 1 := by have h9 := hiQ_last K CS; rw [HCN.out] at h9; rw [show i = CN by omega]; exact h9
                  rw [hhi] at CR
                  obtain ⟨XM, hXM⟩ : ∃ v, K - 1 = v := ⟨_, rfl⟩
                  have wx : IntKind.u64.wrap (K - 1) = XM := wK.trans hXM
                  obtain ⟨X2, hX2⟩ : ∃ v, IntKind.u64.wrap (XM + 1) = v := ⟨_, rfl⟩
                  rw [hXM] at CR
                  have lx : ¬ (i : Int) < (CN : Int) := by omega
                  clear hsi hhi hXM wK
                  go_wp2_with (go_at_call 40; (with_reducible refine (CR.out _ (stI HVu.out.i5)).mono ?_); rintro e w8 ⟨rfl, hb⟩; have HV8 := Lib.hid (HVu.out.up hb); have d2 := cell_up D2.out hb; clear hb)
                  go_roundw
                  case rel => exact ⟨i + 1, X2, by omega, by go_num, by first | rfl | (rw [← hX2]), fun h => by omega, HV8.out⟩
                  case measure => simp [intOf]; omega
              · have le1 : ¬ (i : Int) < (CN : Int) + 1 := by omega
                go_wp2
                go_ret
                exact ⟨ret_bs (by first | rfl | (simp [*]; done)), HVu.out.below⟩
set_option maxRecDepth 100000 in
set_option maxHeartbeats 40000000 in
theorem each_y (x : Cfg) (A : Option Addr) (n0 k0 : Nat) (qs : Ups) (B : Option Addr) (nl cb : Nat) (zs : List Int) (w : World) (hx : x.Ok) (hq : UpdV w A n0 k0 qs) (hB : B = none → nl = 0 ∧ cb = 0) (hbn : nl ≤ cb) (hcap : cb ≤ maxLen) (hrB : Rd .u64 w B zs) (hlB : zs.length = nl) (hzB : ∀ v ∈ zs, 0 ≤ v ∧ v ≤ 18446744073709551615) (hT : 1 ≤ spV (anyC x 10 9) (stsOf (anyC x 10 9) (upsR (anyC x 10 9) 0 qs 0 60)) (anyC x 10 9).bt 0) :
    Calls Tryz.prog 8 #[.agg #[.int .i64 x.bt, .int .i64 x.rw, .int .i64 x.wd, .int .i64 x.md, .int .u64 x.sd, .slice A n0 k0], .slice B nl cb] w fun e w' => e = .returned (.bool true) ∧ Below w.heap.size w w' := by
  obtain ⟨c, hC⟩ : ∃ c, anyC x 10 9 = c := ⟨_, rfl⟩
  have hr := any_right x 10 9 (by omega) (by omega) (by omega) (by omega)
  have hco := any_ok x hx 10 9 (by omega) (by omega) (by omega) (by omega)
  have FD := Lib.hid (fun w hq => fed_z x A n0 k0 qs c w hx hq hC)
  rw [hC] at hr hco
  have hbt := hr.1
  have hbt2 := hr.2.1
  have hkeys : 1 ≤ keys c 0 := keys_pos.2 ⟨hr, by omega, by omega⟩
  have hul := upsR_len c 0 qs 0 60
  have hui := upsR_in hkeys qs 0 60
  obtain ⟨us, hus⟩ : ∃ us, upsR c 0 qs 0 60 = us := ⟨_, rfl⟩
  rw [hus] at FD hul hui
  have hb10 : c.bt ≤ 10 := by rw [← hC]; exact any_bt x 10 9 (by omega)
  rw [hC, hus] at hT
  have etop := has_all hr us
  have htb := ptU_bd hr hui hul (L := c.bt.toNat) (i := 0) (Nat.le_refl _) (by rw [Nat.sub_self]; decide)
  have CT0 := Lib.hid (fun p F w hs => cs_total p F c (stsOf c us) w hs)
  have htb1 : -65970697666560 ≤ ptU c us c.bt.toNat 0 := htb.1
  have htb2 : ptU c us c.bt.toNat 0 ≤ 65970697666560 := htb.2
  obtain ⟨TV, hTV⟩ : ∃ v, ptU c us c.bt.toNat 0 = v := ⟨_, rfl⟩
  rw [etop, hTV] at CT0
  rw [hTV] at htb1 htb2
  rw [etop, hTV] at hT
  have hk10 := keys_10 hr hb10
  have CK := Lib.hid (fun w => rkeys_any c 0 w hco (by omega) (by omega))
  have HQN : Hid (∀ k : Int, 1 ≤ k → k ≤ TV → qnC c (fun L i => spV c (stsOf c us) (L : Int) i) k = 0) := Lib.hid (fun k h1 h2 => by
    obtain ⟨l, w1, -, -⟩ := way_fed hr hui hul (k := k) h1 (by rw [hTV]; exact h2)
    exact (qn_yes (c := c) (pt := (fun L i => spV c (stsOf c us) (L : Int) i)) (k := k) h1 (by show k ≤ ptU c us c.bt.toNat 0; omega) w1).1)
  have HQS : Hid (∀ KS : List Int, (∀ k ∈ KS, 1 ≤ k ∧ k ≤ TV) → manyC (qnF c (fun L i => spV c (stsOf c us) (L : Int) i)) KS = 0 ∧ manyL (qnF c (fun L i => spV c (stsOf c us) (L : Int) i)) KS = KS.map (fun k => qnV c (fun L i => spV c (stsOf c us) (L : Int) i) k)) := Lib.hid (fun KS h => many_ok (fun q hq => HQN.out q (h q hq).1 (h q hq).2))
  have HSP : Hid (∀ (LT : Int) (CS : List Int), Cuts (keys c 0) LT CS → hgC c (fun L i => spV c (stsOf c us) (L : Int) i) CS = 0 ∧ hgL c (fun L i => spV c (stsOf c us) (L : Int) i) CS = (spansQ (keys c 0) CS).map (fun s => rgV c (fun L i => spV c (stsOf c us) (L : Int) i) s.1 s.2)) := Lib.hid (fun LT CS h => spans_ok hr hui hul hkeys h)
  have HRG : Hid (∀ lo hi : Int, 0 ≤ lo → lo ≤ hi → hi < keys c 0 → rgC c (fun L i => spV c (stsOf c us) (L : Int) i) lo hi = 0) := Lib.hid (fun lo hi h0 h1 h2 => rg_ok hr hui hul h0 h1 h2)
  obtain ⟨K, hK⟩ : ∃ v, keys c 0 = v := ⟨_, rfl⟩
  rw [hK] at CK HSP HRG hk10 hkeys
  have HKB : Hid (1 ≤ K ∧ K ≤ 100000) := Lib.hid (by omega)
  have HTB : Hid (TV ≤ 65970697666560) := Lib.hid htb2
  obtain ⟨Z, hZ⟩ : ∃ Z, stsOf c us = Z := ⟨_, rfl⟩
  rw [hZ] at FD CT0 HQN HQS HSP HRG
  have HQ := Lib.hid hq
  have HRB := Lib.hid hrB
  have HLZ := Lib.hid hlB
  have HZ := Lib.hid hzB
  have hnl : (nl : Int) ≤ 9223372036854775807 := by unfold maxLen at hcap; omega
  obtain ⟨i0, i_, iz0, iz1, iz2⟩ := info_parts i64_info
  obtain ⟨j0, j_, jz0, jz1, jz2⟩ := info_parts u64_info
  have HBX : Hid (Have w (w.alloc (.cells #[.int .i64 x.bt, .int .i64 x.rw, .int .i64 x.wd, .int .i64 x.md, .int .u64 x.sd, .slice A n0 k0] 63)) [boxT w.heap.size 63 #[.int .i64 x.bt, .int .i64 x.rw, .int .i64 x.wd, .int .i64 x.md, .int .u64 x.sd, .slice A n0 k0]]) := Lib.hid (box_new w _ _)
  clear hr hco hC hbt hbt2 hul hui hus etop htb htb1 hTV hZ hq hx hk10 hkeys hK hb10 hB hbn hcap hrB hlB hzB
  go_enter Tryz.func8, Tryz.ntmps8
  go_wp2_with (first
    | (go_at_call 38; (with_reducible refine (CT0.out p F _ (stI HV4.out.i1)).mono ?_); rintro e w4 ⟨rfl, hb⟩; have HV5 := Lib.hid (HV4.out.up hb); clear hb)
    | (go_at_call 37; (with_reducible refine (CK.out _).mono ?_); rintro e w3 ⟨rfl, hb⟩; have HV4 := Lib.hid (HV3.out.up hb); clear hb c0 c1 c2 c3 c4)
    | (go_at_call 36; (with_reducible refine (FD.out _ (HQ.out.up HV1.out.below)).mono ?_); rintro e w2 ⟨p, F, rfl, hv⟩; have HV2 := Lib.hid (HV1.out.join hv); simp only [List.cons_append, List.nil_append] at HV2; clear hv; have HV3 := Lib.hid (HV2.out.push (boxT w2.heap.size 24 #[.int .i64 c.bt, .int .i64 c.rw, .int .i64 c.wd, .int .i64 c.md, .int .u64 c.sd]) (Lw.below_alloc (Below.refl _ _) _) (heap_alloc_new w2 _) (fun k hk => Nat.le_of_eq hk.symm)); clear x0 x1 x2 x3 x4 x5; obtain ⟨c0, c1, c2, c3, c4⟩ := box5 HV3.out.i0)
    | (go_at_call 26; (with_reducible refine (shown_any _).mono ?_); rintro e w1 ⟨rfl, hb⟩; have HV1 := Lib.hid (HBX.out.up hb); clear hb; obtain ⟨x0, x1, x2, x3, x4, x5⟩ := box6 HV1.out.i0))
  obtain ⟨gc, hgc⟩ : ∃ g, w2.heap.size = g := ⟨_, rfl⟩
  rw [hgc] at HV5 ⊢
  have HV6 : Hid (Have w w4 [ownK w.heap.size 2 1 (.slice none 0 0) ([] : List Int).length (([] : List Int).map (Value.int .i64)), ownK w.heap.size 22 1 (.slice none 0 0) ([] : List Int).length (([] : List Int).map (Value.int .u64)), boxT gc 24 #[.int .i64 c.bt, .int .i64 c.rw, .int .i64 c.wd, .int .i64 c.md, .int .u64 c.sd], stT p F c Z, boxT w.heap.size 63 #[.int .i64 x.bt, .int .i64 x.rw, .int .i64 x.wd, .int .i64 x.md, .int .u64 x.sd, .slice A n0 k0]]) := Lib.hid ((HV5.out.push (ownK w.heap.size 22 1 (.slice none 0 0) 0 []) (Below.refl _ _) (World.ownsRow_nil w4 _ _ _) (fun k hk => by cases hk)).push (ownK w.heap.size 2 1 (.slice none 0 0) 0 []) (Below.refl _ _) (World.ownsRow_nil w4 _ _ _) (fun k hk => by cases hk))
  clear hgc HV1 HV2 HV3 HV4 HV5 FD CT0 CK HBX
  go_loopw [10, 11, 12, 13] (fun kv cv lv iv wr => ∃ (t : Nat) (KS CS : List Int) (LT : Int), t ≤ 12 ∧ (t ≤ nl ∨ t = 0) ∧ iv = .int .i64 (t : Int) ∧ lv = .int .u64 LT ∧ 0 ≤ LT ∧ LT ≤ (t : Int) * 200000 ∧ KS.length ≤ t ∧ CS.length ≤ t ∧ (∀ k ∈ KS, 1 ≤ k ∧ k ≤ TV) ∧ Cuts K LT CS ∧ Have w wr [ownK w.heap.size 2 1 kv KS.length (KS.map (Value.int .i64)), ownK w.heap.size 22 1 cv CS.length (CS.map (Value.int .u64)), boxT gc 24 #[.int .i64 c.bt, .int .i64 c.rw, .int .i64 c.wd, .int .i64 c.md, .int .u64 c.sd], stT p F c Z, boxT w.heap.size 63 #[.int .i64 x.bt, .int .i64 x.rw, .int .i64 x.wd, .int .i64 x.md, .int .u64 x.sd, .slice A n0 k0]]) (fun _ _ _ iv _ => 20 - (intOf iv).toNat)
  case atStart => exact ⟨0, [], [], 0, Nat.zero_le _, .inr rfl, rfl, rfl, Int.le_refl _, by omega, Nat.le_refl _, Nat.le_refl _, (fun k hk => by cases hk), Cuts.nil K, HV6.out⟩
  case round =>
    obtain ⟨t, KS, CS, LT, hk1, hk2, rfl, rfl, hl0, hlb, hkl, hcl, hks, hcs, hv⟩ := hrel
    have HVr := Lib.hid hv
    clear hv
    obtain ⟨-, Aq, capq, rfl⟩ := own_formK (okI HVr.out.i0)
    obtain ⟨-, Ac, capc, rfl⟩ := own_formK (okI HVr.out.i1)
    by_cases hlt : t < nl ∧ t < 12
    · have hlt9 := hlt
      obtain ⟨hj1, hj2⟩ := hlt
      have lt0 : (0 : Int) ≤ (t : Int) := by omega
      have lt1 : (t : Int) < (nl : Int) := by omega
      have lt2 : (t : Int) < 12 := by omega
      obtain ⟨v, hv⟩ : ∃ v, zs[t]? = some v := ⟨_, List.getElem?_eq_getElem (by rw [HLZ.out]; exact hj1)⟩
      have hvb := HZ.out v (List.mem_of_getElem? hv)
      obtain ⟨ad, rfl, hcv⟩ := HRB.out _ _ hv
      have d1 := cell_up hcv HVr.out.below
      have HZV := Lib.hid hv
      obtain ⟨Q, Q1, R2, L1, L2, ⟨n1, n2, n3, n4, n5⟩, ⟨m1, m2, m3⟩, ⟨o1, o2⟩, hlt2, hL1, hL2⟩ := cut_nums (K := K) (LT := LT) (v := v) HKB.out.1 HKB.out.2 hl0 (by omega) hvb.1
      have HL2 := Lib.hid (And.intro hlt2 (And.intro hL1 hL2))
      have HBND := Lib.hid (And.intro hl0 hlb)
      have HT2 : Hid (t + 1 ≤ 12 ∧ t + 1 ≤ nl) := Lib.hid (by omega)
      have HK := Lib.hid hks
      have HC := Lib.hid hcs
      have hk12 : KS.length ≤ 12 := by omega
      have hc12 : CS.length ≤ 12 := by omega
      have HLEN : Hid (KS.length ≤ t ∧ CS.length ≤ t) := Lib.hid ⟨hkl, hcl⟩
      obtain ⟨R, K1, p1, p2, p3, p4, p5, p6, p7, p8, p9, p10, p11⟩ := rank_nums (T := TV) (v := v) hT htb2 hvb.1
      have HK1 := Lib.hid (And.intro p10 p11)
      have q0 : decide (0 < TV) = true := decide_eq_true (by omega)
      have q1 : 0 < TV := by omega
      clear p10 p11
      clear hv hcv hvb hlt2 hL1 hL2 hl0 hlb hks hcs hkl hcl hk1 hk2
      go_upto_region 15 with (at_builtin; go_must (refine wpList_append_lies _ rfl _ _ 54 rfl w.heap.size 2 i0 (.int .i64 0) 1 8 i64s_u i_ iz0 iz1 iz2 rfl (by decide) _ _ _ rfl ((okI HVr.out.i0).alloc _) ⟨_, 0, none⟩ 1 1 [.int .i64 K1] rfl rfl (World.news_of_block (heap_alloc_new wr _)) (one_i64 _) (by decide) (by unfold maxLen; omega) (by omega) (by simp; have := HVr.out.below.size; omega) _ rfl ?_); intro g7 cap7 w7 hown7 hgrow7 hat7 hlt7)
      have HVa := Lib.hid (HVr.out.up (Lw.below_alloc (Below.refl _ wr) (.cells #[.int .i64 K1] 2)))
      have HV7 := Lib.hid (turn0K HVa.out hown7 hgrow7 hat7)
      have HKM : Hid ((KS ++ [K1]).map (Value.int .i64) = KS.map (Value.int .i64) ++ [.int .i64 K1]) := Lib.hid (by simp)
      have HKL : Hid ((KS ++ [K1]).length = KS.length + 1) := Lib.hid (by simp)
      have HKS : Hid (∀ k ∈ KS ++ [K1], 1 ≤ k ∧ k ≤ TV) := Lib.hid (fun k hk => (List.mem_append.1 hk).elim (HK.out k) (fun h => by rw [List.mem_singleton.1 h]; exact HK1.out))
      obtain ⟨KS2, hKS2⟩ : ∃ l, KS ++ [K1] = l := ⟨_, rfl⟩
      rw [hKS2] at HKM HKL HKS
      have HVB : Hid (Have w w7 [ownK w.heap.size 2 1 (.slice (some ⟨g7, 0, none⟩) (KS.length + 1) cap7) KS2.length (KS2.map (Value.int .i64)), ownK w.heap.size 22 1 (.slice Ac CS.length capc) CS.length (CS.map (Value.int .u64)), boxT gc 24 #[.int .i64 c.bt, .int .i64 c.rw, .int .i64 c.wd, .int .i64 c.md, .int .u64 c.sd], stT p F c Z, boxT w.heap.size 63 #[.int .i64 x.bt, .int .i64 x.rw, .int .i64 x.wd, .int .i64 x.md, .int .u64 x.sd, .slice A n0 k0]]) := Lib.hid (by rw [HKM.out, HKL.out]; exact HV7.out)
      have HKT : Hid (KS2.length ≤ t + 1) := Lib.hid (by rw [HKL.out]; have := HLEN.out; omega)
      clear hown7 hgrow7 hat7 hlt7 p1 p2 p3 p4 p5 p6 p7 p8 p9 HV7 HVa
      have d1b := cell_up (HRB.out.at HZV.out) HVB.out.below
      by_cases hlk : L2 < K
      · have e0 : decide (L2 < K) = true := decide_eq_true hlk
        have HLK := Lib.hid hlk
        go_wp2_with (at_builtin; go_must (refine wpList_append_lies _ rfl _ _ 66 rfl w.heap.size 22 j0 (.int .u64 0) 1 8 u64s_u j_ jz0 jz1 jz2 rfl (by decide) _ _ _ rfl ((okI HVB.out.i1).alloc _) ⟨_, 0, none⟩ 1 1 [.int .u64 L2] rfl rfl (World.news_of_block (heap_alloc_new w7 _)) (one_u64 _) (by decide) (by unfold maxLen; omega) (by omega) (by simp; have := HVB.out.below.size; omega) _ rfl ?_); intro g8 cap8 w8 hown8 hgrow8 hat8 hlt8)
        have HVa := Lib.hid (HVB.out.up (Lw.below_alloc (Below.refl _ w7) (.cells #[.int .u64 L2] 22)))
        have HV8 := Lib.hid (turn1K HVa.out hown8 hgrow8 hat8)
        have HCM : Hid ((CS ++ [L2]).map (Value.int .u64) = CS.map (Value.int .u64) ++ [.int .u64 L2]) := Lib.hid (by simp)
        have HCL : Hid ((CS ++ [L2]).length = CS.length + 1) := Lib.hid (by simp)
        go_roundw
        case rel => exact ⟨t + 1, KS2, CS ++ [L2], L2, HT2.out.1, .inl HT2.out.2, by go_num, rfl, by have := HL2.out; omega, by have h5 := HL2.out.2.2; have h6 := HBND.out.2; omega, HKT.out, by rw [HCL.out]; have := HLEN.out; omega, HKS.out, HC.out.snoc HL2.out.1 HL2.out.2.1 HLK.out, by rw [HCM.out, HCL.out]; exact HV8.out.up (by repeat' (first | (with_reducible first | exact Below.refl _ _ | assumption | refine below_over ?_ _ _ | refine Lw.below_alloc ?_ _ | refine Below.drew ?_ | refine below_drewN ?_ _ | refine Below.setCell ?_ ?_ _) | go_size))⟩
        case measure => simp [intOf]; omega
      · have e0 : decide (L2 < K) = false := decide_eq_false hlk
        go_wp2
        go_roundw
        case rel => exact ⟨t + 1, KS2, CS, L2, HT2.out.1, .inl HT2.out.2, by go_num, rfl, by have := HL2.out; omega, by have h5 := HL2.out.2.2; have h6 := HBND.out.2; omega, HKT.out, by have := HLEN.out; omega, HKS.out, HC.out.more (by have := HL2.out.1; omega), HVB.out.up (by repeat' (first | (with_reducible first | exact Below.refl _ _ | assumption | refine below_over ?_ _ _ | refine Lw.below_alloc ?_ _ | refine Below.drew ?_ | refine below_drewN ?_ _ | refine Below.setCell ?_ ?_ _) | go_size))⟩
        case measure => simp [intOf]; omega
    · have hcases : ((t : Int) < (nl : Int) ∧ ¬ (t : Int) < 12) ∨ ¬ (t : Int) < (nl : Int) := by omega
      have HKX := Lib.hid hks
      have HCX := Lib.hid hcs
      have hkn : KS.length ≤ 12 := by omega
      have hcn : CS.length ≤ 12 := by omega
      obtain ⟨hrdq, hnq⟩ := own_rdz (okI HVr.out.i0)
      obtain ⟨hrdc, hnc⟩ := own_rdz (okI HVr.out.i1)
      have hqs := HQS.out KS HKX.out
      have hhs := HSP.out LT CS HCX.out
      have CQ0 := Lib.hid (fun w9 hs hr9 => sm_quants p F c Z Aq KS.length capq KS w9 hs hnq hr9 rfl (fun v hv => by have := HKX.out v hv; have := HTB.out; omega) (by omega))
      have CH0 := Lib.hid (fun w9 hs hr9 => sm_histo p F c Z Ac CS.length capc CS w9 hs hnc hr9 rfl (fun v hv => by have := (of_decide_eq_true HCX.out.2.1) v hv; have := HKB.out; omega) (by omega) hs.2.1)
      rw [hqs.1, hqs.2] at CQ0
      rw [hhs.1, hhs.2] at CH0
      have HRQ := Lib.hid hrdq
      have HRC := Lib.hid hrdc
      obtain ⟨QL, hQL⟩ : ∃ l, KS.map (fun k => qnV c (fun L i => spV c Z (L : Int) i) k) = l := ⟨_, rfl⟩
      obtain ⟨HL, hHL⟩ : ∃ l, (spansQ K CS).map (fun s => rgV c (fun L i => spV c Z (L : Int) i) s.1 s.2) = l := ⟨_, rfl⟩
      rw [hQL] at CQ0
      rw [hHL] at CH0
      have HQL := Lib.hid hQL
      have HHL := Lib.hid hHL
      have HQN6 : Hid (QL.length = KS.length) := Lib.hid (by rw [← hQL, List.length_map])
      have HHN7 : Hid (HL.length = CS.length + 1) := Lib.hid (by rw [← hHL, List.length_map, spansQ_len])
      obtain ⟨wq, hwq⟩ : ∃ wq, wq = wr := ⟨_, rfl⟩
      rw [← hwq] at HVr HRQ HRC ⊢
      clear hwq hqs hhs hrdq hrdc hnq hnc hQL hHL hks hcs hkl hcl hl0 hlb hk1 hk2 hlt
      have w9 : wrap64 ((CS.length : Int) + 1) = ((CS.length + 1 : Nat) : Int) := by rw [IntWalk.wrap64_in _ ⟨by omega, by omega⟩]; omega
      rcases hcases with ⟨hc1, hc2⟩ | hc1
      all_goals as_aux_lemma =>
        go_upto_region 20 with (first
          | (go_at_call 31; (with_reducible refine (CH0.out _ (stI HV6.out.i4) (own_rd1 (okI HV6.out.i2))).mono ?_); rintro e w7 ⟨A7, n7, cap7, rfl, ho7, hl7, hb⟩; obtain ⟨wh, hwh⟩ : ∃ wh, wh = w6 := ⟨_, rfl⟩; rw [← hwh] at ho7 hb HV6; obtain rfl : HL.length = n7 := hl7; have HV7 := Lib.hid (HV6.out.push (ownK wh.heap.size 2 1 (.slice A7 HL.length cap7) HL.length (HL.map (Value.int .i64))) hb ho7 (fun k hk => own_ge ho7 k hk)); clear ho7 hb)
          | (go_at_call 28; (with_reducible refine (CQ0.out _ (stI HVr.out.i3) (own_rd1 (okI HVr.out.i0))).mono ?_); rintro e w6 ⟨A6, n6, cap6, rfl, ho6, hl6, hb⟩; obtain rfl : QL.length = n6 := hl6; have HV6 := Lib.hid (HVr.out.push (ownK wq.heap.size 22 1 (.slice A6 QL.length cap6) QL.length (QL.map (Value.int .u64))) hb ho6 (fun k hk => own_ge ho6 k hk)); clear ho6 hb))
        have hq6 := HQN6.out
        have hh7 := HHN7.out
        obtain ⟨KN, hKN⟩ : ∃ n, KS.length = n := ⟨_, rfl⟩
        obtain ⟨CN, hCN⟩ : ∃ n, CS.length = n := ⟨_, rfl⟩
        rw [hq6, hh7, hKN, hCN] at HV7 ⊢
        rw [hKN] at hkn
        rw [hCN] at hcn w9
        have HKN := Lib.hid hKN
        have HCN := Lib.hid hCN
        clear hq6 hh7 hKN hCN
        go_wp2
        go_loopw [18] (fun iv wr => ∃ (t : Nat), t ≤ KN ∧ iv = .int .i64 (t : Int) ∧ Have w wr [ownK wh.heap.size 2 1 (.slice A7 (CN + 1) cap7) (CN + 1) (HL.map (Value.int .i64)), ownK wq.heap.size 22 1 (.slice A6 KN cap6) KN (QL.map (Value.int .u64)), ownK w.heap.size 2 1 (.slice Aq KN capq) KN (KS.map (Value.int .i64)), ownK w.heap.size 22 1 (.slice Ac CN capc) CN (CS.map (Value.int .u64)), boxT gc 24 #[.int .i64 c.bt, .int .i64 c.rw, .int .i64 c.wd, .int .i64 c.md, .int .u64 c.sd], stT p F c Z, boxT w.heap.size 63 #[.int .i64 x.bt, .int .i64 x.rw, .int .i64 x.wd, .int .i64 x.md, .int .u64 x.sd, .slice A n0 k0]]) (fun iv _ => KN - (intOf iv).toNat)
        case atStart => exact ⟨0, Nat.zero_le _, rfl, HV7.out⟩
        case round =>
          obtain ⟨t, ht, rfl, hv⟩ := hrel
          have HVs := Lib.hid hv
          clear hv
          by_cases hlt : t < KN
          · have lt0 : (0 : Int) ≤ (t : Int) := by omega
            have lt1 : (t : Int) < (KN : Int) := by omega
            obtain ⟨k, hk⟩ : ∃ k, KS[t]? = some k := ⟨_, List.getElem?_eq_getElem (by rw [HKN.out]; exact hlt)⟩
            have hkb := HKX.out k (List.mem_of_getElem? hk)
            have hqk : QL[t]? = some (qnV c (fun L i => spV c Z (L : Int) i) k) := by rw [← HQL.out, List.getElem?_map, hk]; rfl
            obtain ⟨ad, rfl, d1⟩ := (own_rd1 (okI HVs.out.i2)) _ _ hk
            obtain ⟨ae, rfl, d2⟩ := (own_rd1 (okI HVs.out.i1)) _ _ hqk
            have CQK := Lib.hid (fun w hs => qn_quant p F c Z k w hs (by omega) (by have := HTB.out; omega))
            rw [HQN.out k hkb.1 hkb.2] at CQK
            obtain ⟨QV, hQV⟩ : ∃ v, qnV c (fun L i => spV c Z (L : Int) i) k = v := ⟨_, rfl⟩
            rw [hQV] at d2 CQK
            have D2 := Lib.hid d2
            clear hk hkb hqk hQV d2
            go_wp2_with (go_at_call 39; (with_reducible refine (CQK.out _ (stI HVs.out.i5)).mono ?_); rintro e w8 ⟨rfl, hb⟩; have HV8 := Lib.hid (HVs.out.up hb); have d2 := cell_up D2.out hb; clear hb)
            go_roundw
            case rel => exact ⟨t + 1, by omega, by go_num, HV8.out⟩
            case measure => simp [intOf]; omega
          · obtain rfl : t = KN := by omega
            have lt1 : ¬ (t : Int) < (t : Int) := by omega
            clear ht hlt
            go_wp2
            clear lt1
            go_loopw [21, 22] (fun fv iv wr => ∃ (i : Nat) (FV : Int), i ≤ CN + 1 ∧ iv = .int .i64 (i : Int) ∧ fv = .int .u64 FV ∧ (i ≤ CN → FV = loQ CS i) ∧ Have w wr [ownK wh.heap.size 2 1 (.slice A7 (CN + 1) cap7) (CN + 1) (HL.map (Value.int .i64)), ownK wq.heap.size 22 1 (.slice A6 t cap6) t (QL.map (Value.int .u64)), ownK w.heap.size 2 1 (.slice Aq t capq) t (KS.map (Value.int .i64)), ownK w.heap.size 22 1 (.slice Ac CN capc) CN (CS.map (Value.int .u64)), boxT gc 24 #[.int .i64 c.bt, .int .i64 c.rw, .int .i64 c.wd, .int .i64 c.md, .int .u64 c.sd], stT p F c Z, boxT w.heap.size 63 #[.int .i64 x.bt, .int .i64 x.rw, .int .i64 x.wd, .int .i64 x.md, .int .u64 x.sd, .slice A n0 k0]]) (fun _ iv _ => CN + 1 - (intOf iv).toNat)
            case atStart => exact ⟨0, 0, Nat.zero_le _, rfl, rfl, fun _ => (loQ_zero CS).symm, HVs.out⟩
            case round =>
              obtain ⟨i, FV, hi, rfl, rfl, hfv, hv⟩ := hrel
              have HVu := Lib.hid hv
              clear hv
              by_cases hle : i ≤ CN
              · have le0 : (0 : Int) ≤ (i : Int) := by omega
                have le1 : (i : Int) < (CN : Int) + 1 := by omega
                have hfe := hfv hle
                have hsi := span_in (K := K) HKB.out.1 HCX.out.2.1 HCX.out.1 (i := i) (by rw [HCN.out]; exact hle)
                have hsq := spansQ_at (K := K) (l := CS) (i := i) (by rw [HCN.out]; exact hle)
                rw [← hfe] at hsi hsq
                have hhv : HL[i]? = some (rgV c (fun L i => spV c Z (L : Int) i) FV (hiQ K CS i)) := by rw [← HHL.out, List.getElem?_map, hsq]; rfl
                obtain ⟨ae, rfl, d2⟩ := (own_rd1 (okI HVu.out.i0)) _ _ hhv
                have CR := Lib.hid (fun w hs => sp_range p F c Z FV (hiQ K CS i) w hs (by omega) (by have := HKB.out; omega) (by omega) (by have := HKB.out; omega))
                rw [HRG.out FV (hiQ K CS i) hsi.1 hsi.2.1 hsi.2.2] at CR
                obtain ⟨HV_, hHV⟩ : ∃ v, rgV c (fun L i => spV c Z (L : Int) i) FV (hiQ K CS i) = v := ⟨_, rfl⟩
                rw [hHV] at d2 CR
                have D2 := Lib.hid d2
                have wK : IntKind.u64.wrap (K - 1) = K - 1 := by rw [IntKind.wrap_u64]; have := HKB.out; omega
                clear hfv hfe hsq hhv hHV d2 hle
                by_cases hlx : i < CN
                · obtain ⟨x, hx⟩ : ∃ x, CS[i]? = some x := ⟨_, List.getElem?_eq_getElem (by rw [HCN.out]; exact hlx)⟩
                  have hxb := HCX.out.at hx
                  obtain ⟨ad, rfl, d1⟩ := (own_rd1 (okI HVu.out.i3)) _ _ hx
                  have hhi := hiQ_at (K := K) hx
                  have HLO := Lib.hid (loQ_next hx)
                  rw [hhi] at CR
                  obtain ⟨XM, hXM⟩ : ∃ v, x - 1 = v := ⟨_, rfl⟩
                  have wx : IntKind.u64.wrap (x - 1) = XM := by rw [← hXM, IntKind.wrap_u64]; have := HKB.out; omega
                  have wx2 : IntKind.u64.wrap (XM + 1) = x := by rw [← hXM, IntKind.wrap_u64]; have := HKB.out; omega
                  rw [hXM] at CR
                  have lx : (i : Int) < (CN : Int) := by omega
                  clear hsi hhi hx hxb hXM
                  go_wp2_with (go_at_call 40; (with_reducible refine (CR.out _ (stI HVu.out.i5)).mono ?_); rintro e w8 ⟨rfl, hb⟩; have HV8 := Lib.hid (HVu.out.up hb); have d2 := cell_up D2.out hb; clear hb)
                  go_roundw
                  case rel => exact ⟨i + 1, x, by omega, by go_num, rfl, fun _ => HLO.out.symm, HV8.out⟩
                  case measure => simp [intOf]; omega
                · have hhi : hiQ K CS i = K - 1 := by have h9 := hiQ_last K CS; rw [HCN.out] at h9; rw [show i = CN by omega]; exact h9
                  rw [hhi] at CR
                  obtain ⟨XM, hXM⟩ : ∃ v, K - 1 = v := ⟨_, rfl⟩
                  have wx : IntKind.u64.wrap (K - 1) = XM := wK.trans hXM
                  obtain ⟨X2, hX2⟩ : ∃ v, IntKind.u64.wrap (XM + 1) = v := ⟨_, rfl⟩
                  rw [hXM] at CR
                  have lx : ¬ (i : Int) < (CN : Int) := by omega
                  clear hsi hhi hXM wK
                  go_wp2_with (go_at_call 40; (with_reducible refine (CR.out _ (stI HVu.out.i5)).mono ?_); rintro e w8 ⟨rfl, hb⟩; have HV8 := Lib.hid (HVu.out.up hb); have d2 := cell_up D2.out hb; clear hb)
                  go_roundw
                  case rel => exact ⟨i + 1, X2, by omega, by go_num, by first | rfl | (rw [← hX2]), fun h => by omega, HV8.out⟩
                  case measure => simp [intOf]; omega
              · have le1 : ¬ (i : Int) < (CN : Int) + 1 := by omega
                go_wp2
                go_ret
                exact ⟨ret_bs (by first | rfl | (simp [*]; done)), HVu.out.below⟩
theorem each_law (x : Cfg) (A : Option Addr) (n0 k0 : Nat) (qs : Ups) (B : Option Addr) (nl cb : Nat) (zs : List Int) (w : World) (hx : x.Ok) (hq : UpdV w A n0 k0 qs) (hB : B = none → nl = 0 ∧ cb = 0) (hbn : nl ≤ cb) (hcap : cb ≤ maxLen) (hrB : Rd .u64 w B zs) (hlB : zs.length = nl) (hzB : ∀ v ∈ zs, 0 ≤ v ∧ v ≤ 18446744073709551615) :
    Calls Tryz.prog 8 #[.agg #[.int .i64 x.bt, .int .i64 x.rw, .int .i64 x.wd, .int .i64 x.md, .int .u64 x.sd, .slice A n0 k0], .slice B nl cb] w fun e w' => e = .returned (.bool true) ∧ Below w.heap.size w w' := by
  by_cases hT : 1 ≤ spV (anyC x 10 9) (stsOf (anyC x 10 9) (upsR (anyC x 10 9) 0 qs 0 60)) (anyC x 10 9).bt 0
  · exact each_y x A n0 k0 qs B nl cb zs w hx hq hB hbn hcap hrB hlB hzB hT
  · exact each_n x A n0 k0 qs B nl cb zs w hx hq hB hbn hcap hrB hlB hzB hT
namespace summaryEach
open Go.ChangeShapes Go.WideShapes Go.ChangeAt Go.Joins
set_option maxRecDepth 100000 in
theorem lifted (os : Os) (started : os.Started) (H : Type) (enc : TypeId × Value → H) :
    ReturnsInHanded {} Tryz.checked os 8 .any (Rows.summaryEachSpec.pre6 enc Tryz.prog Tryz.f8 Rows.summaryEachRow.domain false) (Rows.summaryEachSpec.post enc Tryz.prog Tryz.f8 false true false false) := by
  refine Lw.lifted (C := Tryz.checked) (B := 4) (by kernel_rfl) os started (by kernel_rfl) Tryz.func8
    (ChangeSpec.witness6 (enc := enc) (C := Tryz.checked) false ⟨#[], #[.agg #[.int .i64 0, .int .i64 0, .int .i64 0, .int .i64 0, .int .u64 0, .slice none 0 0], .slice none 0 0], []⟩ 8 (by kernel_rfl) (by kernel_rfl) (by kernel_rfl) (by kernel_rfl)) rfl Tryz.underlying4 (by kernel_rfl) (by kernel_rfl) (by kernel_rfl) ?_ ?_
  · intro ds h
    rw [Tryz.params8] at h
    match ds, h with
    | [_, _], _ => rfl
  · intro W base args ds p hval hA
    rw [Tryz.params8] at hA hval
    obtain ⟨v0, vs0, d0, ds0, p0, q0, hargs, rfl, rfl, h0, r0⟩ := trodAll_cons hA
    obtain ⟨v1, vs1, d1, ds1, p1, q1, rfl, rfl, rfl, h1, r1⟩ := trodAll_cons r0
    obtain ⟨rfl, rfl, rfl⟩ := trodAll_nil r1
    obtain rfl : args = #[v0, v1] := by cases args; simp_all
    obtain ⟨x0, A0, n0, k0, qs0, rfl, hx0, hq0⟩ := open_playX (hval 0 63 v0 rfl rfl) h0
    obtain ⟨A1, n1, c1, zs1, rfl, hA1, hn1, hc1, hr1, hl1, hz1⟩ := open_list_uint64 (hval 1 66 v1 rfl rfl) h1
    exact each_law x0 A0 n0 k0 qs0 A1 n1 c1 zs1 W hx0 hq0 hA1 hn1 hc1 hr1 hl1 hz1
theorem over : Rows.summaryEachRow.holds Tryz.pinned (OpenSpec.ofChange Rows.summaryEachSpec) :=
  OpenClaim.holds_of_wide 8 Tryz.f8 rfl rfl rfl rfl rfl rfl rfl ⟨rfl, rfl, rfl, rfl, rfl⟩ rfl rfl rfl rfl rfl (by kernel_rfl) Tryz.func8 (by kernel_rfl)
    (of_decide_eq_true (by kernel_rfl)) (by unfold Func.isWrapper; first | (rw [if_pos (by decide +kernel)]; kernel_rfl) | (rw [if_neg (by decide +kernel)]; exact ⟨rfl, rfl⟩))
    (fun os started H enc _ => lifted os started H enc)
theorem proved : Rows.SummaryEachSaid :=
  over
#print axioms proved
end summaryEach
end Go.Proofs.YtkflggojiiebeaaGreat.Smr
