/- The statement SummaryExact of layer 19 holds. Printed by wip/gen/smr8.py. -/
import Derived.Test.YtkflggojiiebeaaGreatVca
namespace Go.Proofs.YtkflggojiiebeaaGreat.Smr
open Go Go.RowKit Lw Grd Lin Con Shp Sk Exa Lev Stk Pcs Spn Qnt Hvy
set_option linter.unusedVariables false
set_option linter.unusedSimpArgs false
set_option linter.constructorNameAsVariable false
theorem own_rd1 {k : IntKind} {w : World} {base : Nat} {e : TypeId} {A : Option Addr} {n cap : Nat} {zs : List Int} (h : w.ownsRow base e 1 (.slice A n cap) n (zs.map (Value.int k))) : Rd k w A zs := by
  obtain ⟨A2, cap2, e2, hr, -⟩ := own_rd h
  injection e2 with e2a e2b e2c
  subst e2a
  exact hr
theorem own_rdz {k : IntKind} {w : World} {base : Nat} {e : TypeId} {A : Option Addr} {n cap : Nat} {zs : List Int} (h : w.ownsRow base e 1 (.slice A n cap) n (zs.map (Value.int k))) : Rd k w A zs ∧ (A = none → n = 0 ∧ cap = 0) := by
  obtain ⟨A2, cap2, e2, hr, -, -, hn⟩ := own_rd h
  injection e2 with e2a e2b e2c
  subst e2a e2c
  exact ⟨hr, hn⟩
set_option maxRecDepth 100000 in
set_option maxHeartbeats 40000000 in
theorem exact_law (x : Cfg) (A : Option Addr) (n0 k0 : Nat) (qs : Ups) (B : Option Addr) (nl cb : Nat) (zs : List Int) (w : World) (hx : x.Ok) (hq : UpdV w A n0 k0 qs) (hB : B = none → nl = 0 ∧ cb = 0) (hbn : nl ≤ cb) (hcap : cb ≤ maxLen) (hrB : Rd .u64 w B zs) (hlB : zs.length = nl) (hzB : ∀ v ∈ zs, 0 ≤ v ∧ v ≤ 18446744073709551615) :
    Calls Tryz.prog 9 #[.agg #[.int .i64 x.bt, .int .i64 x.rw, .int .i64 x.wd, .int .i64 x.md, .int .u64 x.sd, .slice A n0 k0], .slice B nl cb] w fun e w' => e = .returned (.bool true) ∧ Below w.heap.size w w' := by
  have hr0 := any_right x 7 9 (by omega) (by omega) (by omega) (by omega)
  have hco0 := any_ok x hx 7 9 (by omega) (by omega) (by omega) (by omega)
  have hb7 : (anyC x 7 9).bt ≤ 7 := by
    have h2 := Int.emod_lt_of_pos (x.bt % 65536) (show (0 : Int) < 7 by omega)
    show 1 + x.bt % 65536 % 7 ≤ 7
    omega
  obtain ⟨C, hCC⟩ : ∃ C, anyC x 7 9 = C := ⟨_, rfl⟩
  have CA := Lib.hid (fun w => rany_at x 7 9 C w hx (by omega) (by omega) (by omega) (by omega) hCC)
  rw [hCC] at hr0 hco0 hb7
  have hp7 := Spn.pow7 (n := C.bt.toNat) (by omega)
  obtain ⟨c, hC⟩ : ∃ c, { C with wd := 2 ^ C.bt.toNat } = c := ⟨_, rfl⟩
  have h1 : C.bt = c.bt ∧ C.rw = c.rw ∧ C.md = c.md ∧ C.sd = c.sd ∧ c.wd = 2 ^ c.bt.toNat := by rw [← hC]; exact ⟨rfl, rfl, rfl, rfl, rfl⟩
  have hr : IsRight c := by rw [← hC]; exact ⟨hr0.1, hr0.2.1, hr0.2.2.1, hr0.2.2.2.1, hp7.1, hp7.2, hr0.2.2.2.2.2.2⟩
  have hco : c.Ok := by rw [← hC]; exact ⟨hco0.b0, hco0.b1, hco0.r0, hco0.r1, by show -9223372036854775808 ≤ (2 : Int) ^ C.bt.toNat; omega, by show (2 : Int) ^ C.bt.toNat ≤ 9223372036854775807; omega, hco0.m0, hco0.m1, hco0.s0, hco0.s1⟩
  rw [h1.1, h1.2.1, h1.2.2.1, h1.2.2.2.1] at CA
  obtain ⟨WD, hWD⟩ : ∃ v, C.wd = v := ⟨_, rfl⟩
  rw [hWD] at CA
  have hbt := hr.1
  have hb7' : c.bt ≤ 7 := by rw [← h1.1]; exact hb7
  have hwd := h1.2.2.2.2
  have hwb : 1 ≤ c.wd ∧ c.wd ≤ 128 := ⟨hr.2.2.2.2.1, hr.2.2.2.2.2.1⟩
  have hux : IntKind.u64.wrap c.bt = c.bt := by rw [IntKind.wrap_u64]; omega
  have hsh : IntKind.i64.wrap (2 ^ min c.bt.toNat 64) = c.wd := by
    rw [Nat.min_eq_left (by omega), ← hwd]
    exact IntWalk.i64_in _ ⟨by omega, by omega⟩
  have hsh2 : wrap64 (2 ^ c.bt.toNat) = c.wd := by
    rw [← hwd]
    exact IntWalk.wrap64_in _ ⟨by omega, by omega⟩
  have hkeys : 1 ≤ keys c 0 := keys_pos.2 ⟨hr, by omega, by omega⟩
  have hkk := keys_bd c 0
  have hk7 : keys c 0 ≤ 128 := by
    have e := keys_yes hr (l := 0) (by omega) (by omega)
    have h2 : 2 ^ (c.bt - 0).toNat ≤ 2 ^ 7 := Nat.pow_le_pow_right (by omega) (by omega)
    have e1 : ((2 ^ (c.bt - 0).toNat : Nat) : Int) = 2 ^ (c.bt - 0).toNat := by simp
    have e2 : (2 : Nat) ^ 7 = 128 := rfl
    omega
  have hul := upsR_len c 0 qs 0 60
  have hui := upsR_in hkeys qs 0 60
  have hex : ∀ n : Nat, (n : Int) ≤ c.bt → exactB c n = true := fun n hn => Spn.wide_exact hr hwd hn
  have CNW := Lib.hid (fun w => cs_new c w hco hr)
  have CK := Lib.hid (fun w => rkeys_any c 0 w hco (by omega) (by omega))
  have CB := Lib.hid (fun lo hi w hq l0 l1 i0 i1 => rbtw_any c A n0 k0 qs lo hi w hco hkeys hq l0 l1 i0 i1)
  have CC0 := Lib.hid (fun w k d h0 h1 h2 h3 => rcut15_any c k d w hco h0 h1 h2 h3 hkeys)
  have CT0 := Lib.hid (fun p F w hs => cs_total p F c (stsOf c (upsR c 0 qs 0 60)) w hs)
  have htot := bt_total hr hex hui hul
  rw [htot] at CT0
  have HSP : Hid (∀ (LT : Int) (CS : List Int), Cuts (keys c 0) LT CS → hgC c (fun L i => spV c (stsOf c (upsR c 0 qs 0 60)) (L : Int) i) CS = 0 ∧ hgL c (fun L i => spV c (stsOf c (upsR c 0 qs 0 60)) (L : Int) i) CS = (spansQ (keys c 0) CS).map (fun s => bt s.1 s.2 (upsR c 0 qs 0 60))) := Lib.hid (fun LT CS h => spans_exact hr hex hui hul hkeys h)
  have HBD : Hid (∀ lo hi : Int, -65970697666560 ≤ bt lo hi (upsR c 0 qs 0 60) ∧ bt lo hi (upsR c 0 qs 0 60) ≤ 65970697666560) := Lib.hid (fun lo hi => bt_fed hui hul lo hi)
  obtain ⟨Z, hZ⟩ : ∃ Z, stsOf c [] = Z := ⟨_, rfl⟩
  rw [hZ] at CNW
  have hst0 : stsOf c (upsR c 0 qs 0 0) = Z := by rw [upsR_zero]; exact hZ
  have HQ := Lib.hid hq
  have HL := Lib.hid hq.len
  have hnc := hq.nc
  have hcm := hq.cm
  unfold maxLen at hcm
  have HR := Lib.hid hr
  have HKY := Lib.hid hkeys
  have HKBD := Lib.hid hkk
  have HRB := Lib.hid hrB
  have HLZ := Lib.hid hlB
  have HZ := Lib.hid hzB
  have hnl : (nl : Int) ≤ 9223372036854775807 := by unfold maxLen at hcap; omega
  have HBX : Hid (Have w (w.alloc (.cells #[.int .i64 x.bt, .int .i64 x.rw, .int .i64 x.wd, .int .i64 x.md, .int .u64 x.sd, .slice A n0 k0] 63)) [boxT w.heap.size 63 #[.int .i64 x.bt, .int .i64 x.rw, .int .i64 x.wd, .int .i64 x.md, .int .u64 x.sd, .slice A n0 k0]]) := Lib.hid (box_new w _ _)
  obtain ⟨K, hK⟩ : ∃ K, keys c 0 = K := ⟨_, rfl⟩
  rw [hK] at CK hkeys hkk CT0 HSP hk7
  have HKB : Hid (1 ≤ K ∧ K ≤ 100000) := Lib.hid (by omega)
  obtain ⟨j0, j_, jz0, jz1, jz2⟩ := info_parts u64_info
  have hwd2 := Lib.hid hwd
  clear hC hCC hWD hr0 hco0 hr hco hx hq hul hui hZ hK h1 hp7 hb7 hwd hkeys hkk hwb htot hex hk7 hB hbn hcap hrB hlB hzB
  go_enter Tryz.func9, Tryz.ntmps9
  go_wp2_with (first
    | (go_at_call 13; (with_reducible refine (CNW.out _).mono ?_); rintro e w4 ⟨p, F, rfl, hsk, hfr, hb⟩; have HV4 := Lib.hid (HV3.out.push (stT p F c Z) hb hsk hfr); clear hsk hfr hb)
    | (go_at_call 12; (with_reducible refine (CA.out _).mono ?_); rintro e w2 ⟨rfl, hb⟩; have HV2 := Lib.hid (HV1.out.up hb); clear x0 x1 x2 x3 x4 x5; obtain ⟨x0, x1, x2, x3, x4, x5⟩ := box6 HV2.out.i0; have hl1 := box_lt HV2.out.i0; have HV3 := Lib.hid (HV2.out.push (boxT w2.heap.size 24 #[.int .i64 c.bt, .int .i64 c.rw, .int .i64 c.wd, .int .i64 c.md, .int .u64 c.sd]) (Lw.below_alloc (Below.refl _ _) _) (heap_alloc_new w2 _) (fun k hk => Nat.le_of_eq hk.symm)); clear hb)
    | (go_at_call 26; (with_reducible refine (shown_any _).mono ?_); rintro e w1 ⟨rfl, hb⟩; have HV1 := Lib.hid (HBX.out.up hb); clear hb; obtain ⟨x0, x1, x2, x3, x4, x5⟩ := box6 HV1.out.i0))
  obtain ⟨g1, hg1⟩ : ∃ g1, w2.heap.size = g1 := ⟨_, rfl⟩
  rw [hg1] at HV4 ⊢
  clear hg1 hl1 x0 x1 x2 x3 x4 x5
  go_loopw [9] (fun iv wr => ∃ (k : Nat) (F : Nat → Prop), k ≤ 60 ∧ (k ≤ n0 ∨ k = 0) ∧ iv = .int .i64 k ∧ Have w wr [stT p F c (stsOf c (upsR c 0 qs 0 k)), boxT g1 24 #[.int .i64 c.bt, .int .i64 c.rw, .int .i64 c.wd, .int .i64 c.md, .int .u64 c.sd], boxT w.heap.size 63 #[.int .i64 x.bt, .int .i64 x.rw, .int .i64 x.wd, .int .i64 x.md, .int .u64 x.sd, .slice A n0 k0]]) (fun iv _ => 60 - (intOf iv).toNat)
  case atStart => exact ⟨0, F, Nat.zero_le _, .inr rfl, rfl, by rw [hst0]; exact HV4.out⟩
  case round =>
    obtain ⟨k, F, hk1, hk2, rfl, hv⟩ := hrel
    have HVr := Lib.hid hv
    have hwb := hv.below
    clear hv hst0 hux hsh hsh2 hbt hb7'
    obtain ⟨x0, x1, x2, x3, x4, c0⟩ := box6 HVr.out.i2
    by_cases hlt : k < n0 ∧ k < 60
    · obtain ⟨hj1, hj2⟩ := hlt
      obtain ⟨q, hq1⟩ : ∃ q, qs[k]? = some q := ⟨_, List.getElem?_eq_getElem (by rw [HL.out]; omega)⟩
      have hnx := upsR_next (c := c) (l := 0) hq1 (Nat.zero_le k)
      have hst := stsOf_step HR.out (upsR_in HKY.out qs 0 k) (by have := upsR_len c 0 qs 0 k; omega) (upsIn_cut HKY.out [q])
      have hcu := cutU_ok HKY.out q
      obtain ⟨aa, g, o, rfl, hadd, d1w, d2w, kb, db⟩ := HQ.out.at hq1
      obtain ⟨qk, qd⟩ := q
      simp only at d1w d2w kb db
      have d1 := cell_up d1w hwb
      have d2 := cell_up d2w hwb
      obtain ⟨e1, e2, e3, e4, e5⟩ := box5 HVr.out.i1
      have CC := Lib.hid (fun w => CC0.out w qk qd kb.1 kb.2 db.1 db.2)
      obtain ⟨us, hus⟩ : ∃ us, stsOf c (upsR c 0 qs 0 k) = us := ⟨_, rfl⟩
      obtain ⟨us2, hus2⟩ : ∃ us2, stsOf c (upsR c 0 qs 0 (k + 1)) = us2 := ⟨_, rfl⟩
      rw [hus] at HVr hst
      rw [hnx] at hus2
      rw [hus2] at hst
      have HNX : Hid (stsOf c (upsR c 0 qs 0 (k + 1)) = us2) := Lib.hid (by rw [hnx]; exact hus2)
      obtain ⟨U, hU⟩ : ∃ U, (cutU c 0 (qk, qd)).1 = U := ⟨_, rfl⟩
      obtain ⟨D, hD⟩ : ∃ D, (cutU c 0 (qk, qd)).2 = D := ⟨_, rfl⟩
      rw [hU, hD] at CC hst hcu
      have HST := Lib.hid hst
      have hkk := HKBD.out
      have hub : 0 ≤ U ∧ U ≤ 18446744073709551615 := ⟨hcu.1, by have := hcu.2.1; omega⟩
      have hdb : -9223372036854775808 ≤ D ∧ D ≤ 9223372036854775807 := ⟨by have := hcu.2.2.1; omega, by have := hcu.2.2.2.1; omega⟩
      clear hq1 hnx hst hcu hus hus2 hU hD d1w d2w hwb
      go_upto_region 10 with fail
      go_region_held3 (fun w' => w'.cell? ⟨g1, 0, none⟩ = some (.int .i64 c.bt) ∧ w'.cell? ⟨g1, 1, none⟩ = some (.int .i64 c.rw) ∧ w'.cell? ⟨g1, 2, none⟩ = some (.int .i64 c.wd) ∧ w'.cell? ⟨g1, 3, none⟩ = some (.int .i64 c.md) ∧ w'.cell? ⟨g1, 4, none⟩ = some (.int .u64 c.sd) ∧ w'.cell? ⟨w.heap.size, 5, none⟩ = some (.slice (some aa) n0 k0) ∧ w'.cell? ⟨g, o, none⟩ = some (.int .u64 qk) ∧ w'.cell? ⟨g, o + 1, none⟩ = some (.int .i64 qd)) (first | (refine ⟨?_, ?_, ?_, ?_, ?_, ?_, ?_, ?_⟩ <;> (first | (with_reducible assumption) | (with_reducible refine cell_up e1 ?_) | (with_reducible refine cell_up e2 ?_) | (with_reducible refine cell_up e3 ?_) | (with_reducible refine cell_up e4 ?_) | (with_reducible refine cell_up e5 ?_) | (with_reducible refine cell_up c0 ?_) | (with_reducible refine cell_up d1 ?_) | (with_reducible refine cell_up d2 ?_)) <;> repeat' (first | (with_reducible first | exact Below.refl _ _ | assumption | refine below_over ?_ _ _ | refine Lw.below_alloc ?_ _ | refine Below.drew ?_ | refine below_drewN ?_ _ | refine Below.setCell ?_ ?_ _) | go_size))) (first | (go_at_call 41; (with_reducible refine (CC.out _).mono ?_); rintro e w' ⟨rfl, hb⟩; obtain ⟨bs, dd, rfl⟩ := below_grow hb; clear hb))
      all_goals go_wp2_with (go_at_call 15; (with_reducible refine (cs_upd p F c us U D _ (stI (HVr.out.up (by repeat' (first | (with_reducible first | exact Below.refl _ _ | assumption | refine below_over ?_ _ _ | refine Lw.below_alloc ?_ _ | refine Below.drew ?_ | refine below_drewN ?_ _ | refine Below.setCell ?_ ?_ _) | go_size))).i0) hub.1 hub.2 hdb.1 hdb.2).mono ?_); rintro e w8 ⟨he, F8, hnp, hnk, hnf⟩; rw [HST.out.1] at he; subst he; rw [HST.out.2] at hnp; have HV8 := Lib.hid ((HVr.out.up (by repeat' (first | (with_reducible first | exact Below.refl _ _ | assumption | refine below_over ?_ _ _ | refine Lw.below_alloc ?_ _ | refine Below.drew ?_ | refine below_drewN ?_ _ | refine Below.setCell ?_ ?_ _) | go_size))).turn_0 (stT p F8 c us2) hnp hnk hnf); clear hnp hnk hnf)
      all_goals go_roundw
      all_goals first
        | exact ⟨k + 1, F8, by omega, .inl (by omega), by go_num, by rw [HNX.out]; exact HV8.out⟩
        | (simp [intOf]; omega)
    · have hend : upsR c 0 qs 0 k = upsR c 0 qs 0 60 := upsR_end hk1 (by rw [HL.out]; omega)
      rw [hend] at HVr
      obtain ⟨e1, e2, e3, e4, e5⟩ := box5 HVr.out.i1
      have hcases : ((k : Int) < n0 ∧ ¬ (k : Int) < 60) ∨ ¬ (k : Int) < n0 := by omega
      clear hend hk2 hlt hwb
      rcases hcases with ⟨hc1, hc2⟩ | hc1
      all_goals as_aux_lemma =>
        go_wp2_with (go_at_call 37; (with_reducible refine (CK.out _).mono ?_); rintro e w5 ⟨rfl, hb⟩; have HV5 := Lib.hid (HVr.out.up hb); clear hb e1 e2 e3 e4 e5 x0 x1 x2 x3 x4 c0)
        have HV6 : Hid (Have w w5 [ownK w.heap.size 22 1 (.slice none 0 0) ([] : List Int).length (([] : List Int).map (Value.int .u64)), stT p F c (stsOf c (upsR c 0 qs 0 60)), boxT g1 24 #[.int .i64 c.bt, .int .i64 c.rw, .int .i64 c.wd, .int .i64 c.md, .int .u64 c.sd], boxT w.heap.size 63 #[.int .i64 x.bt, .int .i64 x.rw, .int .i64 x.wd, .int .i64 x.md, .int .u64 x.sd, .slice A n0 k0]]) := Lib.hid (HV5.out.push (ownK w.heap.size 22 1 (.slice none 0 0) 0 []) (Below.refl _ _) (World.ownsRow_nil w5 _ _ _) (fun k hk => by cases hk))
        clear HVr HV5 hc1
        try clear hc2
        go_loopw [12, 13, 14] (fun cv lv iv wr => ∃ (t : Nat) (CS : List Int) (LT : Int), t ≤ 12 ∧ (t ≤ nl ∨ t = 0) ∧ iv = .int .i64 (t : Int) ∧ lv = .int .u64 LT ∧ 0 ≤ LT ∧ LT ≤ (t : Int) * 200000 ∧ CS.length ≤ t ∧ Cuts K LT CS ∧ Have w wr [ownK w.heap.size 22 1 cv CS.length (CS.map (Value.int .u64)), stT p F c (stsOf c (upsR c 0 qs 0 60)), boxT g1 24 #[.int .i64 c.bt, .int .i64 c.rw, .int .i64 c.wd, .int .i64 c.md, .int .u64 c.sd], boxT w.heap.size 63 #[.int .i64 x.bt, .int .i64 x.rw, .int .i64 x.wd, .int .i64 x.md, .int .u64 x.sd, .slice A n0 k0]]) (fun _ _ iv _ => 20 - (intOf iv).toNat)
        case atStart => exact ⟨0, [], 0, Nat.zero_le _, .inr rfl, rfl, rfl, Int.le_refl _, by omega, Nat.le_refl _, Cuts.nil K, HV6.out⟩
        case round =>
          obtain ⟨t, CS, LT, hk1, hk2, rfl, rfl, hl0, hlb, hcl, hcs, hv⟩ := hrel
          have HVr := Lib.hid hv
          clear hv
          obtain ⟨-, Ac, capc, rfl⟩ := own_formK (okI HVr.out.i0)
          by_cases hlt : t < nl ∧ t < 12
          · obtain ⟨hj1, hj2⟩ := hlt
            have lt0 : (0 : Int) ≤ (t : Int) := by omega
            have lt1 : (t : Int) < (nl : Int) := by omega
            have lt2 : (t : Int) < 12 := by omega
            obtain ⟨v, hv⟩ : ∃ v, zs[t]? = some v := ⟨_, List.getElem?_eq_getElem (by rw [HLZ.out]; exact hj1)⟩
            have hvb := HZ.out v (List.mem_of_getElem? hv)
            obtain ⟨ad, rfl, hcv⟩ := HRB.out _ _ hv
            have d1 := cell_up hcv HVr.out.below
            obtain ⟨Q, Q1, R2, L1, L2, ⟨n1, n2, n3, n4, n5⟩, ⟨m1, m2, m3⟩, ⟨o1, o2⟩, hlt2, hL1, hL2⟩ := cut_nums (K := K) (LT := LT) (v := v) HKB.out.1 HKB.out.2 hl0 (by omega) hvb.1
            have HL2 := Lib.hid (And.intro hlt2 (And.intro hL1 hL2))
            have HBND := Lib.hid (And.intro hl0 hlb)
            have HT2 : Hid (t + 1 ≤ 12 ∧ t + 1 ≤ nl) := Lib.hid (by omega)
            have HC := Lib.hid hcs
            have hc12 : CS.length ≤ 12 := by omega
            have HLEN : Hid (CS.length ≤ t) := Lib.hid hcl
            clear hv hcv hvb hlt2 hL1 hL2 hl0 hlb hcs hcl hk1 hk2
            by_cases hlk : L2 < K
            · have e0 : decide (L2 < K) = true := decide_eq_true hlk
              have HLK := Lib.hid hlk
              go_wp2_with (at_builtin; go_must (refine wpList_append_lies _ rfl _ _ 66 rfl w.heap.size 22 j0 (.int .u64 0) 1 8 u64s_u j_ jz0 jz1 jz2 rfl (by decide) _ _ _ rfl ((okI HVr.out.i0).alloc _) ⟨_, 0, none⟩ 1 1 [.int .u64 L2] rfl rfl (World.news_of_block (heap_alloc_new wr _)) (one_u64 _) (by decide) (by unfold maxLen; omega) (by omega) (by simp; have := HVr.out.below.size; omega) _ rfl ?_); intro g8 cap8 w8 hown8 hgrow8 hat8 hlt8)
              have HVa := Lib.hid (HVr.out.up (Lw.below_alloc (Below.refl _ wr) (.cells #[.int .u64 L2] 22)))
              have HV8 := Lib.hid (turn0K HVa.out hown8 hgrow8 hat8)
              have HCM : Hid ((CS ++ [L2]).map (Value.int .u64) = CS.map (Value.int .u64) ++ [.int .u64 L2]) := Lib.hid (by simp)
              have HCL : Hid ((CS ++ [L2]).length = CS.length + 1) := Lib.hid (by simp)
              go_roundw
              case rel => exact ⟨t + 1, CS ++ [L2], L2, HT2.out.1, .inl HT2.out.2, by go_num, rfl, by have := HL2.out; omega, by have h5 := HL2.out.2.2; have h6 := HBND.out.2; omega, by rw [HCL.out]; have := HLEN.out; omega, HC.out.snoc HL2.out.1 HL2.out.2.1 HLK.out, by rw [HCM.out, HCL.out]; exact HV8.out.up (by repeat' (first | (with_reducible first | exact Below.refl _ _ | assumption | refine below_over ?_ _ _ | refine Lw.below_alloc ?_ _ | refine Below.drew ?_ | refine below_drewN ?_ _ | refine Below.setCell ?_ ?_ _) | go_size))⟩
              case measure => simp [intOf]; omega
            · have e0 : decide (L2 < K) = false := decide_eq_false hlk
              go_wp2
              go_roundw
              case rel => exact ⟨t + 1, CS, L2, HT2.out.1, .inl HT2.out.2, by go_num, rfl, by have := HL2.out; omega, by have h5 := HL2.out.2.2; have h6 := HBND.out.2; omega, by have := HLEN.out; omega, HC.out.more (by have := HL2.out.1; omega), HVr.out.up (by repeat' (first | (with_reducible first | exact Below.refl _ _ | assumption | refine below_over ?_ _ _ | refine Lw.below_alloc ?_ _ | refine Below.drew ?_ | refine below_drewN ?_ _ | refine Below.setCell ?_ ?_ _) | go_size))⟩
              case measure => simp [intOf]; omega
          · have hcases : ((t : Int) < (nl : Int) ∧ ¬ (t : Int) < 12) ∨ ¬ (t : Int) < (nl : Int) := by omega
            have HCX := Lib.hid hcs
            have hcn : CS.length ≤ 12 := by omega
            obtain ⟨hrdc, hnc9⟩ := own_rdz (okI HVr.out.i0)
            have hhs := HSP.out LT CS HCX.out
            have CH0 := Lib.hid (fun w9 hs hr9 => sm_histo p F c (stsOf c (upsR c 0 qs 0 60)) Ac CS.length capc CS w9 hs hnc9 hr9 rfl (fun v hv => by have := (of_decide_eq_true HCX.out.2.1) v hv; have := HKB.out; omega) (by omega) hs.2.1)
            rw [hhs.1, hhs.2] at CH0
            obtain ⟨HL_, hHL⟩ : ∃ l, (spansQ K CS).map (fun s => bt s.1 s.2 (upsR c 0 qs 0 60)) = l := ⟨_, rfl⟩
            rw [hHL] at CH0
            have HHL := Lib.hid hHL
            have HHN7 : Hid (HL_.length = CS.length + 1) := Lib.hid (by rw [← hHL, List.length_map, spansQ_len])
            obtain ⟨wh, hwh⟩ : ∃ wh, wh = wr := ⟨_, rfl⟩
            rw [← hwh] at HVr hrdc ⊢
            have HRDC := Lib.hid hrdc
            clear hwh hhs hrdc hnc9 hHL hcs hcl hl0 hlb hk1 hk2 hlt
            have w9 : wrap64 ((CS.length : Int) + 1) = ((CS.length + 1 : Nat) : Int) := by rw [IntWalk.wrap64_in _ ⟨by omega, by omega⟩]; omega
            rcases hcases with ⟨hc1, hc2⟩ | hc1
            all_goals as_aux_lemma =>
              go_upto_region 23 with (go_at_call 31; (with_reducible refine (CH0.out _ (stI HVr.out.i1) HRDC.out).mono ?_); rintro e w7 ⟨A7, n7, cap7, rfl, ho7, hl7, hb⟩; obtain rfl : HL_.length = n7 := hl7; have HV7 := Lib.hid (HVr.out.push (ownK wh.heap.size 2 1 (.slice A7 HL_.length cap7) HL_.length (HL_.map (Value.int .i64))) hb ho7 (fun k hk => own_ge ho7 k hk)); clear ho7 hb)
              have hh7 := HHN7.out
              obtain ⟨CN, hCN⟩ : ∃ n, CS.length = n := ⟨_, rfl⟩
              rw [hh7, hCN] at HV7 ⊢
              rw [hCN] at hcn w9
              have HCN := Lib.hid hCN
              clear hh7 hCN
              go_wp2
              go_loopw [17, 18, 19] (fun sv fv iv wr => ∃ (i : Nat) (FV SV : Int), i ≤ CN + 1 ∧ iv = .int .i64 (i : Int) ∧ fv = .int .u64 FV ∧ sv = .int .i64 SV ∧ (i ≤ CN → FV = loQ CS i) ∧ (i = CN + 1 → FV = K) ∧ SV = bt 0 (FV - 1) (upsR c 0 qs 0 60) ∧ 0 ≤ FV ∧ Have w wr [ownK wh.heap.size 2 1 (.slice A7 (CN + 1) cap7) (CN + 1) (HL_.map (Value.int .i64)), ownK w.heap.size 22 1 (.slice Ac CN capc) CN (CS.map (Value.int .u64)), stT p F c (stsOf c (upsR c 0 qs 0 60)), boxT g1 24 #[.int .i64 c.bt, .int .i64 c.rw, .int .i64 c.wd, .int .i64 c.md, .int .u64 c.sd], boxT w.heap.size 63 #[.int .i64 x.bt, .int .i64 x.rw, .int .i64 x.wd, .int .i64 x.md, .int .u64 x.sd, .slice A n0 k0]]) (fun _ _ iv _ => CN + 1 - (intOf iv).toNat)
              case atStart => exact ⟨0, 0, 0, Nat.zero_le _, rfl, rfl, rfl, fun _ => (loQ_zero CS).symm, fun h => by omega, (bt_none (by omega) _).symm, Int.le_refl _, HV7.out⟩
              case round =>
                obtain ⟨i, FV, SV, hi, rfl, rfl, rfl, hfv, hfk, hsv, hf0, hv⟩ := hrel
                have HVu := Lib.hid hv
                clear hv
                by_cases hle : i ≤ CN
                · have le0 : (0 : Int) ≤ (i : Int) := by omega
                  have le1 : (i : Int) < (CN : Int) + 1 := by omega
                  have hfe := hfv hle
                  have hsi := span_in (K := K) HKB.out.1 HCX.out.2.1 HCX.out.1 (i := i) (by rw [HCN.out]; exact hle)
                  have hsq := spansQ_at (K := K) (l := CS) (i := i) (by rw [HCN.out]; exact hle)
                  rw [← hfe] at hsi hsq
                  have hhv : HL_[i]? = some (bt FV (hiQ K CS i) (upsR c 0 qs 0 60)) := by rw [← HHL.out, List.getElem?_map, hsq]; rfl
                  have wK : IntKind.u64.wrap (K - 1) = K - 1 := by rw [IntKind.wrap_u64]; have := HKB.out; omega
                  clear hsq hle hfk
                  by_cases hlx : i < CN
                  · as_aux_lemma =>
                      obtain ⟨x, hx⟩ : ∃ x, CS[i]? = some x := ⟨_, List.getElem?_eq_getElem (by rw [HCN.out]; exact hlx)⟩
                      have hxb := HCX.out.at hx
                      obtain ⟨ad, rfl, d1⟩ := (own_rd1 (okI HVu.out.i1)) _ _ hx
                      have hhi := hiQ_at (K := K) hx
                      have HLO := Lib.hid (loQ_next hx)
                      obtain ⟨XM, hXM⟩ : ∃ v, x - 1 = v := ⟨_, rfl⟩
                      have wx : IntKind.u64.wrap (x - 1) = XM := by rw [← hXM, IntKind.wrap_u64]; have := HKB.out; omega
                      have wx2 : IntKind.u64.wrap (XM + 1) = x := by rw [← hXM, IntKind.wrap_u64]; have := HKB.out; omega
                      have lx : (i : Int) < (CN : Int) := by omega
                      obtain ⟨X2, hX2⟩ : ∃ v, x = v := ⟨_, rfl⟩
                      rw [hhi, hXM] at hhv hsi
                      obtain ⟨VV, hVV⟩ : ∃ v, bt FV XM (upsR c 0 qs 0 60) = v := ⟨_, rfl⟩
                      have hvb := HBD.out FV XM
                      have hsb := HBD.out 0 (FV - 1)
                      have htb := HBD.out 0 XM
                      have hadd := bt_add (lo := 0) (m := FV - 1) (hi := XM) (by omega) (by omega) (upsR c 0 qs 0 60)
                      rw [Int.sub_add_cancel] at hadd
                      rw [← hsv] at hadd hsb
                      rw [hVV] at hadd hvb hhv
                      have CBT := Lib.hid (fun w hq => CB.out FV XM w hq (by omega) (by have := HKB.out; omega) (by omega) (by have := HKB.out; omega))
                      rw [hVV] at CBT
                      have HHV := Lib.hid hhv
                      obtain ⟨ae, rfl, d2⟩ := (own_rd1 (okI HVu.out.i0)) _ _ hhv
                      obtain ⟨SW, hSW⟩ : ∃ v, bt 0 XM (upsR c 0 qs 0 60) = v := ⟨_, rfl⟩
                      rw [hSW] at hadd htb
                      have ws : wrap64 (SV + VV) = SW := by rw [IntWalk.wrap64_in _ ⟨by omega, by omega⟩]; omega
                      have ws2 : IntKind.i64.wrap (SV + VV) = SW := by rw [IntWalk.i64_in _ ⟨by omega, by omega⟩]; omega
                      have HSW : Hid (SW = bt 0 (X2 - 1) (upsR c 0 qs 0 60)) := Lib.hid (by rw [← hSW, ← hX2, hXM])
                      have HX2 := Lib.hid hX2
                      have HX20 : Hid (0 ≤ X2) := Lib.hid (by have := HKB.out; omega)
                      obtain ⟨e1, e2, e3, e4, e5⟩ := box5 HVu.out.i3
                      obtain ⟨_, _, _, _, _, c0⟩ := box6 HVu.out.i4
                      clear hfv hsi hhv hVV hvb hsb htb hadd hSW hhi hXM hsv hx hxb hfe hf0
                      rw [hX2] at wx2
                      clear hX2
                      go_upto_region 33 with fail
                      go_region_held3 (fun w' => w'.cell? (ae.add i) = some (.int .i64 VV) ∧ w'.cell? ⟨g1, 0, none⟩ = some (.int .i64 c.bt) ∧ w'.cell? ⟨g1, 1, none⟩ = some (.int .i64 c.rw) ∧ w'.cell? ⟨g1, 2, none⟩ = some (.int .i64 c.wd) ∧ w'.cell? ⟨g1, 3, none⟩ = some (.int .i64 c.md) ∧ w'.cell? ⟨g1, 4, none⟩ = some (.int .u64 c.sd) ∧ w'.cell? ⟨w.heap.size, 5, none⟩ = some (.slice A n0 k0)) (first | (refine ⟨?_, ?_, ?_, ?_, ?_, ?_, ?_⟩ <;> (first | (with_reducible assumption) | (with_reducible refine cell_up d2 ?_) | (with_reducible refine cell_up e1 ?_) | (with_reducible refine cell_up e2 ?_) | (with_reducible refine cell_up e3 ?_) | (with_reducible refine cell_up e4 ?_) | (with_reducible refine cell_up e5 ?_) | (with_reducible refine cell_up c0 ?_)) <;> (repeat' (first | (with_reducible first | exact Below.refl _ _ | assumption | refine below_over ?_ _ _ | refine Lw.below_alloc ?_ _ | refine Below.drew ?_ | refine below_drewN ?_ _ | refine Below.setCell ?_ ?_ _) | go_size)))) (first | (go_at_call 42; (with_reducible refine (CBT.out _ (HQ.out.up (HVu.out.up (by repeat' (first | (with_reducible first | exact Below.refl _ _ | assumption | refine below_over ?_ _ _ | refine Lw.below_alloc ?_ _ | refine Below.drew ?_ | refine below_drewN ?_ _ | refine Below.setCell ?_ ?_ _) | go_size))).below)).mono ?_); rintro e w8 ⟨rfl, hb⟩; have HV8 := Lib.hid ((HVu.out.up (by repeat' (first | (with_reducible first | exact Below.refl _ _ | assumption | refine below_over ?_ _ _ | refine Lw.below_alloc ?_ _ | refine Below.drew ?_ | refine below_drewN ?_ _ | refine Below.setCell ?_ ?_ _) | go_size))).up hb); clear d2 e1 e2 e3 e4 e5 c0; obtain ⟨e1, e2, e3, e4, e5⟩ := box5 HV8.out.i3; obtain ⟨_, _, _, _, _, c0⟩ := box6 HV8.out.i4; have d2 := (own_rd1 (okI HV8.out.i0)).at HHV.out; clear hb))
                      all_goals go_wp2
                      all_goals go_roundw
                      all_goals first
                        | exact ⟨i + 1, X2, SW, by omega, by go_num, rfl, rfl, fun _ => (by rw [← HX2.out]; exact HLO.out.symm), fun h => by omega, HSW.out, HX20.out, HV8.out⟩
                        | exact ⟨i + 1, X2, SW, by omega, by go_num, rfl, rfl, fun _ => (by rw [← HX2.out]; exact HLO.out.symm), fun h => by omega, HSW.out, HX20.out, HV8.out.up (by repeat' (first | (with_reducible first | exact Below.refl _ _ | assumption | refine below_over ?_ _ _ | refine Lw.below_alloc ?_ _ | refine Below.drew ?_ | refine below_drewN ?_ _ | refine Below.setCell ?_ ?_ _) | go_size))⟩
                        | (simp [intOf]; omega)
                  · as_aux_lemma =>
                      have hhi : hiQ K CS i = K - 1 := by have h9 := hiQ_last K CS; rw [HCN.out] at h9; rw [show i = CN by omega]; exact h9
                      obtain ⟨XM, hXM⟩ : ∃ v, K - 1 = v := ⟨_, rfl⟩
                      have wx : IntKind.u64.wrap (K - 1) = XM := wK.trans hXM
                      have wx2 : IntKind.u64.wrap (XM + 1) = K := by rw [← hXM, IntKind.wrap_u64]; have := HKB.out; omega
                      have lx : ¬ (i : Int) < (CN : Int) := by omega
                      obtain ⟨X2, hX2⟩ : ∃ v, K = v := ⟨_, rfl⟩
                      rw [hhi, hXM] at hhv hsi
                      obtain ⟨VV, hVV⟩ : ∃ v, bt FV XM (upsR c 0 qs 0 60) = v := ⟨_, rfl⟩
                      have hvb := HBD.out FV XM
                      have hsb := HBD.out 0 (FV - 1)
                      have htb := HBD.out 0 XM
                      have hadd := bt_add (lo := 0) (m := FV - 1) (hi := XM) (by omega) (by omega) (upsR c 0 qs 0 60)
                      rw [Int.sub_add_cancel] at hadd
                      rw [← hsv] at hadd hsb
                      rw [hVV] at hadd hvb hhv
                      have CBT := Lib.hid (fun w hq => CB.out FV XM w hq (by omega) (by have := HKB.out; omega) (by omega) (by have := HKB.out; omega))
                      rw [hVV] at CBT
                      have HHV := Lib.hid hhv
                      obtain ⟨ae, rfl, d2⟩ := (own_rd1 (okI HVu.out.i0)) _ _ hhv
                      obtain ⟨SW, hSW⟩ : ∃ v, bt 0 XM (upsR c 0 qs 0 60) = v := ⟨_, rfl⟩
                      rw [hSW] at hadd htb
                      have ws : wrap64 (SV + VV) = SW := by rw [IntWalk.wrap64_in _ ⟨by omega, by omega⟩]; omega
                      have ws2 : IntKind.i64.wrap (SV + VV) = SW := by rw [IntWalk.i64_in _ ⟨by omega, by omega⟩]; omega
                      have HSW : Hid (SW = bt 0 (X2 - 1) (upsR c 0 qs 0 60)) := Lib.hid (by rw [← hSW, ← hX2, hXM])
                      have HX2 := Lib.hid hX2
                      have HX20 : Hid (0 ≤ X2) := Lib.hid (by have := HKB.out; omega)
                      obtain ⟨e1, e2, e3, e4, e5⟩ := box5 HVu.out.i3
                      obtain ⟨_, _, _, _, _, c0⟩ := box6 HVu.out.i4
                      clear hfv hsi hhv hVV hvb hsb htb hadd hSW hhi hXM hsv wK hfe hf0
                      rw [hX2] at wx2
                      clear hX2
                      go_upto_region 33 with fail
                      go_region_held3 (fun w' => w'.cell? (ae.add i) = some (.int .i64 VV) ∧ w'.cell? ⟨g1, 0, none⟩ = some (.int .i64 c.bt) ∧ w'.cell? ⟨g1, 1, none⟩ = some (.int .i64 c.rw) ∧ w'.cell? ⟨g1, 2, none⟩ = some (.int .i64 c.wd) ∧ w'.cell? ⟨g1, 3, none⟩ = some (.int .i64 c.md) ∧ w'.cell? ⟨g1, 4, none⟩ = some (.int .u64 c.sd) ∧ w'.cell? ⟨w.heap.size, 5, none⟩ = some (.slice A n0 k0)) (first | (refine ⟨?_, ?_, ?_, ?_, ?_, ?_, ?_⟩ <;> (first | (with_reducible assumption) | (with_reducible refine cell_up d2 ?_) | (with_reducible refine cell_up e1 ?_) | (with_reducible refine cell_up e2 ?_) | (with_reducible refine cell_up e3 ?_) | (with_reducible refine cell_up e4 ?_) | (with_reducible refine cell_up e5 ?_) | (with_reducible refine cell_up c0 ?_)) <;> (repeat' (first | (with_reducible first | exact Below.refl _ _ | assumption | refine below_over ?_ _ _ | refine Lw.below_alloc ?_ _ | refine Below.drew ?_ | refine below_drewN ?_ _ | refine Below.setCell ?_ ?_ _) | go_size)))) (first | (go_at_call 42; (with_reducible refine (CBT.out _ (HQ.out.up (HVu.out.up (by repeat' (first | (with_reducible first | exact Below.refl _ _ | assumption | refine below_over ?_ _ _ | refine Lw.below_alloc ?_ _ | refine Below.drew ?_ | refine below_drewN ?_ _ | refine Below.setCell ?_ ?_ _) | go_size))).below)).mono ?_); rintro e w8 ⟨rfl, hb⟩; have HV8 := Lib.hid ((HVu.out.up (by repeat' (first | (with_reducible first | exact Below.refl _ _ | assumption | refine below_over ?_ _ _ | refine Lw.below_alloc ?_ _ | refine Below.drew ?_ | refine below_drewN ?_ _ | refine Below.setCell ?_ ?_ _) | go_size))).up hb); clear d2 e1 e2 e3 e4 e5 c0; obtain ⟨e1, e2, e3, e4, e5⟩ := box5 HV8.out.i3; obtain ⟨_, _, _, _, _, c0⟩ := box6 HV8.out.i4; have d2 := (own_rd1 (okI HV8.out.i0)).at HHV.out; clear hb))
                      all_goals go_wp2
                      all_goals go_roundw
                      all_goals first
                        | exact ⟨i + 1, X2, SW, by omega, by go_num, rfl, rfl, fun h => by omega, fun _ => HX2.out.symm, HSW.out, HX20.out, HV8.out⟩
                        | exact ⟨i + 1, X2, SW, by omega, by go_num, rfl, rfl, fun h => by omega, fun _ => HX2.out.symm, HSW.out, HX20.out, HV8.out.up (by repeat' (first | (with_reducible first | exact Below.refl _ _ | assumption | refine below_over ?_ _ _ | refine Lw.below_alloc ?_ _ | refine Below.drew ?_ | refine below_drewN ?_ _ | refine Below.setCell ?_ ?_ _) | go_size))⟩
                        | (simp [intOf]; omega)
                · have le1 : ¬ (i : Int) < (CN : Int) + 1 := by omega
                  obtain rfl : FV = K := hfk (by omega)
                  obtain ⟨TT, hTT⟩ : ∃ v, bt 0 (FV - 1) (upsR c 0 qs 0 60) = v := ⟨_, rfl⟩
                  rw [hTT] at hsv CT0
                  subst hsv
                  clear hTT hfv hfk hf0
                  go_wp2_with (go_at_call 38; (with_reducible refine (CT0.out p F _ (stI HVu.out.i2)).mono ?_); rintro e w9 ⟨rfl, hb⟩; have HV9 := Lib.hid (HVu.out.up hb); clear hb)
                  go_ret
                  exact ⟨ret_bs (by first | rfl | (simp [*]; done)), HV9.out.below⟩
namespace summaryExact
open Go.ChangeShapes Go.WideShapes Go.ChangeAt Go.Joins
set_option maxRecDepth 100000 in
theorem lifted (os : Os) (started : os.Started) (H : Type) (enc : TypeId × Value → H) :
    ReturnsInHanded {} Tryz.checked os 9 .any (Rows.summaryExactSpec.pre6 enc Tryz.prog Tryz.f9 Rows.summaryExactRow.domain false) (Rows.summaryExactSpec.post enc Tryz.prog Tryz.f9 false true false false) := by
  refine Lw.lifted (C := Tryz.checked) (B := 4) (by kernel_rfl) os started (by kernel_rfl) Tryz.func9
    (ChangeSpec.witness6 (enc := enc) (C := Tryz.checked) false ⟨#[], #[.agg #[.int .i64 0, .int .i64 0, .int .i64 0, .int .i64 0, .int .u64 0, .slice none 0 0], .slice none 0 0], []⟩ 8 (by kernel_rfl) (by kernel_rfl) (by kernel_rfl) (by kernel_rfl)) rfl Tryz.underlying4 (by kernel_rfl) (by kernel_rfl) (by kernel_rfl) ?_ ?_
  · intro ds h
    rw [Tryz.params9] at h
    match ds, h with
    | [_, _], _ => rfl
  · intro W base args ds p hval hA
    rw [Tryz.params9] at hA hval
    obtain ⟨v0, vs0, d0, ds0, p0, q0, hargs, rfl, rfl, h0, r0⟩ := trodAll_cons hA
    obtain ⟨v1, vs1, d1, ds1, p1, q1, rfl, rfl, rfl, h1, r1⟩ := trodAll_cons r0
    obtain ⟨rfl, rfl, rfl⟩ := trodAll_nil r1
    obtain rfl : args = #[v0, v1] := by cases args; simp_all
    obtain ⟨x0, A0, n0, k0, qs0, rfl, hx0, hq0⟩ := open_playX (hval 0 63 v0 rfl rfl) h0
    obtain ⟨A1, n1, c1, zs1, rfl, hA1, hn1, hc1, hr1, hl1, hz1⟩ := open_list_uint64 (hval 1 66 v1 rfl rfl) h1
    exact exact_law x0 A0 n0 k0 qs0 A1 n1 c1 zs1 W hx0 hq0 hA1 hn1 hc1 hr1 hl1 hz1
theorem over : Rows.summaryExactRow.holds Tryz.pinned (OpenSpec.ofChange Rows.summaryExactSpec) :=
  OpenClaim.holds_of_wide 9 Tryz.f9 rfl rfl rfl rfl rfl rfl rfl ⟨rfl, rfl, rfl, rfl, rfl⟩ rfl rfl rfl rfl rfl (by kernel_rfl) Tryz.func9 (by kernel_rfl)
    (of_decide_eq_true (by kernel_rfl)) (by unfold Func.isWrapper; first | (rw [if_pos (by decide +kernel)]; kernel_rfl) | (rw [if_neg (by decide +kernel)]; exact ⟨rfl, rfl⟩))
    (fun os started H enc _ => lifted os started H enc)
theorem proved : Rows.SummaryExactSaid :=
  over
#print axioms proved
end summaryExact
end Go.Proofs.YtkflggojiiebeaaGreat.Smr
