/- The statement QuantExact of layer 17 holds. Printed by wip/gen/qnt4.py. -/
import Derived.Test.YtiblpdjehknbcaaGreatMd
import Derived.Test.YtiblpdjehknbcaaGreatMk
import Derived.Test.YtiblpdjehknbcaaGreatMl
import Derived.Test.YtiblpdjehknbcaaGreatMm
import Derived.Deep.LoopGhost
import Derived.Deep.RegionHeld3
import Derived.Deep.DeepCutAuto
import Derived.Deep.QuietTactic
import Derived.BigQuiet
namespace Go.Proofs.YtiblpdjehknbcaaGreat.Qnt
open Go Go.RowKit Lw Grd Lin Con Shp Sk Exa Lev Stk Pcs Spn
set_option linter.unusedVariables false
set_option linter.unusedSimpArgs false
theorem wide_exact {c : Cfg} (hr : IsRight c) (hw : c.wd = 2 ^ c.bt.toNat) {n : Nat} (hn : (n : Int) ≤ c.bt) : exactB c n = true := by
  have e : keys c n = 2 ^ (c.bt - n).toNat := keys_yes hr (by omega) hn
  have h1 : 2 ^ (c.bt - n).toNat ≤ 2 ^ c.bt.toNat := Nat.pow_le_pow_right (by omega) (by omega)
  have h2 := Nat.two_pow_pos (c.bt - n).toNat
  have e1 : ((2 ^ (c.bt - n).toNat : Nat) : Int) = 2 ^ (c.bt - n).toNat := by simp
  have e2 : ((2 ^ c.bt.toNat : Nat) : Int) = 2 ^ c.bt.toNat := by simp
  refine decide_eq_true ?_
  rw [e, hw]
  omega
theorem pow7 {n : Nat} (h : n ≤ 7) : 1 ≤ (2 : Int) ^ n ∧ (2 : Int) ^ n ≤ 128 := by
  have h1 : 2 ^ n ≤ 2 ^ 7 := Nat.pow_le_pow_right (by omega) h
  have h2 := Nat.two_pow_pos n
  have e : ((2 ^ n : Nat) : Int) = 2 ^ n := by simp
  omega
set_option maxRecDepth 100000 in
set_option maxHeartbeats 40000000 in
theorem exact_n (x : Cfg) (A : Option Addr) (n0 k0 : Nat) (qs : Ups) (a : Int) (w : World) (hx : x.Ok) (hq : UpdV w A n0 k0 qs) (hpl : plainB (upsR { anyC x 7 9 with wd := 2 ^ (anyC x 7 9).bt.toNat } 0 qs 0 60) = false) :
    Calls Tryz.prog 6 #[.agg #[.int .i64 x.bt, .int .i64 x.rw, .int .i64 x.wd, .int .i64 x.md, .int .u64 x.sd, .slice A n0 k0], .int .i64 a] w fun e w' => e = .returned (.bool true) ∧ Below w.heap.size w w' := by
  have hr0 := any_right x 7 9 (by omega) (by omega) (by omega) (by omega)
  have hco0 := any_ok x hx 7 9 (by omega) (by omega) (by omega) (by omega)
  have hb7 : (anyC x 7 9).bt ≤ 7 := by
    have h2 := Int.emod_lt_of_pos (x.bt % 65536) (show (0 : Int) < 7 by omega)
    show 1 + x.bt % 65536 % 7 ≤ 7
    omega
  obtain ⟨C, hCC⟩ : ∃ C, anyC x 7 9 = C := ⟨_, rfl⟩
  have CA := Lib.hid (fun w => rany_at x 7 9 C w hx (by omega) (by omega) (by omega) (by omega) hCC)
  rw [hCC] at hr0 hco0 hb7
  have hp7 := pow7 (n := C.bt.toNat) (by omega)
  obtain ⟨c, hC⟩ : ∃ c, { C with wd := 2 ^ C.bt.toNat } = c := ⟨_, rfl⟩
  have h1 : C.bt = c.bt ∧ C.rw = c.rw ∧ C.md = c.md ∧ C.sd = c.sd ∧ c.wd = 2 ^ c.bt.toNat := by rw [← hC]; exact ⟨rfl, rfl, rfl, rfl, rfl⟩
  have hr : IsRight c := by rw [← hC]; exact ⟨hr0.1, hr0.2.1, hr0.2.2.1, hr0.2.2.2.1, hp7.1, hp7.2, hr0.2.2.2.2.2.2⟩
  have hco : c.Ok := by rw [← hC]; exact ⟨hco0.b0, hco0.b1, hco0.r0, hco0.r1, by show -9223372036854775808 ≤ (2 : Int) ^ C.bt.toNat; omega, by show (2 : Int) ^ C.bt.toNat ≤ 9223372036854775807; omega, hco0.m0, hco0.m1, hco0.s0, hco0.s1⟩
  rw [h1.1, h1.2.1, h1.2.2.1, h1.2.2.2.1] at CA
  obtain ⟨WD, hWD⟩ : ∃ v, C.wd = v := ⟨_, rfl⟩
  rw [hWD] at CA
  have hbt := hr.1
  have hb7' : c.bt ≤ 7 := by rw [← h1.1]; exact hb7
  have hwd := h1.2.2.2.2
  have hwb : 1 ≤ c.wd ∧ c.wd ≤ 128 := ⟨hr.2.2.2.2.1, hr.2.2.2.2.2.1⟩
  have hux : IntKind.u64.wrap c.bt = c.bt := by rw [IntKind.wrap_u64]; omega
  have hsh : IntKind.i64.wrap (2 ^ min c.bt.toNat 64) = c.wd := by
    rw [Nat.min_eq_left (by omega), ← hwd]
    exact IntWalk.i64_in _ ⟨by omega, by omega⟩
  have hsh2 : wrap64 (2 ^ c.bt.toNat) = c.wd := by
    rw [← hwd]
    exact IntWalk.wrap64_in _ ⟨by omega, by omega⟩
  have hkeys : 1 ≤ keys c 0 := keys_pos.2 ⟨hr, by omega, by omega⟩
  have hkk := keys_bd c 0
  have hul := upsR_len c 0 qs 0 60
  have hui := upsR_in hkeys qs 0 60
  have CNW := Lib.hid (fun w => cs_new c w hco hr)
  have CK := Lib.hid (fun w => rkeys_any c 0 w hco (by omega) (by omega))
  have CB := Lib.hid (fun lo hi w hq l0 l1 i0 i1 => rbtw_any c A n0 k0 qs lo hi w hco hkeys hq l0 l1 i0 i1)
  have CC0 := Lib.hid (fun w k d h0 h1 h2 h3 => rcut15_any c k d w hco h0 h1 h2 h3 hkeys)
  have CPL := Lib.hid (fun w hq => rplain_any c A n0 k0 qs w hco hkeys hq)
  have CT0 := Lib.hid (fun p F w hs => cs_total p F c (stsOf c (upsR c 0 qs 0 60)) w hs)
  rw [hCC, hC] at hpl
  rw [hpl] at CPL
  have etop := has_all hr (upsR c 0 qs 0 60)
  have htop := ptU_top hr (upsR c 0 qs 0 60)
  have htb := ptU_bd hr hui hul (L := c.bt.toNat) (i := 0) (Nat.le_refl _) (by rw [Nat.sub_self]; decide)
  have htb2 : ptU c (upsR c 0 qs 0 60) c.bt.toNat 0 ≤ 65970697666560 := htb.2
  obtain ⟨TV, hTV⟩ : ∃ v, ptU c (upsR c 0 qs 0 60) c.bt.toNat 0 = v := ⟨_, rfl⟩
  rw [etop, hTV] at CT0
  rw [hTV] at htb2 htop
  obtain ⟨Z, hZ⟩ : ∃ Z, stsOf c [] = Z := ⟨_, rfl⟩
  rw [hZ] at CNW
  have hst0 : stsOf c (upsR c 0 qs 0 0) = Z := by rw [upsR_zero]; exact hZ
  have HQ := Lib.hid hq
  have HL := Lib.hid hq.len
  have hnc := hq.nc
  have hcm := hq.cm
  unfold maxLen at hcm
  have HR := Lib.hid hr
  have HKY := Lib.hid hkeys
  have HKB := Lib.hid hkk
  have HBX : Hid (Have w (w.alloc (.cells #[.int .i64 x.bt, .int .i64 x.rw, .int .i64 x.wd, .int .i64 x.md, .int .u64 x.sd, .slice A n0 k0] 27)) [boxT w.heap.size 27 #[.int .i64 x.bt, .int .i64 x.rw, .int .i64 x.wd, .int .i64 x.md, .int .u64 x.sd, .slice A n0 k0]]) := Lib.hid (box_new w _ _)
  obtain ⟨K, hK⟩ : ∃ K, keys c 0 = K := ⟨_, rfl⟩
  rw [hK] at CK hkeys hkk
  have HKK := Lib.hid hkk
  have hwd2 := Lib.hid hwd
  clear hC hCC hWD hr0 hco0 hr hco hx hq hul hui hTV hZ hK h1 hp7 hb7 hwd hkeys hkk hwb etop htop htb htb2 hpl
  go_enter Tryz.func6, Tryz.ntmps6
  go_wp2_with (first
    | (go_at_call 9; (with_reducible refine (CNW.out _).mono ?_); rintro e w4 ⟨p, F, rfl, hsk, hfr, hb⟩; have HV4 := Lib.hid (HV3.out.push (stT p F c Z) hb hsk hfr); clear hsk hfr hb)
    | (go_at_call 8; (with_reducible refine (CA.out _).mono ?_); rintro e w2 ⟨rfl, hb⟩; have HV2 := Lib.hid (HV1.out.up hb); clear x0 x1 x2 x3 x4 x5; obtain ⟨x0, x1, x2, x3, x4, x5⟩ := box6 HV2.out.i0; have hl1 := box_lt HV2.out.i0; have HV3 := Lib.hid (HV2.out.push (boxT w2.heap.size 24 #[.int .i64 c.bt, .int .i64 c.rw, .int .i64 c.wd, .int .i64 c.md, .int .u64 c.sd]) (Lw.below_alloc (Below.refl _ _) _) (heap_alloc_new w2 _) (fun k hk => Nat.le_of_eq hk.symm)); clear hb)
    | (go_at_call 7; (with_reducible refine (shown_any _).mono ?_); rintro e w1 ⟨rfl, hb⟩; have HV1 := Lib.hid (HBX.out.up hb); clear hb; obtain ⟨x0, x1, x2, x3, x4, x5⟩ := box6 HV1.out.i0))
  obtain ⟨g1, hg1⟩ : ∃ g1, w2.heap.size = g1 := ⟨_, rfl⟩
  rw [hg1] at HV4 ⊢
  clear hg1 hl1 x0 x1 x2 x3 x4 x5
  go_loopw [9] (fun iv wr => ∃ (k : Nat) (F : Nat → Prop), k ≤ 60 ∧ (k ≤ n0 ∨ k = 0) ∧ iv = .int .i64 k ∧ Have w wr [stT p F c (stsOf c (upsR c 0 qs 0 k)), boxT g1 24 #[.int .i64 c.bt, .int .i64 c.rw, .int .i64 c.wd, .int .i64 c.md, .int .u64 c.sd], boxT w.heap.size 27 #[.int .i64 x.bt, .int .i64 x.rw, .int .i64 x.wd, .int .i64 x.md, .int .u64 x.sd, .slice A n0 k0]]) (fun iv _ => 60 - (intOf iv).toNat)
  case atStart => exact ⟨0, F, Nat.zero_le _, .inr rfl, rfl, by rw [hst0]; exact HV4.out⟩
  case round =>
    obtain ⟨k, F, hk1, hk2, rfl, hv⟩ := hrel
    have HVr := Lib.hid hv
    have hwb := hv.below
    clear hv hst0 hux hsh hsh2 hbt hb7'
    obtain ⟨x0, x1, x2, x3, x4, c0⟩ := box6 HVr.out.i2
    by_cases hlt : k < n0 ∧ k < 60
    · obtain ⟨hj1, hj2⟩ := hlt
      obtain ⟨q, hq1⟩ : ∃ q, qs[k]? = some q := ⟨_, List.getElem?_eq_getElem (by rw [HL.out]; omega)⟩
      have hnx := upsR_next (c := c) (l := 0) hq1 (Nat.zero_le k)
      have hst := stsOf_step HR.out (upsR_in HKY.out qs 0 k) (by have := upsR_len c 0 qs 0 k; omega) (upsIn_cut HKY.out [q])
      have hcu := cutU_ok HKY.out q
      obtain ⟨aa, g, o, rfl, hadd, d1w, d2w, kb, db⟩ := HQ.out.at hq1
      obtain ⟨qk, qd⟩ := q
      simp only at d1w d2w kb db
      have d1 := cell_up d1w hwb
      have d2 := cell_up d2w hwb
      obtain ⟨e1, e2, e3, e4, e5⟩ := box5 HVr.out.i1
      have CC := Lib.hid (fun w => CC0.out w qk qd kb.1 kb.2 db.1 db.2)
      obtain ⟨us, hus⟩ : ∃ us, stsOf c (upsR c 0 qs 0 k) = us := ⟨_, rfl⟩
      obtain ⟨us2, hus2⟩ : ∃ us2, stsOf c (upsR c 0 qs 0 (k + 1)) = us2 := ⟨_, rfl⟩
      rw [hus] at HVr hst
      rw [hnx] at hus2
      rw [hus2] at hst
      have HNX : Hid (stsOf c (upsR c 0 qs 0 (k + 1)) = us2) := Lib.hid (by rw [hnx]; exact hus2)
      obtain ⟨U, hU⟩ : ∃ U, (cutU c 0 (qk, qd)).1 = U := ⟨_, rfl⟩
      obtain ⟨D, hD⟩ : ∃ D, (cutU c 0 (qk, qd)).2 = D := ⟨_, rfl⟩
      rw [hU, hD] at CC hst hcu
      have HST := Lib.hid hst
      have hkk := HKB.out
      have hub : 0 ≤ U ∧ U ≤ 18446744073709551615 := ⟨hcu.1, by have := hcu.2.1; omega⟩
      have hdb : -9223372036854775808 ≤ D ∧ D ≤ 9223372036854775807 := ⟨by have := hcu.2.2.1; omega, by have := hcu.2.2.2.1; omega⟩
      clear hq1 hnx hst hcu hus hus2 hU hD d1w d2w hwb
      go_upto_region 10 with fail
      go_region_held3 (fun w' => w'.cell? ⟨g1, 0, none⟩ = some (.int .i64 c.bt) ∧ w'.cell? ⟨g1, 1, none⟩ = some (.int .i64 c.rw) ∧ w'.cell? ⟨g1, 2, none⟩ = some (.int .i64 c.wd) ∧ w'.cell? ⟨g1, 3, none⟩ = some (.int .i64 c.md) ∧ w'.cell? ⟨g1, 4, none⟩ = some (.int .u64 c.sd) ∧ w'.cell? ⟨w.heap.size, 5, none⟩ = some (.slice (some aa) n0 k0) ∧ w'.cell? ⟨g, o, none⟩ = some (.int .u64 qk) ∧ w'.cell? ⟨g, o + 1, none⟩ = some (.int .i64 qd)) (first | (refine ⟨?_, ?_, ?_, ?_, ?_, ?_, ?_, ?_⟩ <;> (first | (with_reducible assumption) | (with_reducible refine cell_up e1 ?_) | (with_reducible refine cell_up e2 ?_) | (with_reducible refine cell_up e3 ?_) | (with_reducible refine cell_up e4 ?_) | (with_reducible refine cell_up e5 ?_) | (with_reducible refine cell_up c0 ?_) | (with_reducible refine cell_up d1 ?_) | (with_reducible refine cell_up d2 ?_)) <;> repeat' (first | (with_reducible exact Below.refl _ _) | (with_reducible assumption) | (with_reducible refine below_over ?_ _ _) | (with_reducible refine Lw.below_alloc ?_ _) | (with_reducible refine Below.drew ?_) | (with_reducible refine below_drewN ?_ _) | (with_reducible refine Below.setCell ?_ ?_ _) | go_size))) (first | (go_at_call 27; (with_reducible refine (CC.out _).mono ?_); rintro e w' ⟨rfl, hb⟩; obtain ⟨bs, dd, rfl⟩ := below_grow hb; clear hb))
      all_goals go_wp2_with (go_at_call 11; (with_reducible refine (cs_upd p F c us U D _ (stI (HVr.out.up (by repeat' (first | (with_reducible exact Below.refl _ _) | (with_reducible assumption) | (with_reducible refine below_over ?_ _ _) | (with_reducible refine Lw.below_alloc ?_ _) | (with_reducible refine Below.drew ?_) | (with_reducible refine below_drewN ?_ _) | (with_reducible refine Below.setCell ?_ ?_ _) | go_size))).i0) hub.1 hub.2 hdb.1 hdb.2).mono ?_); rintro e w8 ⟨he, F8, hnp, hnk, hnf⟩; rw [HST.out.1] at he; subst he; rw [HST.out.2] at hnp; have HV8 := Lib.hid ((HVr.out.up (by repeat' (first | (with_reducible exact Below.refl _ _) | (with_reducible assumption) | (with_reducible refine below_over ?_ _ _) | (with_reducible refine Lw.below_alloc ?_ _) | (with_reducible refine Below.drew ?_) | (with_reducible refine below_drewN ?_ _) | (with_reducible refine Below.setCell ?_ ?_ _) | go_size))).turn_0 (stT p F8 c us2) hnp hnk hnf); clear hnp hnk hnf)
      all_goals go_roundw
      all_goals first
        | exact ⟨k + 1, F8, by omega, .inl (by omega), by go_num, by rw [HNX.out]; exact HV8.out⟩
        | (simp [intOf]; omega)
    · have hend : upsR c 0 qs 0 k = upsR c 0 qs 0 60 := upsR_end hk1 (by rw [HL.out]; omega)
      rw [hend] at HVr
      obtain ⟨e1, e2, e3, e4, e5⟩ := box5 HVr.out.i1
      have hcases : ((k : Int) < n0 ∧ ¬ (k : Int) < 60) ∨ ¬ (k : Int) < n0 := by omega
      clear hend hk2 hlt hwb
      rcases hcases with ⟨hc1, hc2⟩ | hc1
      all_goals go_wp2_with (first
        | (go_at_call 23; (with_reducible refine (CPL.out _ (HQ.out.up HV5.out.below)).mono ?_); rintro e w6 ⟨rfl, hb⟩; have HV6 := Lib.hid (HV5.out.up hb); clear hb; clear e1 e2 e3 e4 e5 x0 x1 x2 x3 x4 c0; obtain ⟨e1, e2, e3, e4, e5⟩ := box5 HV6.out.i1; obtain ⟨x0, x1, x2, x3, x4, c0⟩ := box6 HV6.out.i2)
        | (go_at_call 28; (with_reducible refine (CT0.out p F _ (stI HVr.out.i0)).mono ?_); rintro e w5 ⟨rfl, hb⟩; have HV5 := Lib.hid (HVr.out.up hb); clear hb; clear e1 e2 e3 e4 e5 x0 x1 x2 x3 x4 c0; obtain ⟨e1, e2, e3, e4, e5⟩ := box5 HV5.out.i1; obtain ⟨x0, x1, x2, x3, x4, c0⟩ := box6 HV5.out.i2))
      all_goals go_ret
      all_goals exact ⟨ret_bs (by first | rfl | (simp [*]; done)), HV6.out.below⟩
set_option maxRecDepth 100000 in
set_option maxHeartbeats 40000000 in
theorem exact_z (x : Cfg) (A : Option Addr) (n0 k0 : Nat) (qs : Ups) (a : Int) (w : World) (hx : x.Ok) (hq : UpdV w A n0 k0 qs) (hpl : plainB (upsR { anyC x 7 9 with wd := 2 ^ (anyC x 7 9).bt.toNat } 0 qs 0 60) = true) (hT : ¬ 1 ≤ spV { anyC x 7 9 with wd := 2 ^ (anyC x 7 9).bt.toNat } (stsOf { anyC x 7 9 with wd := 2 ^ (anyC x 7 9).bt.toNat } (upsR { anyC x 7 9 with wd := 2 ^ (anyC x 7 9).bt.toNat } 0 qs 0 60)) { anyC x 7 9 with wd := 2 ^ (anyC x 7 9).bt.toNat }.bt 0) :
    Calls Tryz.prog 6 #[.agg #[.int .i64 x.bt, .int .i64 x.rw, .int .i64 x.wd, .int .i64 x.md, .int .u64 x.sd, .slice A n0 k0], .int .i64 a] w fun e w' => e = .returned (.bool true) ∧ Below w.heap.size w w' := by
  have hr0 := any_right x 7 9 (by omega) (by omega) (by omega) (by omega)
  have hco0 := any_ok x hx 7 9 (by omega) (by omega) (by omega) (by omega)
  have hb7 : (anyC x 7 9).bt ≤ 7 := by
    have h2 := Int.emod_lt_of_pos (x.bt % 65536) (show (0 : Int) < 7 by omega)
    show 1 + x.bt % 65536 % 7 ≤ 7
    omega
  obtain ⟨C, hCC⟩ : ∃ C, anyC x 7 9 = C := ⟨_, rfl⟩
  have CA := Lib.hid (fun w => rany_at x 7 9 C w hx (by omega) (by omega) (by omega) (by omega) hCC)
  rw [hCC] at hr0 hco0 hb7
  have hp7 := pow7 (n := C.bt.toNat) (by omega)
  obtain ⟨c, hC⟩ : ∃ c, { C with wd := 2 ^ C.bt.toNat } = c := ⟨_, rfl⟩
  have h1 : C.bt = c.bt ∧ C.rw = c.rw ∧ C.md = c.md ∧ C.sd = c.sd ∧ c.wd = 2 ^ c.bt.toNat := by rw [← hC]; exact ⟨rfl, rfl, rfl, rfl, rfl⟩
  have hr : IsRight c := by rw [← hC]; exact ⟨hr0.1, hr0.2.1, hr0.2.2.1, hr0.2.2.2.1, hp7.1, hp7.2, hr0.2.2.2.2.2.2⟩
  have hco : c.Ok := by rw [← hC]; exact ⟨hco0.b0, hco0.b1, hco0.r0, hco0.r1, by show -9223372036854775808 ≤ (2 : Int) ^ C.bt.toNat; omega, by show (2 : Int) ^ C.bt.toNat ≤ 9223372036854775807; omega, hco0.m0, hco0.m1, hco0.s0, hco0.s1⟩
  rw [h1.1, h1.2.1, h1.2.2.1, h1.2.2.2.1] at CA
  obtain ⟨WD, hWD⟩ : ∃ v, C.wd = v := ⟨_, rfl⟩
  rw [hWD] at CA
  have hbt := hr.1
  have hb7' : c.bt ≤ 7 := by rw [← h1.1]; exact hb7
  have hwd := h1.2.2.2.2
  have hwb : 1 ≤ c.wd ∧ c.wd ≤ 128 := ⟨hr.2.2.2.2.1, hr.2.2.2.2.2.1⟩
  have hux : IntKind.u64.wrap c.bt = c.bt := by rw [IntKind.wrap_u64]; omega
  have hsh : IntKind.i64.wrap (2 ^ min c.bt.toNat 64) = c.wd := by
    rw [Nat.min_eq_left (by omega), ← hwd]
    exact IntWalk.i64_in _ ⟨by omega, by omega⟩
  have hsh2 : wrap64 (2 ^ c.bt.toNat) = c.wd := by
    rw [← hwd]
    exact IntWalk.wrap64_in _ ⟨by omega, by omega⟩
  have hkeys : 1 ≤ keys c 0 := keys_pos.2 ⟨hr, by omega, by omega⟩
  have hkk := keys_bd c 0
  have hul := upsR_len c 0 qs 0 60
  have hui := upsR_in hkeys qs 0 60
  have CNW := Lib.hid (fun w => cs_new c w hco hr)
  have CK := Lib.hid (fun w => rkeys_any c 0 w hco (by omega) (by omega))
  have CB := Lib.hid (fun lo hi w hq l0 l1 i0 i1 => rbtw_any c A n0 k0 qs lo hi w hco hkeys hq l0 l1 i0 i1)
  have CC0 := Lib.hid (fun w k d h0 h1 h2 h3 => rcut15_any c k d w hco h0 h1 h2 h3 hkeys)
  have CPL := Lib.hid (fun w hq => rplain_any c A n0 k0 qs w hco hkeys hq)
  have CT0 := Lib.hid (fun p F w hs => cs_total p F c (stsOf c (upsR c 0 qs 0 60)) w hs)
  rw [hCC, hC] at hpl hT
  rw [hpl] at CPL
  have etop := has_all hr (upsR c 0 qs 0 60)
  have htop := ptU_top hr (upsR c 0 qs 0 60)
  have htb := ptU_bd hr hui hul (L := c.bt.toNat) (i := 0) (Nat.le_refl _) (by rw [Nat.sub_self]; decide)
  have htb2 : ptU c (upsR c 0 qs 0 60) c.bt.toNat 0 ≤ 65970697666560 := htb.2
  obtain ⟨TV, hTV⟩ : ∃ v, ptU c (upsR c 0 qs 0 60) c.bt.toNat 0 = v := ⟨_, rfl⟩
  rw [etop, hTV] at CT0
  rw [hTV] at htb2 htop
  rw [etop, hTV] at hT
  have hl1 : TV < 1 := by omega
  have HLT := Lib.hid hl1
  clear hl1
  obtain ⟨Z, hZ⟩ : ∃ Z, stsOf c [] = Z := ⟨_, rfl⟩
  rw [hZ] at CNW
  have hst0 : stsOf c (upsR c 0 qs 0 0) = Z := by rw [upsR_zero]; exact hZ
  have HQ := Lib.hid hq
  have HL := Lib.hid hq.len
  have hnc := hq.nc
  have hcm := hq.cm
  unfold maxLen at hcm
  have HR := Lib.hid hr
  have HKY := Lib.hid hkeys
  have HKB := Lib.hid hkk
  have HBX : Hid (Have w (w.alloc (.cells #[.int .i64 x.bt, .int .i64 x.rw, .int .i64 x.wd, .int .i64 x.md, .int .u64 x.sd, .slice A n0 k0] 27)) [boxT w.heap.size 27 #[.int .i64 x.bt, .int .i64 x.rw, .int .i64 x.wd, .int .i64 x.md, .int .u64 x.sd, .slice A n0 k0]]) := Lib.hid (box_new w _ _)
  obtain ⟨K, hK⟩ : ∃ K, keys c 0 = K := ⟨_, rfl⟩
  rw [hK] at CK hkeys hkk
  have HKK := Lib.hid hkk
  have hwd2 := Lib.hid hwd
  clear hC hCC hWD hr0 hco0 hr hco hx hq hul hui hTV hZ hK h1 hp7 hb7 hwd hkeys hkk hwb etop htop htb htb2 hpl hT
  go_enter Tryz.func6, Tryz.ntmps6
  go_wp2_with (first
    | (go_at_call 9; (with_reducible refine (CNW.out _).mono ?_); rintro e w4 ⟨p, F, rfl, hsk, hfr, hb⟩; have HV4 := Lib.hid (HV3.out.push (stT p F c Z) hb hsk hfr); clear hsk hfr hb)
    | (go_at_call 8; (with_reducible refine (CA.out _).mono ?_); rintro e w2 ⟨rfl, hb⟩; have HV2 := Lib.hid (HV1.out.up hb); clear x0 x1 x2 x3 x4 x5; obtain ⟨x0, x1, x2, x3, x4, x5⟩ := box6 HV2.out.i0; have hl1 := box_lt HV2.out.i0; have HV3 := Lib.hid (HV2.out.push (boxT w2.heap.size 24 #[.int .i64 c.bt, .int .i64 c.rw, .int .i64 c.wd, .int .i64 c.md, .int .u64 c.sd]) (Lw.below_alloc (Below.refl _ _) _) (heap_alloc_new w2 _) (fun k hk => Nat.le_of_eq hk.symm)); clear hb)
    | (go_at_call 7; (with_reducible refine (shown_any _).mono ?_); rintro e w1 ⟨rfl, hb⟩; have HV1 := Lib.hid (HBX.out.up hb); clear hb; obtain ⟨x0, x1, x2, x3, x4, x5⟩ := box6 HV1.out.i0))
  obtain ⟨g1, hg1⟩ : ∃ g1, w2.heap.size = g1 := ⟨_, rfl⟩
  rw [hg1] at HV4 ⊢
  clear hg1 hl1 x0 x1 x2 x3 x4 x5
  go_loopw [9] (fun iv wr => ∃ (k : Nat) (F : Nat → Prop), k ≤ 60 ∧ (k ≤ n0 ∨ k = 0) ∧ iv = .int .i64 k ∧ Have w wr [stT p F c (stsOf c (upsR c 0 qs 0 k)), boxT g1 24 #[.int .i64 c.bt, .int .i64 c.rw, .int .i64 c.wd, .int .i64 c.md, .int .u64 c.sd], boxT w.heap.size 27 #[.int .i64 x.bt, .int .i64 x.rw, .int .i64 x.wd, .int .i64 x.md, .int .u64 x.sd, .slice A n0 k0]]) (fun iv _ => 60 - (intOf iv).toNat)
  case atStart => exact ⟨0, F, Nat.zero_le _, .inr rfl, rfl, by rw [hst0]; exact HV4.out⟩
  case round =>
    obtain ⟨k, F, hk1, hk2, rfl, hv⟩ := hrel
    have HVr := Lib.hid hv
    have hwb := hv.below
    clear hv hst0 hux hsh hsh2 hbt hb7'
    obtain ⟨x0, x1, x2, x3, x4, c0⟩ := box6 HVr.out.i2
    by_cases hlt : k < n0 ∧ k < 60
    · obtain ⟨hj1, hj2⟩ := hlt
      obtain ⟨q, hq1⟩ : ∃ q, qs[k]? = some q := ⟨_, List.getElem?_eq_getElem (by rw [HL.out]; omega)⟩
      have hnx := upsR_next (c := c) (l := 0) hq1 (Nat.zero_le k)
      have hst := stsOf_step HR.out (upsR_in HKY.out qs 0 k) (by have := upsR_len c 0 qs 0 k; omega) (upsIn_cut HKY.out [q])
      have hcu := cutU_ok HKY.out q
      obtain ⟨aa, g, o, rfl, hadd, d1w, d2w, kb, db⟩ := HQ.out.at hq1
      obtain ⟨qk, qd⟩ := q
      simp only at d1w d2w kb db
      have d1 := cell_up d1w hwb
      have d2 := cell_up d2w hwb
      obtain ⟨e1, e2, e3, e4, e5⟩ := box5 HVr.out.i1
      have CC := Lib.hid (fun w => CC0.out w qk qd kb.1 kb.2 db.1 db.2)
      obtain ⟨us, hus⟩ : ∃ us, stsOf c (upsR c 0 qs 0 k) = us := ⟨_, rfl⟩
      obtain ⟨us2, hus2⟩ : ∃ us2, stsOf c (upsR c 0 qs 0 (k + 1)) = us2 := ⟨_, rfl⟩
      rw [hus] at HVr hst
      rw [hnx] at hus2
      rw [hus2] at hst
      have HNX : Hid (stsOf c (upsR c 0 qs 0 (k + 1)) = us2) := Lib.hid (by rw [hnx]; exact hus2)
      obtain ⟨U, hU⟩ : ∃ U, (cutU c 0 (qk, qd)).1 = U := ⟨_, rfl⟩
      obtain ⟨D, hD⟩ : ∃ D, (cutU c 0 (qk, qd)).2 = D := ⟨_, rfl⟩
      rw [hU, hD] at CC hst hcu
      have HST := Lib.hid hst
      have hkk := HKB.out
      have hub : 0 ≤ U ∧ U ≤ 18446744073709551615 := ⟨hcu.1, by have := hcu.2.1; omega⟩
      have hdb : -9223372036854775808 ≤ D ∧ D ≤ 9223372036854775807 := ⟨by have := hcu.2.2.1; omega, by have := hcu.2.2.2.1; omega⟩
      clear hq1 hnx hst hcu hus hus2 hU hD d1w d2w hwb
      go_upto_region 10 with fail
      go_region_held3 (fun w' => w'.cell? ⟨g1, 0, none⟩ = some (.int .i64 c.bt) ∧ w'.cell? ⟨g1, 1, none⟩ = some (.int .i64 c.rw) ∧ w'.cell? ⟨g1, 2, none⟩ = some (.int .i64 c.wd) ∧ w'.cell? ⟨g1, 3, none⟩ = some (.int .i64 c.md) ∧ w'.cell? ⟨g1, 4, none⟩ = some (.int .u64 c.sd) ∧ w'.cell? ⟨w.heap.size, 5, none⟩ = some (.slice (some aa) n0 k0) ∧ w'.cell? ⟨g, o, none⟩ = some (.int .u64 qk) ∧ w'.cell? ⟨g, o + 1, none⟩ = some (.int .i64 qd)) (first | (refine ⟨?_, ?_, ?_, ?_, ?_, ?_, ?_, ?_⟩ <;> (first | (with_reducible assumption) | (with_reducible refine cell_up e1 ?_) | (with_reducible refine cell_up e2 ?_) | (with_reducible refine cell_up e3 ?_) | (with_reducible refine cell_up e4 ?_) | (with_reducible refine cell_up e5 ?_) | (with_reducible refine cell_up c0 ?_) | (with_reducible refine cell_up d1 ?_) | (with_reducible refine cell_up d2 ?_)) <;> repeat' (first | (with_reducible exact Below.refl _ _) | (with_reducible assumption) | (with_reducible refine below_over ?_ _ _) | (with_reducible refine Lw.below_alloc ?_ _) | (with_reducible refine Below.drew ?_) | (with_reducible refine below_drewN ?_ _) | (with_reducible refine Below.setCell ?_ ?_ _) | go_size))) (first | (go_at_call 27; (with_reducible refine (CC.out _).mono ?_); rintro e w' ⟨rfl, hb⟩; obtain ⟨bs, dd, rfl⟩ := below_grow hb; clear hb))
      all_goals go_wp2_with (go_at_call 11; (with_reducible refine (cs_upd p F c us U D _ (stI (HVr.out.up (by repeat' (first | (with_reducible exact Below.refl _ _) | (with_reducible assumption) | (with_reducible refine below_over ?_ _ _) | (with_reducible refine Lw.below_alloc ?_ _) | (with_reducible refine Below.drew ?_) | (with_reducible refine below_drewN ?_ _) | (with_reducible refine Below.setCell ?_ ?_ _) | go_size))).i0) hub.1 hub.2 hdb.1 hdb.2).mono ?_); rintro e w8 ⟨he, F8, hnp, hnk, hnf⟩; rw [HST.out.1] at he; subst he; rw [HST.out.2] at hnp; have HV8 := Lib.hid ((HVr.out.up (by repeat' (first | (with_reducible exact Below.refl _ _) | (with_reducible assumption) | (with_reducible refine below_over ?_ _ _) | (with_reducible refine Lw.below_alloc ?_ _) | (with_reducible refine Below.drew ?_) | (with_reducible refine below_drewN ?_ _) | (with_reducible refine Below.setCell ?_ ?_ _) | go_size))).turn_0 (stT p F8 c us2) hnp hnk hnf); clear hnp hnk hnf)
      all_goals go_roundw
      all_goals first
        | exact ⟨k + 1, F8, by omega, .inl (by omega), by go_num, by rw [HNX.out]; exact HV8.out⟩
        | (simp [intOf]; omega)
    · have hend : upsR c 0 qs 0 k = upsR c 0 qs 0 60 := upsR_end hk1 (by rw [HL.out]; omega)
      rw [hend] at HVr
      obtain ⟨e1, e2, e3, e4, e5⟩ := box5 HVr.out.i1
      have hcases : ((k : Int) < n0 ∧ ¬ (k : Int) < 60) ∨ ¬ (k : Int) < n0 := by omega
      clear hend hk2 hlt hwb
      have hl1 := HLT.out
      rcases hcases with ⟨hc1, hc2⟩ | hc1
      all_goals go_wp2_with (first
        | (go_at_call 23; (with_reducible refine (CPL.out _ (HQ.out.up HV5.out.below)).mono ?_); rintro e w6 ⟨rfl, hb⟩; have HV6 := Lib.hid (HV5.out.up hb); clear hb; clear e1 e2 e3 e4 e5 x0 x1 x2 x3 x4 c0; obtain ⟨e1, e2, e3, e4, e5⟩ := box5 HV6.out.i1; obtain ⟨x0, x1, x2, x3, x4, c0⟩ := box6 HV6.out.i2)
        | (go_at_call 28; (with_reducible refine (CT0.out p F _ (stI HVr.out.i0)).mono ?_); rintro e w5 ⟨rfl, hb⟩; have HV5 := Lib.hid (HVr.out.up hb); clear hb; clear e1 e2 e3 e4 e5 x0 x1 x2 x3 x4 c0; obtain ⟨e1, e2, e3, e4, e5⟩ := box5 HV5.out.i1; obtain ⟨x0, x1, x2, x3, x4, c0⟩ := box6 HV5.out.i2))
      all_goals go_ret
      all_goals exact ⟨ret_bs (by first | rfl | (simp [*]; done)), HV6.out.below⟩
set_option maxRecDepth 100000 in
set_option maxHeartbeats 40000000 in
theorem exact_y (x : Cfg) (A : Option Addr) (n0 k0 : Nat) (qs : Ups) (a : Int) (w : World) (hx : x.Ok) (hq : UpdV w A n0 k0 qs) (hpl : plainB (upsR { anyC x 7 9 with wd := 2 ^ (anyC x 7 9).bt.toNat } 0 qs 0 60) = true) (hT : 1 ≤ spV { anyC x 7 9 with wd := 2 ^ (anyC x 7 9).bt.toNat } (stsOf { anyC x 7 9 with wd := 2 ^ (anyC x 7 9).bt.toNat } (upsR { anyC x 7 9 with wd := 2 ^ (anyC x 7 9).bt.toNat } 0 qs 0 60)) { anyC x 7 9 with wd := 2 ^ (anyC x 7 9).bt.toNat }.bt 0) :
    Calls Tryz.prog 6 #[.agg #[.int .i64 x.bt, .int .i64 x.rw, .int .i64 x.wd, .int .i64 x.md, .int .u64 x.sd, .slice A n0 k0], .int .i64 a] w fun e w' => e = .returned (.bool true) ∧ Below w.heap.size w w' := by
  have hr0 := any_right x 7 9 (by omega) (by omega) (by omega) (by omega)
  have hco0 := any_ok x hx 7 9 (by omega) (by omega) (by omega) (by omega)
  have hb7 : (anyC x 7 9).bt ≤ 7 := by
    have h2 := Int.emod_lt_of_pos (x.bt % 65536) (show (0 : Int) < 7 by omega)
    show 1 + x.bt % 65536 % 7 ≤ 7
    omega
  obtain ⟨C, hCC⟩ : ∃ C, anyC x 7 9 = C := ⟨_, rfl⟩
  have CA := Lib.hid (fun w => rany_at x 7 9 C w hx (by omega) (by omega) (by omega) (by omega) hCC)
  rw [hCC] at hr0 hco0 hb7
  have hp7 := pow7 (n := C.bt.toNat) (by omega)
  obtain ⟨c, hC⟩ : ∃ c, { C with wd := 2 ^ C.bt.toNat } = c := ⟨_, rfl⟩
  have h1 : C.bt = c.bt ∧ C.rw = c.rw ∧ C.md = c.md ∧ C.sd = c.sd ∧ c.wd = 2 ^ c.bt.toNat := by rw [← hC]; exact ⟨rfl, rfl, rfl, rfl, rfl⟩
  have hr : IsRight c := by rw [← hC]; exact ⟨hr0.1, hr0.2.1, hr0.2.2.1, hr0.2.2.2.1, hp7.1, hp7.2, hr0.2.2.2.2.2.2⟩
  have hco : c.Ok := by rw [← hC]; exact ⟨hco0.b0, hco0.b1, hco0.r0, hco0.r1, by show -9223372036854775808 ≤ (2 : Int) ^ C.bt.toNat; omega, by show (2 : Int) ^ C.bt.toNat ≤ 9223372036854775807; omega, hco0.m0, hco0.m1, hco0.s0, hco0.s1⟩
  rw [h1.1, h1.2.1, h1.2.2.1, h1.2.2.2.1] at CA
  obtain ⟨WD, hWD⟩ : ∃ v, C.wd = v := ⟨_, rfl⟩
  rw [hWD] at CA
  have hbt := hr.1
  have hb7' : c.bt ≤ 7 := by rw [← h1.1]; exact hb7
  have hwd := h1.2.2.2.2
  have hwb : 1 ≤ c.wd ∧ c.wd ≤ 128 := ⟨hr.2.2.2.2.1, hr.2.2.2.2.2.1⟩
  have hux : IntKind.u64.wrap c.bt = c.bt := by rw [IntKind.wrap_u64]; omega
  have hsh : IntKind.i64.wrap (2 ^ min c.bt.toNat 64) = c.wd := by
    rw [Nat.min_eq_left (by omega), ← hwd]
    exact IntWalk.i64_in _ ⟨by omega, by omega⟩
  have hsh2 : wrap64 (2 ^ c.bt.toNat) = c.wd := by
    rw [← hwd]
    exact IntWalk.wrap64_in _ ⟨by omega, by omega⟩
  have hkeys : 1 ≤ keys c 0 := keys_pos.2 ⟨hr, by omega, by omega⟩
  have hkk := keys_bd c 0
  have hul := upsR_len c 0 qs 0 60
  have hui := upsR_in hkeys qs 0 60
  have CNW := Lib.hid (fun w => cs_new c w hco hr)
  have CK := Lib.hid (fun w => rkeys_any c 0 w hco (by omega) (by omega))
  have CB := Lib.hid (fun lo hi w hq l0 l1 i0 i1 => rbtw_any c A n0 k0 qs lo hi w hco hkeys hq l0 l1 i0 i1)
  have CC0 := Lib.hid (fun w k d h0 h1 h2 h3 => rcut15_any c k d w hco h0 h1 h2 h3 hkeys)
  have CPL := Lib.hid (fun w hq => rplain_any c A n0 k0 qs w hco hkeys hq)
  have CT0 := Lib.hid (fun p F w hs => cs_total p F c (stsOf c (upsR c 0 qs 0 60)) w hs)
  rw [hCC, hC] at hpl hT
  rw [hpl] at CPL
  have etop := has_all hr (upsR c 0 qs 0 60)
  have htop := ptU_top hr (upsR c 0 qs 0 60)
  have htb := ptU_bd hr hui hul (L := c.bt.toNat) (i := 0) (Nat.le_refl _) (by rw [Nat.sub_self]; decide)
  have htb2 : ptU c (upsR c 0 qs 0 60) c.bt.toNat 0 ≤ 65970697666560 := htb.2
  obtain ⟨TV, hTV⟩ : ∃ v, ptU c (upsR c 0 qs 0 60) c.bt.toNat 0 = v := ⟨_, rfl⟩
  rw [etop, hTV] at CT0
  rw [hTV] at htb2 htop
  rw [etop, hTV] at hT
  obtain ⟨V1, R1, K1, a1, a2, a3, a4, a5, a6, a7, a8⟩ := rank_cut a TV hT htb2
  obtain ⟨l, w1, p1, u1⟩ := way_fed hr hui hul (k := K1) a7 (by rw [hTV]; omega)
  have q2 := qn_yes (c := c) (pt := (fun L i => spV c (stsOf c (upsR c 0 qs 0 60)) (L : Int) i)) (k := K1) a7 (by show K1 ≤ ptU c (upsR c 0 qs 0 60) c.bt.toNat 0; omega) w1
  have hex := way_exact hr hui (fun n hn => wide_exact hr hwd hn) hpl w1 a7 (by rw [← htop]; exact a8)
  have CQ := Lib.hid (fun p F w hs => qn_quant p F c (stsOf c (upsR c 0 qs 0 60)) K1 w hs (by omega) (by omega))
  rw [q2.1, q2.2.2] at CQ
  obtain ⟨KQ, hKQ⟩ : ∃ v, keyQ l = v := ⟨_, rfl⟩
  rw [hKQ] at CQ hex u1
  have HEX := Lib.hid hex
  have HRK : Hid (¬ TV < 1 ∧ ¬ TV = 0 ∧ bits .and .i64 a 4611686018427387903 = V1 ∧ Int.tmod V1 TV = R1 ∧ IntKind.i64.wrap R1 = R1 ∧ wrap64 R1 = R1 ∧ wrap64 (1 + R1) = K1 ∧ IntKind.i64.wrap (1 + R1) = K1) := Lib.hid ⟨by omega, by omega, a1, a2, a3, a4, a5, a6⟩
  clear a1 a2 a3 a4 a5 a6 a7 a8 q2 hex w1 p1 hKQ
  obtain ⟨Z, hZ⟩ : ∃ Z, stsOf c [] = Z := ⟨_, rfl⟩
  rw [hZ] at CNW
  have hst0 : stsOf c (upsR c 0 qs 0 0) = Z := by rw [upsR_zero]; exact hZ
  have HQ := Lib.hid hq
  have HL := Lib.hid hq.len
  have hnc := hq.nc
  have hcm := hq.cm
  unfold maxLen at hcm
  have HR := Lib.hid hr
  have HKY := Lib.hid hkeys
  have HKB := Lib.hid hkk
  have HBX : Hid (Have w (w.alloc (.cells #[.int .i64 x.bt, .int .i64 x.rw, .int .i64 x.wd, .int .i64 x.md, .int .u64 x.sd, .slice A n0 k0] 27)) [boxT w.heap.size 27 #[.int .i64 x.bt, .int .i64 x.rw, .int .i64 x.wd, .int .i64 x.md, .int .u64 x.sd, .slice A n0 k0]]) := Lib.hid (box_new w _ _)
  obtain ⟨K, hK⟩ : ∃ K, keys c 0 = K := ⟨_, rfl⟩
  rw [hK] at CK hkeys hkk u1
  have HKK := Lib.hid hkk
  have HU1 := Lib.hid u1
  have hwd2 := Lib.hid hwd
  clear hC hCC hWD hr0 hco0 hr hco hx hq hul hui hTV hZ hK h1 hp7 hb7 hwd hkeys hkk hwb etop htop htb htb2 hpl hT u1
  go_enter Tryz.func6, Tryz.ntmps6
  go_wp2_with (first
    | (go_at_call 9; (with_reducible refine (CNW.out _).mono ?_); rintro e w4 ⟨p, F, rfl, hsk, hfr, hb⟩; have HV4 := Lib.hid (HV3.out.push (stT p F c Z) hb hsk hfr); clear hsk hfr hb)
    | (go_at_call 8; (with_reducible refine (CA.out _).mono ?_); rintro e w2 ⟨rfl, hb⟩; have HV2 := Lib.hid (HV1.out.up hb); clear x0 x1 x2 x3 x4 x5; obtain ⟨x0, x1, x2, x3, x4, x5⟩ := box6 HV2.out.i0; have hl1 := box_lt HV2.out.i0; have HV3 := Lib.hid (HV2.out.push (boxT w2.heap.size 24 #[.int .i64 c.bt, .int .i64 c.rw, .int .i64 c.wd, .int .i64 c.md, .int .u64 c.sd]) (Lw.below_alloc (Below.refl _ _) _) (heap_alloc_new w2 _) (fun k hk => Nat.le_of_eq hk.symm)); clear hb)
    | (go_at_call 7; (with_reducible refine (shown_any _).mono ?_); rintro e w1 ⟨rfl, hb⟩; have HV1 := Lib.hid (HBX.out.up hb); clear hb; obtain ⟨x0, x1, x2, x3, x4, x5⟩ := box6 HV1.out.i0))
  obtain ⟨g1, hg1⟩ : ∃ g1, w2.heap.size = g1 := ⟨_, rfl⟩
  rw [hg1] at HV4 ⊢
  clear hg1 hl1 x0 x1 x2 x3 x4 x5
  go_loopw [9] (fun iv wr => ∃ (k : Nat) (F : Nat → Prop), k ≤ 60 ∧ (k ≤ n0 ∨ k = 0) ∧ iv = .int .i64 k ∧ Have w wr [stT p F c (stsOf c (upsR c 0 qs 0 k)), boxT g1 24 #[.int .i64 c.bt, .int .i64 c.rw, .int .i64 c.wd, .int .i64 c.md, .int .u64 c.sd], boxT w.heap.size 27 #[.int .i64 x.bt, .int .i64 x.rw, .int .i64 x.wd, .int .i64 x.md, .int .u64 x.sd, .slice A n0 k0]]) (fun iv _ => 60 - (intOf iv).toNat)
  case atStart => exact ⟨0, F, Nat.zero_le _, .inr rfl, rfl, by rw [hst0]; exact HV4.out⟩
  case round =>
    obtain ⟨k, F, hk1, hk2, rfl, hv⟩ := hrel
    have HVr := Lib.hid hv
    have hwb := hv.below
    clear hv hst0 hux hsh hsh2 hbt hb7'
    obtain ⟨x0, x1, x2, x3, x4, c0⟩ := box6 HVr.out.i2
    by_cases hlt : k < n0 ∧ k < 60
    · obtain ⟨hj1, hj2⟩ := hlt
      obtain ⟨q, hq1⟩ : ∃ q, qs[k]? = some q := ⟨_, List.getElem?_eq_getElem (by rw [HL.out]; omega)⟩
      have hnx := upsR_next (c := c) (l := 0) hq1 (Nat.zero_le k)
      have hst := stsOf_step HR.out (upsR_in HKY.out qs 0 k) (by have := upsR_len c 0 qs 0 k; omega) (upsIn_cut HKY.out [q])
      have hcu := cutU_ok HKY.out q
      obtain ⟨aa, g, o, rfl, hadd, d1w, d2w, kb, db⟩ := HQ.out.at hq1
      obtain ⟨qk, qd⟩ := q
      simp only at d1w d2w kb db
      have d1 := cell_up d1w hwb
      have d2 := cell_up d2w hwb
      obtain ⟨e1, e2, e3, e4, e5⟩ := box5 HVr.out.i1
      have CC := Lib.hid (fun w => CC0.out w qk qd kb.1 kb.2 db.1 db.2)
      obtain ⟨us, hus⟩ : ∃ us, stsOf c (upsR c 0 qs 0 k) = us := ⟨_, rfl⟩
      obtain ⟨us2, hus2⟩ : ∃ us2, stsOf c (upsR c 0 qs 0 (k + 1)) = us2 := ⟨_, rfl⟩
      rw [hus] at HVr hst
      rw [hnx] at hus2
      rw [hus2] at hst
      have HNX : Hid (stsOf c (upsR c 0 qs 0 (k + 1)) = us2) := Lib.hid (by rw [hnx]; exact hus2)
      obtain ⟨U, hU⟩ : ∃ U, (cutU c 0 (qk, qd)).1 = U := ⟨_, rfl⟩
      obtain ⟨D, hD⟩ : ∃ D, (cutU c 0 (qk, qd)).2 = D := ⟨_, rfl⟩
      rw [hU, hD] at CC hst hcu
      have HST := Lib.hid hst
      have hkk := HKB.out
      have hub : 0 ≤ U ∧ U ≤ 18446744073709551615 := ⟨hcu.1, by have := hcu.2.1; omega⟩
      have hdb : -9223372036854775808 ≤ D ∧ D ≤ 9223372036854775807 := ⟨by have := hcu.2.2.1; omega, by have := hcu.2.2.2.1; omega⟩
      clear hq1 hnx hst hcu hus hus2 hU hD d1w d2w hwb
      go_upto_region 10 with fail
      go_region_held3 (fun w' => w'.cell? ⟨g1, 0, none⟩ = some (.int .i64 c.bt) ∧ w'.cell? ⟨g1, 1, none⟩ = some (.int .i64 c.rw) ∧ w'.cell? ⟨g1, 2, none⟩ = some (.int .i64 c.wd) ∧ w'.cell? ⟨g1, 3, none⟩ = some (.int .i64 c.md) ∧ w'.cell? ⟨g1, 4, none⟩ = some (.int .u64 c.sd) ∧ w'.cell? ⟨w.heap.size, 5, none⟩ = some (.slice (some aa) n0 k0) ∧ w'.cell? ⟨g, o, none⟩ = some (.int .u64 qk) ∧ w'.cell? ⟨g, o + 1, none⟩ = some (.int .i64 qd)) (first | (refine ⟨?_, ?_, ?_, ?_, ?_, ?_, ?_, ?_⟩ <;> (first | (with_reducible assumption) | (with_reducible refine cell_up e1 ?_) | (with_reducible refine cell_up e2 ?_) | (with_reducible refine cell_up e3 ?_) | (with_reducible refine cell_up e4 ?_) | (with_reducible refine cell_up e5 ?_) | (with_reducible refine cell_up c0 ?_) | (with_reducible refine cell_up d1 ?_) | (with_reducible refine cell_up d2 ?_)) <;> repeat' (first | (with_reducible exact Below.refl _ _) | (with_reducible assumption) | (with_reducible refine below_over ?_ _ _) | (with_reducible refine Lw.below_alloc ?_ _) | (with_reducible refine Below.drew ?_) | (with_reducible refine below_drewN ?_ _) | (with_reducible refine Below.setCell ?_ ?_ _) | go_size))) (first | (go_at_call 27; (with_reducible refine (CC.out _).mono ?_); rintro e w' ⟨rfl, hb⟩; obtain ⟨bs, dd, rfl⟩ := below_grow hb; clear hb))
      all_goals go_wp2_with (go_at_call 11; (with_reducible refine (cs_upd p F c us U D _ (stI (HVr.out.up (by repeat' (first | (with_reducible exact Below.refl _ _) | (with_reducible assumption) | (with_reducible refine below_over ?_ _ _) | (with_reducible refine Lw.below_alloc ?_ _) | (with_reducible refine Below.drew ?_) | (with_reducible refine below_drewN ?_ _) | (with_reducible refine Below.setCell ?_ ?_ _) | go_size))).i0) hub.1 hub.2 hdb.1 hdb.2).mono ?_); rintro e w8 ⟨he, F8, hnp, hnk, hnf⟩; rw [HST.out.1] at he; subst he; rw [HST.out.2] at hnp; have HV8 := Lib.hid ((HVr.out.up (by repeat' (first | (with_reducible exact Below.refl _ _) | (with_reducible assumption) | (with_reducible refine below_over ?_ _ _) | (with_reducible refine Lw.below_alloc ?_ _) | (with_reducible refine Below.drew ?_) | (with_reducible refine below_drewN ?_ _) | (with_reducible refine Below.setCell ?_ ?_ _) | go_size))).turn_0 (stT p F8 c us2) hnp hnk hnf); clear hnp hnk hnf)
      all_goals go_roundw
      all_goals first
        | exact ⟨k + 1, F8, by omega, .inl (by omega), by go_num, by rw [HNX.out]; exact HV8.out⟩
        | (simp [intOf]; omega)
    · have hend : upsR c 0 qs 0 k = upsR c 0 qs 0 60 := upsR_end hk1 (by rw [HL.out]; omega)
      rw [hend] at HVr
      obtain ⟨e1, e2, e3, e4, e5⟩ := box5 HVr.out.i1
      have hcases : ((k : Int) < n0 ∧ ¬ (k : Int) < 60) ∨ ¬ (k : Int) < n0 := by omega
      clear hend hk2 hlt hwb
      obtain ⟨r0, r1, r2, r3, r4, r5, r6, r7⟩ := HRK.out
      rcases hcases with ⟨hc1, hc2⟩ | hc1
      all_goals go_wp2_with (first
        | (go_at_call 23; (with_reducible refine (CPL.out _ (HQ.out.up HV5.out.below)).mono ?_); rintro e w6 ⟨rfl, hb⟩; have HV6 := Lib.hid (HV5.out.up hb); clear hb; clear e1 e2 e3 e4 e5 x0 x1 x2 x3 x4 c0; obtain ⟨e1, e2, e3, e4, e5⟩ := box5 HV6.out.i1; obtain ⟨x0, x1, x2, x3, x4, c0⟩ := box6 HV6.out.i2)
        | (go_at_call 28; (with_reducible refine (CT0.out p F _ (stI HVr.out.i0)).mono ?_); rintro e w5 ⟨rfl, hb⟩; have HV5 := Lib.hid (HVr.out.up hb); clear hb; clear e1 e2 e3 e4 e5 x0 x1 x2 x3 x4 c0; obtain ⟨e1, e2, e3, e4, e5⟩ := box5 HV5.out.i1; obtain ⟨x0, x1, x2, x3, x4, c0⟩ := box6 HV5.out.i2))
      · go_loopw [12] (fun yv wy => ∃ (y : Nat), y ≤ KQ ∧ yv = .int .u64 (y : Int) ∧ Have w wy [stT p F c (stsOf c (upsR c 0 qs 0 60)), boxT g1 24 #[.int .i64 c.bt, .int .i64 c.rw, .int .i64 c.wd, .int .i64 c.md, .int .u64 c.sd], boxT w.heap.size 27 #[.int .i64 x.bt, .int .i64 x.rw, .int .i64 x.wd, .int .i64 x.md, .int .u64 x.sd, .slice A n0 k0]]) (fun yv _ => KQ - (intOf yv).toNat)
        case atStart => exact ⟨0, Nat.zero_le _, rfl, HV6.out⟩
        case round =>
          obtain ⟨y, hy, rfl, hv⟩ := hrel
          have HVy := Lib.hid hv
          clear hv e1 e2 e3 e4 e5 x0 x1 x2 x3 x4 c0
          obtain ⟨e1, e2, e3, e4, e5⟩ := box5 HVy.out.i1
          obtain ⟨x0, x1, x2, x3, x4, c0⟩ := box6 HVy.out.i2
          have hu1 := HU1.out
          have hkk := HKK.out
          have CBY := Lib.hid (fun w hq => CB.out 0 (y : Int) w hq (by omega) (by omega) (by omega) (by omega))
          by_cases hlt2 : y < KQ
          · have hb := HEX.out.2 y hlt2
            obtain ⟨BY, hBY⟩ : ∃ v, bt 0 ((y : Nat) : Int) (upsR c 0 qs 0 60) = v := ⟨_, rfl⟩
            rw [hBY] at CBY hb
            have j1 : decide (BY < K1) = true := decide_eq_true hb
            have j2 : (y : Int) < K := by omega
            have j3 : IntKind.u64.wrap ((y : Int) + 1) = (y : Int) + 1 := by rw [IntKind.wrap_u64]; omega
            clear hBY
            go_wp2_with (first
              | (go_at_call 24; (with_reducible refine (CK.out _).mono ?_); rintro e wb ⟨rfl, hb⟩; have HVb := Lib.hid (HVa.out.up hb); clear hb)
              | (go_at_call 26; (with_reducible refine (CBY.out _ (HQ.out.up HVy.out.below)).mono ?_); rintro e wa ⟨rfl, hb⟩; have HVa := Lib.hid (HVy.out.up hb); clear hb; clear e1 e2 e3 e4 e5 x0 x1 x2 x3 x4 c0; obtain ⟨e1, e2, e3, e4, e5⟩ := box5 HVa.out.i1; obtain ⟨x0, x1, x2, x3, x4, c0⟩ := box6 HVa.out.i2))
            go_roundw
            case rel => exact ⟨y + 1, by omega, by go_num, HVb.out⟩
            case measure => simp [intOf]; omega
          · obtain rfl : y = KQ := by omega
            have hb := HEX.out.1
            obtain ⟨BY, hBY⟩ : ∃ v, bt 0 ((y : Nat) : Int) (upsR c 0 qs 0 60) = v := ⟨_, rfl⟩
            rw [hBY] at CBY hb
            have j1 : decide (BY < K1) = false := decide_eq_false (by omega)
            have j2 : ¬ BY < K1 := by omega
            clear hBY hlt2
            go_wp2_with (first
              | (go_at_call 13; (with_reducible refine (CQ.out p F _ (stI HVa.out.i0)).mono ?_); rintro e wb ⟨rfl, hb⟩; have HVb := Lib.hid (HVa.out.up hb); clear hb)
              | (go_at_call 26; (with_reducible refine (CBY.out _ (HQ.out.up HVy.out.below)).mono ?_); rintro e wa ⟨rfl, hb⟩; have HVa := Lib.hid (HVy.out.up hb); clear hb; clear e1 e2 e3 e4 e5 x0 x1 x2 x3 x4 c0; obtain ⟨e1, e2, e3, e4, e5⟩ := box5 HVa.out.i1; obtain ⟨x0, x1, x2, x3, x4, c0⟩ := box6 HVa.out.i2))
            go_ret
            exact ⟨ret_bs (by first | rfl | (simp [*]; done)), HVb.out.below⟩
      · go_loopw [12] (fun yv wy => ∃ (y : Nat), y ≤ KQ ∧ yv = .int .u64 (y : Int) ∧ Have w wy [stT p F c (stsOf c (upsR c 0 qs 0 60)), boxT g1 24 #[.int .i64 c.bt, .int .i64 c.rw, .int .i64 c.wd, .int .i64 c.md, .int .u64 c.sd], boxT w.heap.size 27 #[.int .i64 x.bt, .int .i64 x.rw, .int .i64 x.wd, .int .i64 x.md, .int .u64 x.sd, .slice A n0 k0]]) (fun yv _ => KQ - (intOf yv).toNat)
        case atStart => exact ⟨0, Nat.zero_le _, rfl, HV6.out⟩
        case round =>
          obtain ⟨y, hy, rfl, hv⟩ := hrel
          have HVy := Lib.hid hv
          clear hv e1 e2 e3 e4 e5 x0 x1 x2 x3 x4 c0
          obtain ⟨e1, e2, e3, e4, e5⟩ := box5 HVy.out.i1
          obtain ⟨x0, x1, x2, x3, x4, c0⟩ := box6 HVy.out.i2
          have hu1 := HU1.out
          have hkk := HKK.out
          have CBY := Lib.hid (fun w hq => CB.out 0 (y : Int) w hq (by omega) (by omega) (by omega) (by omega))
          by_cases hlt2 : y < KQ
          · have hb := HEX.out.2 y hlt2
            obtain ⟨BY, hBY⟩ : ∃ v, bt 0 ((y : Nat) : Int) (upsR c 0 qs 0 60) = v := ⟨_, rfl⟩
            rw [hBY] at CBY hb
            have j1 : decide (BY < K1) = true := decide_eq_true hb
            have j2 : (y : Int) < K := by omega
            have j3 : IntKind.u64.wrap ((y : Int) + 1) = (y : Int) + 1 := by rw [IntKind.wrap_u64]; omega
            clear hBY
            go_wp2_with (first
              | (go_at_call 24; (with_reducible refine (CK.out _).mono ?_); rintro e wb ⟨rfl, hb⟩; have HVb := Lib.hid (HVa.out.up hb); clear hb)
              | (go_at_call 26; (with_reducible refine (CBY.out _ (HQ.out.up HVy.out.below)).mono ?_); rintro e wa ⟨rfl, hb⟩; have HVa := Lib.hid (HVy.out.up hb); clear hb; clear e1 e2 e3 e4 e5 x0 x1 x2 x3 x4 c0; obtain ⟨e1, e2, e3, e4, e5⟩ := box5 HVa.out.i1; obtain ⟨x0, x1, x2, x3, x4, c0⟩ := box6 HVa.out.i2))
            go_roundw
            case rel => exact ⟨y + 1, by omega, by go_num, HVb.out⟩
            case measure => simp [intOf]; omega
          · obtain rfl : y = KQ := by omega
            have hb := HEX.out.1
            obtain ⟨BY, hBY⟩ : ∃ v, bt 0 ((y : Nat) : Int) (upsR c 0 qs 0 60) = v := ⟨_, rfl⟩
            rw [hBY] at CBY hb
            have j1 : decide (BY < K1) = false := decide_eq_false (by omega)
            have j2 : ¬ BY < K1 := by omega
            clear hBY hlt2
            go_wp2_with (first
              | (go_at_call 13; (with_reducible refine (CQ.out p F _ (stI HVa.out.i0)).mono ?_); rintro e wb ⟨rfl, hb⟩; have HVb := Lib.hid (HVa.out.up hb); clear hb)
              | (go_at_call 26; (with_reducible refine (CBY.out _ (HQ.out.up HVy.out.below)).mono ?_); rintro e wa ⟨rfl, hb⟩; have HVa := Lib.hid (HVy.out.up hb); clear hb; clear e1 e2 e3 e4 e5 x0 x1 x2 x3 x4 c0; obtain ⟨e1, e2, e3, e4, e5⟩ := box5 HVa.out.i1; obtain ⟨x0, x1, x2, x3, x4, c0⟩ := box6 HVa.out.i2))
            go_ret
            exact ⟨ret_bs (by first | rfl | (simp [*]; done)), HVb.out.below⟩
theorem exact_law (x : Cfg) (A : Option Addr) (n0 k0 : Nat) (qs : Ups) (a : Int) (w : World) (hx : x.Ok) (hq : UpdV w A n0 k0 qs) :
    Calls Tryz.prog 6 #[.agg #[.int .i64 x.bt, .int .i64 x.rw, .int .i64 x.wd, .int .i64 x.md, .int .u64 x.sd, .slice A n0 k0], .int .i64 a] w fun e w' => e = .returned (.bool true) ∧ Below w.heap.size w w' := by
  cases hp : plainB (upsR { anyC x 7 9 with wd := 2 ^ (anyC x 7 9).bt.toNat } 0 qs 0 60) with
  | true =>
    by_cases hT : 1 ≤ spV { anyC x 7 9 with wd := 2 ^ (anyC x 7 9).bt.toNat } (stsOf { anyC x 7 9 with wd := 2 ^ (anyC x 7 9).bt.toNat } (upsR { anyC x 7 9 with wd := 2 ^ (anyC x 7 9).bt.toNat } 0 qs 0 60)) { anyC x 7 9 with wd := 2 ^ (anyC x 7 9).bt.toNat }.bt 0
    · exact exact_y x A n0 k0 qs a w hx hq hp hT
    · exact exact_z x A n0 k0 qs a w hx hq hp hT
  | false => exact exact_n x A n0 k0 qs a w hx hq hp
namespace quantExact
open Go.ChangeShapes Go.WideShapes Go.ChangeAt Go.Joins
set_option maxRecDepth 100000 in
theorem lifted (os : Os) (started : os.Started) (H : Type) (enc : TypeId × Value → H) :
    ReturnsInHanded {} Tryz.checked os 6 .any (Rows.quantExactSpec.pre6 enc Tryz.prog Tryz.f6 Rows.quantExactRow.domain false) (Rows.quantExactSpec.post enc Tryz.prog Tryz.f6 false true false false) := by
  refine Lw.lifted (C := Tryz.checked) (B := 4) (by kernel_rfl) os started (by kernel_rfl) Tryz.func6
    (ChangeSpec.witness6 (enc := enc) (C := Tryz.checked) false ⟨#[], #[.agg #[.int .i64 0, .int .i64 0, .int .i64 0, .int .i64 0, .int .u64 0, .slice none 0 0], .int .i64 0], []⟩ 8 (by kernel_rfl) (by kernel_rfl) (by kernel_rfl) (by kernel_rfl)) rfl Tryz.underlying4 (by kernel_rfl) (by kernel_rfl) (by kernel_rfl) ?_ ?_
  · intro ds h
    rw [Tryz.params6] at h
    match ds, h with
    | [_, _], _ => rfl
  · intro W base args ds p hval hA
    rw [Tryz.params6] at hA hval
    obtain ⟨v0, vs0, d0, ds0, p0, q0, hargs, rfl, rfl, h0, r0⟩ := trodAll_cons hA
    obtain ⟨v1, vs1, d1, ds1, p1, q1, rfl, rfl, rfl, h1, r1⟩ := trodAll_cons r0
    obtain ⟨rfl, rfl, rfl⟩ := trodAll_nil r1
    obtain rfl : args = #[v0, v1] := by cases args; simp_all
    obtain ⟨x0, A0, n0, k0, qs0, rfl, hx0, hq0⟩ := open_playX (hval 0 27 v0 rfl rfl) h0
    obtain ⟨a1, rfl, rfl, rfl, w1⟩ := open_int Tryz.underlying2 (hval 1 2 v1 rfl rfl) h1
    have b1 := Lw.wf_i64 w1
    exact exact_law x0 A0 n0 k0 qs0 a1 W hx0 hq0
theorem over : Rows.quantExactRow.holds Tryz.pinned (OpenSpec.ofChange Rows.quantExactSpec) :=
  OpenClaim.holds_of_wide 6 Tryz.f6 rfl rfl rfl rfl rfl rfl rfl ⟨rfl, rfl, rfl, rfl, rfl⟩ rfl rfl rfl rfl rfl (by kernel_rfl) Tryz.func6 (by kernel_rfl)
    (of_decide_eq_true (by kernel_rfl)) (by unfold Func.isWrapper; first | (rw [if_pos (by decide +kernel)]; kernel_rfl) | (rw [if_neg (by decide +kernel)]; exact ⟨rfl, rfl⟩))
    (fun os started H enc _ => lifted os started H enc)
theorem proved : Rows.QuantExactSaid :=
  over
#print axioms proved
end quantExact
end Go.Proofs.YtiblpdjehknbcaaGreat.Qnt
