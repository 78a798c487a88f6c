/- The statement SpanExact of layer 16 holds. Printed by wip/gen/spn6.py. -/
import Derived.Test.YtbifihhfoanmgaaGreatMe
import Derived.Test.YtbifihhfoanmgaaGreatMi
import Derived.Test.YtbifihhfoanmgaaGreatMk
import Derived.Test.YtbifihhfoanmgaaGreatMl
import Derived.Test.YtbifihhfoanmgaaGreatMn
import Derived.Deep.LoopGhost
import Derived.Deep.RegionHeld3
import Derived.Deep.DeepCutAuto
import Derived.Deep.QuietTactic
import Derived.BigQuiet
namespace Go.Proofs.YtbifihhfoanmgaaGreat.Spn
open Go Go.RowKit Lw Grd Lin Con Shp Sk Exa Lev Stk Pcs
set_option linter.unusedVariables false
set_option linter.unusedSimpArgs false
theorem sum_exact {c : Cfg} (hr : IsRight c) (hx : ∀ n : Nat, (n : Int) ≤ c.bt → exactB c n = true) {us : Ups} (h : UpsIn c 0 us) (hl : us.length ≤ 60) {lo hi : Int} (h0 : 0 ≤ lo) (h1 : lo ≤ hi) (h2 : hi < keys c 0) :
    rgC c (fun L i => spV c (stsOf c us) (L : Int) i) lo hi = 0 ∧ rgV c (fun L i => spV c (stsOf c us) (L : Int) i) lo hi = bt lo hi us := by
  obtain ⟨l, hc⟩ := Cov.ex (B := c.bt.toNat) (e := hi.toNat + 1) (hi.toNat + 1 - lo.toNat) lo.toNat rfl (by omega)
  obtain ⟨-, -, h3, h4⟩ := rg_fed hr h hl h0 h1 h2 hc
  refine ⟨h3, h4.trans ?_⟩
  rw [bt_btw h0 (by omega), ← cov_sum hc (fun u hu => (h.1 u hu).1)]
  congr 1
  refine List.map_congr_left (fun p hp => ?_)
  have hp2 := cov_in hr h0 h1 h2 hc hp
  exact st_ex (hx p.1 hp2.1) (by omega) hp2.2
theorem wide_exact {c : Cfg} (hr : IsRight c) (hw : c.wd = 2 ^ c.bt.toNat) {n : Nat} (hn : (n : Int) ≤ c.bt) : exactB c n = true := by
  have e : keys c n = 2 ^ (c.bt - n).toNat := keys_yes hr (by omega) hn
  have h1 : 2 ^ (c.bt - n).toNat ≤ 2 ^ c.bt.toNat := Nat.pow_le_pow_right (by omega) (by omega)
  have h2 := Nat.two_pow_pos (c.bt - n).toNat
  have e1 : ((2 ^ (c.bt - n).toNat : Nat) : Int) = 2 ^ (c.bt - n).toNat := by simp
  have e2 : ((2 ^ c.bt.toNat : Nat) : Int) = 2 ^ c.bt.toNat := by simp
  refine decide_eq_true ?_
  rw [e, hw]
  omega
theorem pow7 {n : Nat} (h : n ≤ 7) : 1 ≤ (2 : Int) ^ n ∧ (2 : Int) ^ n ≤ 128 := by
  have h1 : 2 ^ n ≤ 2 ^ 7 := Nat.pow_le_pow_right (by omega) h
  have h2 := Nat.two_pow_pos n
  have e : ((2 ^ n : Nat) : Int) = 2 ^ n := by simp
  omega
set_option maxRecDepth 100000 in
set_option maxHeartbeats 40000000 in
theorem exact_law (x : Cfg) (A : Option Addr) (n0 k0 : Nat) (qs : Ups) (a b : Int) (w : World) (hx : x.Ok) (hq : UpdV w A n0 k0 qs) (ha : 0 ≤ a ∧ a ≤ 18446744073709551615) (hb2 : 0 ≤ b ∧ b ≤ 18446744073709551615) :
    Calls Tryz.prog 6 #[.agg #[.int .i64 x.bt, .int .i64 x.rw, .int .i64 x.wd, .int .i64 x.md, .int .u64 x.sd, .slice A n0 k0], .int .u64 a, .int .u64 b] w fun e w' => e = .returned (.bool true) ∧ Below w.heap.size w w' := by
  have hr0 := any_right x 7 9 (by omega) (by omega) (by omega) (by omega)
  have hco0 := any_ok x hx 7 9 (by omega) (by omega) (by omega) (by omega)
  have hb7 : (anyC x 7 9).bt ≤ 7 := by
    have h2 := Int.emod_lt_of_pos (x.bt % 65536) (show (0 : Int) < 7 by omega)
    show 1 + x.bt % 65536 % 7 ≤ 7
    omega
  obtain ⟨C, hCC⟩ : ∃ C, anyC x 7 9 = C := ⟨_, rfl⟩
  have CA := Lib.hid (fun w => rany_at x 7 9 C w hx (by omega) (by omega) (by omega) (by omega) hCC)
  rw [hCC] at hr0 hco0 hb7
  have hp7 := pow7 (n := C.bt.toNat) (by omega)
  obtain ⟨c, hC⟩ : ∃ c, { C with wd := 2 ^ C.bt.toNat } = c := ⟨_, rfl⟩
  have h1 : C.bt = c.bt ∧ C.rw = c.rw ∧ C.md = c.md ∧ C.sd = c.sd ∧ c.wd = 2 ^ c.bt.toNat := by rw [← hC]; exact ⟨rfl, rfl, rfl, rfl, rfl⟩
  have hr : IsRight c := by rw [← hC]; exact ⟨hr0.1, hr0.2.1, hr0.2.2.1, hr0.2.2.2.1, hp7.1, hp7.2, hr0.2.2.2.2.2.2⟩
  have hco : c.Ok := by rw [← hC]; exact ⟨hco0.b0, hco0.b1, hco0.r0, hco0.r1, by show -9223372036854775808 ≤ (2 : Int) ^ C.bt.toNat; omega, by show (2 : Int) ^ C.bt.toNat ≤ 9223372036854775807; omega, hco0.m0, hco0.m1, hco0.s0, hco0.s1⟩
  rw [h1.1, h1.2.1, h1.2.2.1, h1.2.2.2.1] at CA
  obtain ⟨WD, hWD⟩ : ∃ v, C.wd = v := ⟨_, rfl⟩
  rw [hWD] at CA
  have hbt := hr.1
  have hb7' : c.bt ≤ 7 := by rw [← h1.1]; exact hb7
  have hwd := h1.2.2.2.2
  have hwb : 1 ≤ c.wd ∧ c.wd ≤ 128 := ⟨hr.2.2.2.2.1, hr.2.2.2.2.2.1⟩
  have hux : IntKind.u64.wrap c.bt = c.bt := by rw [IntKind.wrap_u64]; omega
  have hsh : IntKind.i64.wrap (2 ^ min c.bt.toNat 64) = c.wd := by
    rw [Nat.min_eq_left (by omega), ← hwd]
    exact IntWalk.i64_in _ ⟨by omega, by omega⟩
  have hsh2 : wrap64 (2 ^ c.bt.toNat) = c.wd := by
    rw [← hwd]
    exact IntWalk.wrap64_in _ ⟨by omega, by omega⟩
  have hkeys : 1 ≤ keys c 0 := keys_pos.2 ⟨hr, by omega, by omega⟩
  have hkk := keys_bd c 0
  have hul := upsR_len c 0 qs 0 60
  have hui := upsR_in hkeys qs 0 60
  have CNW := Lib.hid (fun w => cs_new c w hco hr)
  have CK := Lib.hid (fun w => rkeys_any c 0 w hco (by omega) (by omega))
  have CB := Lib.hid (fun lo hi w hq l0 l1 i0 i1 => rbtw_any c A n0 k0 qs lo hi w hco hkeys hq l0 l1 i0 i1)
  have CC0 := Lib.hid (fun w k d h0 h1 h2 h3 => rcut15_any c k d w hco h0 h1 h2 h3 hkeys)
  have hwh := rg_whole hr hui hul
  have CW := Lib.hid (fun p F w hs => sp_rank p F c (stsOf c (upsR c 0 qs 0 60)) (keys c 0 - 1) w hs (by omega) (by omega))
  rw [hwh.1, hwh.2] at CW
  have CT0 := Lib.hid (fun p F w hs => cs_total p F c (stsOf c (upsR c 0 qs 0 60)) w hs)
  have CR : Hid (∀ lo hi p F w, ST w p F c (stsOf c (upsR c 0 qs 0 60)) → 0 ≤ lo → lo ≤ hi → hi < keys c 0 → Calls Tryz.prog 16 #[.pointer (some p), .int .u64 lo, .int .u64 hi] w fun e w' => e = .returned (.tuple #[.int .i64 (bt lo hi (upsR c 0 qs 0 60)), .int .i64 0]) ∧ Below w.heap.size w w') := Lib.hid (fun lo hi p F w hs k0 k1 k2 => by
    have h := sp_range p F c (stsOf c (upsR c 0 qs 0 60)) lo hi w hs k0 (by omega) (by omega) (by omega)
    have h2 := sum_exact hr (fun n hn => wide_exact hr hwd hn) hui hul k0 k1 k2
    rw [h2.1, h2.2] at h
    exact h)
  obtain ⟨TV, hTV⟩ : ∃ v, spV c (stsOf c (upsR c 0 qs 0 60)) c.bt 0 = v := ⟨_, rfl⟩
  rw [hTV] at CW CT0
  obtain ⟨Z, hZ⟩ : ∃ Z, stsOf c [] = Z := ⟨_, rfl⟩
  rw [hZ] at CNW
  have hst0 : stsOf c (upsR c 0 qs 0 0) = Z := by rw [upsR_zero]; exact hZ
  have HQ := Lib.hid hq
  have HL := Lib.hid hq.len
  have hnc := hq.nc
  have hcm := hq.cm
  unfold maxLen at hcm
  have HR := Lib.hid hr
  have HKY := Lib.hid hkeys
  have HKB := Lib.hid hkk
  have HBX : Hid (Have w (w.alloc (.cells #[.int .i64 x.bt, .int .i64 x.rw, .int .i64 x.wd, .int .i64 x.md, .int .u64 x.sd, .slice A n0 k0] 27)) [boxT w.heap.size 27 #[.int .i64 x.bt, .int .i64 x.rw, .int .i64 x.wd, .int .i64 x.md, .int .u64 x.sd, .slice A n0 k0]]) := Lib.hid (box_new w _ _)
  have m1 := Int.emod_nonneg a (show keys c 0 ≠ 0 by omega)
  have m2 := Int.emod_nonneg b (show keys c 0 ≠ 0 by omega)
  have m3 := Int.emod_lt_of_pos a (show 0 < keys c 0 by omega)
  have m4 := Int.emod_lt_of_pos b (show 0 < keys c 0 by omega)
  obtain ⟨K, hK⟩ : ∃ K, keys c 0 = K := ⟨_, rfl⟩
  rw [hK] at CK CW CR m1 m2 m3 m4 hkeys hkk
  have hw : IntKind.u64.wrap (K - 1) = K - 1 := by rw [IntKind.wrap_u64]; omega
  have hK0 : ¬ K = 0 := by omega
  have HM := Lib.hid (And.intro (And.intro (And.intro m1 m2) (And.intro m3 m4)) hkk.2)
  have hwd2 := Lib.hid hwd
  clear hC hCC hWD hr0 hco0 hr hco hx hq hul hui hwh hTV hZ hK h1 hp7 hb7 hwd hkeys hkk hwb m1 m2 m3 m4
  go_enter Tryz.func6, Tryz.ntmps6
  go_wp2_with (first
    | (go_at_call 10; (with_reducible refine (CNW.out _).mono ?_); rintro e w4 ⟨p, F, rfl, hsk, hfr, hb⟩; have HV4 := Lib.hid (HV3.out.push (stT p F c Z) hb hsk hfr); clear hsk hfr hb)
    | (go_at_call 9; (with_reducible refine (CA.out _).mono ?_); rintro e w2 ⟨rfl, hb⟩; have HV2 := Lib.hid (HV1.out.up hb); clear x0 x1 x2 x3 x4 x5; obtain ⟨x0, x1, x2, x3, x4, x5⟩ := box6 HV2.out.i0; have hl1 := box_lt HV2.out.i0; have HV3 := Lib.hid (HV2.out.push (boxT w2.heap.size 24 #[.int .i64 c.bt, .int .i64 c.rw, .int .i64 c.wd, .int .i64 c.md, .int .u64 c.sd]) (Lw.below_alloc (Below.refl _ _) _) (heap_alloc_new w2 _) (fun k hk => Nat.le_of_eq hk.symm)); clear hb)
    | (go_at_call 8; (with_reducible refine (shown_any _).mono ?_); rintro e w1 ⟨rfl, hb⟩; have HV1 := Lib.hid (HBX.out.up hb); clear hb; obtain ⟨x0, x1, x2, x3, x4, x5⟩ := box6 HV1.out.i0))
  obtain ⟨g1, hg1⟩ : ∃ g1, w2.heap.size = g1 := ⟨_, rfl⟩
  rw [hg1] at HV4 ⊢
  clear hg1 hl1 x0 x1 x2 x3 x4 x5
  go_loopw [11] (fun iv wr => ∃ (k : Nat) (F : Nat → Prop), k ≤ 60 ∧ (k ≤ n0 ∨ k = 0) ∧ iv = .int .i64 k ∧ Have w wr [stT p F c (stsOf c (upsR c 0 qs 0 k)), boxT g1 24 #[.int .i64 c.bt, .int .i64 c.rw, .int .i64 c.wd, .int .i64 c.md, .int .u64 c.sd], boxT w.heap.size 27 #[.int .i64 x.bt, .int .i64 x.rw, .int .i64 x.wd, .int .i64 x.md, .int .u64 x.sd, .slice A n0 k0]]) (fun iv _ => 60 - (intOf iv).toNat)
  case atStart => exact ⟨0, F, Nat.zero_le _, .inr rfl, rfl, by rw [hst0]; exact HV4.out⟩
  case round =>
    obtain ⟨k, F, hk1, hk2, rfl, hv⟩ := hrel
    have HVr := Lib.hid hv
    have hwb := hv.below
    clear hv hst0 hux hsh hsh2 hbt hb7'
    obtain ⟨x0, x1, x2, x3, x4, c0⟩ := box6 HVr.out.i2
    by_cases hlt : k < n0 ∧ k < 60
    · obtain ⟨hj1, hj2⟩ := hlt
      obtain ⟨q, hq1⟩ : ∃ q, qs[k]? = some q := ⟨_, List.getElem?_eq_getElem (by rw [HL.out]; omega)⟩
      have hnx := upsR_next (c := c) (l := 0) hq1 (Nat.zero_le k)
      have hst := stsOf_step HR.out (upsR_in HKY.out qs 0 k) (by have := upsR_len c 0 qs 0 k; omega) (upsIn_cut HKY.out [q])
      have hcu := cutU_ok HKY.out q
      obtain ⟨aa, g, o, rfl, hadd, d1w, d2w, kb, db⟩ := HQ.out.at hq1
      obtain ⟨qk, qd⟩ := q
      simp only at d1w d2w kb db
      have d1 := cell_up d1w hwb
      have d2 := cell_up d2w hwb
      obtain ⟨e1, e2, e3, e4, e5⟩ := box5 HVr.out.i1
      have CC := Lib.hid (fun w => CC0.out w qk qd kb.1 kb.2 db.1 db.2)
      obtain ⟨us, hus⟩ : ∃ us, stsOf c (upsR c 0 qs 0 k) = us := ⟨_, rfl⟩
      obtain ⟨us2, hus2⟩ : ∃ us2, stsOf c (upsR c 0 qs 0 (k + 1)) = us2 := ⟨_, rfl⟩
      rw [hus] at HVr hst
      rw [hnx] at hus2
      rw [hus2] at hst
      have HNX : Hid (stsOf c (upsR c 0 qs 0 (k + 1)) = us2) := Lib.hid (by rw [hnx]; exact hus2)
      obtain ⟨U, hU⟩ : ∃ U, (cutU c 0 (qk, qd)).1 = U := ⟨_, rfl⟩
      obtain ⟨D, hD⟩ : ∃ D, (cutU c 0 (qk, qd)).2 = D := ⟨_, rfl⟩
      rw [hU, hD] at CC hst hcu
      have HST := Lib.hid hst
      have hkk := HKB.out
      have hub : 0 ≤ U ∧ U ≤ 18446744073709551615 := ⟨hcu.1, by have := hcu.2.1; omega⟩
      have hdb : -9223372036854775808 ≤ D ∧ D ≤ 9223372036854775807 := ⟨by have := hcu.2.2.1; omega, by have := hcu.2.2.2.1; omega⟩
      clear hq1 hnx hst hcu hus hus2 hU hD d1w d2w hwb hw hK0
      go_upto_region 10 with fail
      go_region_held3 (fun w' => w'.cell? ⟨g1, 0, none⟩ = some (.int .i64 c.bt) ∧ w'.cell? ⟨g1, 1, none⟩ = some (.int .i64 c.rw) ∧ w'.cell? ⟨g1, 2, none⟩ = some (.int .i64 c.wd) ∧ w'.cell? ⟨g1, 3, none⟩ = some (.int .i64 c.md) ∧ w'.cell? ⟨g1, 4, none⟩ = some (.int .u64 c.sd) ∧ w'.cell? ⟨w.heap.size, 5, none⟩ = some (.slice (some aa) n0 k0) ∧ w'.cell? ⟨g, o, none⟩ = some (.int .u64 qk) ∧ w'.cell? ⟨g, o + 1, none⟩ = some (.int .i64 qd)) (first | (refine ⟨?_, ?_, ?_, ?_, ?_, ?_, ?_, ?_⟩ <;> (first | (with_reducible assumption) | (with_reducible refine cell_up e1 ?_) | (with_reducible refine cell_up e2 ?_) | (with_reducible refine cell_up e3 ?_) | (with_reducible refine cell_up e4 ?_) | (with_reducible refine cell_up e5 ?_) | (with_reducible refine cell_up c0 ?_) | (with_reducible refine cell_up d1 ?_) | (with_reducible refine cell_up d2 ?_)) <;> repeat' (first | (with_reducible exact Below.refl _ _) | (with_reducible assumption) | (with_reducible refine below_over ?_ _ _) | (with_reducible refine Lw.below_alloc ?_ _) | (with_reducible refine Below.drew ?_) | (with_reducible refine below_drewN ?_ _) | (with_reducible refine Below.setCell ?_ ?_ _) | go_size))) (first | (go_at_call 25; (with_reducible refine (CC.out _).mono ?_); rintro e w' ⟨rfl, hb⟩; obtain ⟨bs, dd, rfl⟩ := below_grow hb; clear hb))
      all_goals go_wp2_with (go_at_call 12; (with_reducible refine (cs_upd p F c us U D _ (stI (HVr.out.up (by repeat' (first | (with_reducible exact Below.refl _ _) | (with_reducible assumption) | (with_reducible refine below_over ?_ _ _) | (with_reducible refine Lw.below_alloc ?_ _) | (with_reducible refine Below.drew ?_) | (with_reducible refine below_drewN ?_ _) | (with_reducible refine Below.setCell ?_ ?_ _) | go_size))).i0) hub.1 hub.2 hdb.1 hdb.2).mono ?_); rintro e w8 ⟨he, F8, hnp, hnk, hnf⟩; rw [HST.out.1] at he; subst he; rw [HST.out.2] at hnp; have HV8 := Lib.hid ((HVr.out.up (by repeat' (first | (with_reducible exact Below.refl _ _) | (with_reducible assumption) | (with_reducible refine below_over ?_ _ _) | (with_reducible refine Lw.below_alloc ?_ _) | (with_reducible refine Below.drew ?_) | (with_reducible refine below_drewN ?_ _) | (with_reducible refine Below.setCell ?_ ?_ _) | go_size))).turn_0 (stT p F8 c us2) hnp hnk hnf); clear hnp hnk hnf)
      all_goals go_roundw
      all_goals first
        | exact ⟨k + 1, F8, by omega, .inl (by omega), by go_num, by rw [HNX.out]; exact HV8.out⟩
        | (simp [intOf]; omega)
    · have hend : upsR c 0 qs 0 k = upsR c 0 qs 0 60 := upsR_end hk1 (by rw [HL.out]; omega)
      rw [hend] at HVr
      obtain ⟨e1, e2, e3, e4, e5⟩ := box5 HVr.out.i1
      have hcases : ((k : Int) < n0 ∧ ¬ (k : Int) < 60) ∨ ¬ (k : Int) < n0 := by omega
      clear hend hk2 hlt hwb
      rcases hcases with ⟨hc1, hc2⟩ | hc1
      all_goals go_wp2_with (go_at_call 26; (with_reducible refine (CK.out _).mono ?_); rintro e w5 ⟨rfl, hb⟩; have HV5 := Lib.hid (HVr.out.up hb); clear hb; clear e1 e2 e3 e4 e5 x0 x1 x2 x3 x4 c0; obtain ⟨e1, e2, e3, e4, e5⟩ := box5 HV5.out.i1; obtain ⟨x0, x1, x2, x3, x4, c0⟩ := box6 HV5.out.i2)
      all_goals obtain ⟨⟨⟨m1, m2⟩, m3, m4⟩, m5⟩ := HM.out
      all_goals go_quiet (fail)
      all_goals go_wp2
      all_goals go_quiet (fail)
      all_goals go_wp2_with (first
        | (go_at_call 27; (with_reducible refine (CT0.out p F _ (stI HV8.out.i0)).mono ?_); rintro e w9 ⟨rfl, hb⟩; have HV9 := Lib.hid (HV8.out.up hb); clear hb)
        | (go_at_call 24; (with_reducible refine (CB.out _ _ _ (HQ.out.up HV7.out.below) (by omega) (by omega) (by omega) (by omega)).mono ?_); rintro e w8 ⟨rfl, hb⟩; have HV8 := Lib.hid ((HV7.out.up (by repeat' (first | (with_reducible exact Below.refl _ _) | (with_reducible assumption) | (with_reducible refine below_over ?_ _ _) | (with_reducible refine Lw.below_alloc ?_ _) | (with_reducible refine Below.drew ?_) | (with_reducible refine below_drewN ?_ _) | (with_reducible refine Below.setCell ?_ ?_ _) | go_size))).up hb); clear hb; clear e1 e2 e3 e4 e5 x0 x1 x2 x3 x4 c0; obtain ⟨e1, e2, e3, e4, e5⟩ := box5 HV8.out.i1; obtain ⟨x0, x1, x2, x3, x4, c0⟩ := box6 HV8.out.i2)
        | (go_at_call 18; (with_reducible refine (CW.out p F _ (stI HV6.out.i0)).mono ?_); rintro e w7 ⟨rfl, hb⟩; have HV7 := Lib.hid ((HV6.out.up (by repeat' (first | (with_reducible exact Below.refl _ _) | (with_reducible assumption) | (with_reducible refine below_over ?_ _ _) | (with_reducible refine Lw.below_alloc ?_ _) | (with_reducible refine Below.drew ?_) | (with_reducible refine below_drewN ?_ _) | (with_reducible refine Below.setCell ?_ ?_ _) | go_size))).up hb); clear hb; clear e1 e2 e3 e4 e5 x0 x1 x2 x3 x4 c0; obtain ⟨e1, e2, e3, e4, e5⟩ := box5 HV7.out.i1; obtain ⟨x0, x1, x2, x3, x4, c0⟩ := box6 HV7.out.i2)
        | (go_at_call 16; (with_reducible refine (CR.out _ _ p F _ (stI (HV5.out.up (by repeat' (first | (with_reducible exact Below.refl _ _) | (with_reducible assumption) | (with_reducible refine below_over ?_ _ _) | (with_reducible refine Lw.below_alloc ?_ _) | (with_reducible refine Below.drew ?_) | (with_reducible refine below_drewN ?_ _) | (with_reducible refine Below.setCell ?_ ?_ _) | go_size))).i0) (by omega) (by omega) (by omega)).mono ?_); rintro e w6 ⟨rfl, hb⟩; have HV6 := Lib.hid ((HV5.out.up (by repeat' (first | (with_reducible exact Below.refl _ _) | (with_reducible assumption) | (with_reducible refine below_over ?_ _ _) | (with_reducible refine Lw.below_alloc ?_ _) | (with_reducible refine Below.drew ?_) | (with_reducible refine below_drewN ?_ _) | (with_reducible refine Below.setCell ?_ ?_ _) | go_size))).up hb); clear hb; clear e1 e2 e3 e4 e5 x0 x1 x2 x3 x4 c0; obtain ⟨e1, e2, e3, e4, e5⟩ := box5 HV6.out.i1; obtain ⟨x0, x1, x2, x3, x4, c0⟩ := box6 HV6.out.i2))
      all_goals go_ret
      all_goals exact ⟨ret_bs (by first | rfl | (simp [*]; done)), HV9.out.below⟩
namespace spanExact
open Go.ChangeShapes Go.WideShapes Go.ChangeAt Go.Joins
set_option maxRecDepth 100000 in
theorem lifted (os : Os) (started : os.Started) (H : Type) (enc : TypeId × Value → H) :
    ReturnsInHanded {} Tryz.checked os 6 .any (Rows.spanExactSpec.pre6 enc Tryz.prog Tryz.f6 Rows.spanExactRow.domain false) (Rows.spanExactSpec.post enc Tryz.prog Tryz.f6 false true false false) := by
  refine Lw.lifted (C := Tryz.checked) (B := 4) (by kernel_rfl) os started (by kernel_rfl) Tryz.func6
    (ChangeSpec.witness6 (enc := enc) (C := Tryz.checked) false ⟨#[], #[.agg #[.int .i64 0, .int .i64 0, .int .i64 0, .int .i64 0, .int .u64 0, .slice none 0 0], .int .u64 0, .int .u64 0], []⟩ 8 (by kernel_rfl) (by kernel_rfl) (by kernel_rfl) (by kernel_rfl)) rfl Tryz.underlying4 (by kernel_rfl) (by kernel_rfl) (by kernel_rfl) ?_ ?_
  · intro ds h
    rw [Tryz.params6] at h
    match ds, h with
    | [_, _, _], _ => rfl
  · intro W base args ds p hval hA
    rw [Tryz.params6] at hA hval
    obtain ⟨v0, vs0, d0, ds0, p0, q0, hargs, rfl, rfl, h0, r0⟩ := trodAll_cons hA
    obtain ⟨v1, vs1, d1, ds1, p1, q1, rfl, rfl, rfl, h1, r1⟩ := trodAll_cons r0
    obtain ⟨v2, vs2, d2, ds2, p2, q2, rfl, rfl, rfl, h2, r2⟩ := trodAll_cons r1
    obtain ⟨rfl, rfl, rfl⟩ := trodAll_nil r2
    obtain rfl : args = #[v0, v1, v2] := by cases args; simp_all
    obtain ⟨x0, A0, n0, k0, qs0, rfl, hx0, hq0⟩ := open_playX (hval 0 27 v0 rfl rfl) h0
    obtain ⟨a1, rfl, rfl, rfl, w1⟩ := open_int Tryz.underlying22 (hval 1 22 v1 rfl rfl) h1
    have b1 := Lw.wf_u64 w1
    obtain ⟨a2, rfl, rfl, rfl, w2⟩ := open_int Tryz.underlying22 (hval 2 22 v2 rfl rfl) h2
    have b2 := Lw.wf_u64 w2
    exact exact_law x0 A0 n0 k0 qs0 a1 a2 W hx0 hq0 b1 b2
theorem over : Rows.spanExactRow.holds Tryz.pinned (OpenSpec.ofChange Rows.spanExactSpec) :=
  OpenClaim.holds_of_wide 6 Tryz.f6 rfl rfl rfl rfl rfl rfl rfl ⟨rfl, rfl, rfl, rfl, rfl⟩ rfl rfl rfl rfl rfl (by kernel_rfl) Tryz.func6 (by kernel_rfl)
    (of_decide_eq_true (by kernel_rfl)) (by unfold Func.isWrapper; first | (rw [if_pos (by decide +kernel)]; kernel_rfl) | (rw [if_neg (by decide +kernel)]; exact ⟨rfl, rfl⟩))
    (fun os started H enc _ => lifted os started H enc)
theorem proved : Rows.SpanExactSaid :=
  over
#print axioms proved
end spanExact
end Go.Proofs.YtbifihhfoanmgaaGreat.Spn
