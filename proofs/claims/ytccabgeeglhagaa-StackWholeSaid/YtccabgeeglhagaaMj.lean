/- Texts that the statements of this seat lean on, put together: StkFed, StkLawA, StkOpen, StkShr. -/
import Derived.Test.YtccabgeeglhagaaMc
import Derived.Test.YtccabgeeglhagaaMd
import Derived.Test.YtccabgeeglhagaaMf
import Derived.Test.YtccabgeeglhagaaMg
import Derived.Test.YtccabgeeglhagaaMh
import Derived.Test.YtccabgeeglhagaaMi
import Derived.Deep.LoopGhost
import Derived.Deep.RegionHeld3
import Derived.Deep.DeepCutAuto
import Derived.Deep.QuietTactic
import Derived.BigQuiet
/- fed of layer 15's laws. Printed by wip/gen/stk.py. -/
namespace Go.Proofs.Ytccabgeeglhagaa.Stk
open Go Go.RowKit Lw Grd Lin Con Shp Sk Exa Lev
set_option linter.unusedVariables false
set_option linter.unusedSimpArgs false
theorem box6 {w : World} {b : Nat} {e : TypeId} {v0 v1 v2 v3 v4 v5 : Value} (h : (boxT b e #[v0, v1, v2, v3, v4, v5]).I w) : w.cell? ⟨b, 0, none⟩ = some v0 ∧ w.cell? ⟨b, 1, none⟩ = some v1 ∧ w.cell? ⟨b, 2, none⟩ = some v2 ∧ w.cell? ⟨b, 3, none⟩ = some v3 ∧ w.cell? ⟨b, 4, none⟩ = some v4 ∧ w.cell? ⟨b, 5, none⟩ = some v5 :=
  ⟨box_cell h rfl, box_cell h rfl, box_cell h rfl, box_cell h rfl, box_cell h rfl, box_cell h rfl⟩
set_option maxRecDepth 100000 in
set_option maxHeartbeats 8000000 in
theorem fed_z (x : Cfg) (A : Option Addr) (n0 k0 : Nat) (qs : Ups) (f0 t0 : Int) (f t : Nat) (c : Cfg) (w : World) (hx : x.Ok) (hq : UpdV w A n0 k0 qs) (hf0 : f0 = f) (ht0 : t0 = t) (hft : f ≤ t) (ht : t ≤ 60) (hC : anyC x 10 9 = c) :
    Calls Try.prog 10 #[.agg #[.int .i64 x.bt, .int .i64 x.rw, .int .i64 x.wd, .int .i64 x.md, .int .u64 x.sd, .slice A n0 k0], .int .i64 10, .int .i64 0, .int .i64 f0, .int .i64 t0] w fun e w' => ∃ (p : Addr) (F : Nat → Prop), e = .returned (.tuple #[.pointer (some p), .agg #[.int .i64 c.bt, .int .i64 c.rw, .int .i64 c.wd, .int .i64 c.md, .int .u64 c.sd]]) ∧ Have w w' [stT p F c (stsOf c (upsR c 0 qs f t))] := by
  subst hf0 ht0
  have hr0 := any_right x 10 9 (by omega) (by omega) (by omega) (by omega)
  have hco0 := any_ok x hx 10 9 (by omega) (by omega) (by omega) (by omega)
  rw [hC] at hr0 hco0
  have hr := hr0
  have hco := hco0
  have CA := Lib.hid (fun w => rany_at x 10 9 c w hx (by omega) (by omega) (by omega) (by omega) hC)
  have hbt := hr.1
  have hkeys : 1 ≤ keys c 0 := keys_pos.2 ⟨hr, by omega, by omega⟩
  have CNW := Lib.hid (fun w => cs_new c w hco hr)
  obtain ⟨Z, hZ⟩ : ∃ Z, stsOf c [] = Z := ⟨_, rfl⟩
  rw [hZ] at CNW
  have hst0 : stsOf c (upsR c 0 qs f f) = Z := by rw [upsR_zero]; exact hZ
  have HQ := Lib.hid hq
  have HL := Lib.hid hq.len
  have hnc := hq.nc
  have hcm := hq.cm
  unfold maxLen at hcm
  have HR := Lib.hid hr
  have HKY := Lib.hid hkeys
  have CC0 := Lib.hid (fun w k d h0 h1 h2 h3 => rcut15_any c k d w hco h0 h1 h2 h3 hkeys)
  have HBX : Hid (Have w ((w.alloc (.cells #[.int .i64 x.bt, .int .i64 x.rw, .int .i64 x.wd, .int .i64 x.md, .int .u64 x.sd, .slice A n0 k0] 27)).alloc (.cells #[.int .i64 0, .int .i64 0, .int .i64 0, .int .i64 0, .int .u64 0] 24)) [boxT (w.heap.size + 1) 24 #[.int .i64 0, .int .i64 0, .int .i64 0, .int .i64 0, .int .u64 0], boxT w.heap.size 27 #[.int .i64 x.bt, .int .i64 x.rw, .int .i64 x.wd, .int .i64 x.md, .int .u64 x.sd, .slice A n0 k0]]) := Lib.hid (two_boxs w _ _ _ _)
  clear hC hq hr hkeys hco hx hZ hr0 hco0
  go_enter Try.func10, Try.ntmps10
  go_wp2_with (first
    | (go_at_call 26; (with_reducible refine (CNW.out _).mono ?_); rintro e w4 ⟨p, F, rfl, hsk, hfr, hb⟩; have HV4 := Lib.hid (HV2.out.push (stT p F c Z) hb hsk hfr); clear hsk hfr hb)
    | (go_at_call 28; (with_reducible refine (CA.out _).mono ?_); rintro e w1 ⟨rfl, hb⟩; have HV1 := Lib.hid (HBX.out.up hb); obtain ⟨x0, x1, x2, x3, x4, x5⟩ := box6 HV1.out.i1; have hl0 := box_lt HV1.out.i1; have hl1 := box_lt HV1.out.i0; have HV2 := Lib.hid (HV1.out.push (boxT w1.heap.size 24 #[.int .i64 c.bt, .int .i64 c.rw, .int .i64 c.wd, .int .i64 c.md, .int .u64 c.sd]) (Lw.below_alloc (Below.refl _ _) _) (heap_alloc_new w1 _) (fun k hk => Nat.le_of_eq hk.symm)); clear hb))
  obtain ⟨g1, hg1⟩ : ∃ g1, w1.heap.size = g1 := ⟨_, rfl⟩
  rw [hg1] at HV4 ⊢
  clear hg1 hl0 hl1 x0 x1 x2 x3 x4 x5
  go_loopw [15] (fun iv wr => ∃ (k : Nat) (F : Nat → Prop), f ≤ k ∧ k ≤ t ∧ (k ≤ n0 ∨ k = f) ∧ iv = .int .i64 k ∧ Have w wr [stT p F c (stsOf c (upsR c 0 qs f k)), boxT g1 24 #[.int .i64 c.bt, .int .i64 c.rw, .int .i64 c.wd, .int .i64 c.md, .int .u64 c.sd], boxT (w.heap.size + 1) 24 #[.int .i64 0, .int .i64 0, .int .i64 0, .int .i64 0, .int .u64 0], boxT w.heap.size 27 #[.int .i64 x.bt, .int .i64 x.rw, .int .i64 x.wd, .int .i64 x.md, .int .u64 x.sd, .slice A n0 k0]]) (fun iv _ => t - (intOf iv).toNat)
  case atStart => exact ⟨f, F, Nat.le_refl _, hft, .inr rfl, rfl, by rw [hst0]; exact HV4.out⟩
  case round =>
    obtain ⟨k, F, hk0, hk1, hk2, rfl, hv⟩ := hrel
    have HVr := Lib.hid hv
    have hwb := hv.below
    clear hv hst0
    obtain ⟨x0, x1, x2, x3, x4, c0⟩ := box6 HVr.out.i3
    by_cases hlt : k < n0 ∧ k < t
    · obtain ⟨hj1, hj2⟩ := hlt
      obtain ⟨q, hq1⟩ : ∃ q, qs[k]? = some q := ⟨_, List.getElem?_eq_getElem (by rw [HL.out]; omega)⟩
      have hnx := upsR_next (c := c) (l := 0) hq1 hk0
      have hst := stsOf_step HR.out (upsR_in HKY.out qs f k) (by have := upsR_len c 0 qs f k; omega) (upsIn_cut HKY.out [q])
      have hcu := cutU_ok HKY.out q
      obtain ⟨a, g, o, rfl, hadd, d1w, d2w, kb, db⟩ := HQ.out.at hq1
      obtain ⟨qk, qd⟩ := q
      simp only at d1w d2w kb db
      have d1 := cell_up d1w hwb
      have d2 := cell_up d2w hwb
      obtain ⟨e1, e2, e3, e4, e5⟩ := box5 HVr.out.i1
      have CC := Lib.hid (fun w => CC0.out w qk qd kb.1 kb.2 db.1 db.2)
      obtain ⟨us, hus⟩ : ∃ us, stsOf c (upsR c 0 qs f k) = us := ⟨_, rfl⟩
      obtain ⟨us2, hus2⟩ : ∃ us2, stsOf c (upsR c 0 qs f (k + 1)) = us2 := ⟨_, rfl⟩
      rw [hus] at HVr hst
      rw [hnx] at hus2
      rw [hus2] at hst
      have HNX : Hid (stsOf c (upsR c 0 qs f (k + 1)) = us2) := Lib.hid (by rw [hnx]; exact hus2)
      obtain ⟨U, hU⟩ : ∃ U, (cutU c 0 (qk, qd)).1 = U := ⟨_, rfl⟩
      obtain ⟨D, hD⟩ : ∃ D, (cutU c 0 (qk, qd)).2 = D := ⟨_, rfl⟩
      rw [hU, hD] at CC hst hcu
      have HST := Lib.hid hst
      have hkk := keys_bd c 0
      have hub : 0 ≤ U ∧ U ≤ 18446744073709551615 := ⟨hcu.1, by have := hcu.2.1; omega⟩
      have hdb : -9223372036854775808 ≤ D ∧ D ≤ 9223372036854775807 := ⟨by have := hcu.2.2.1; omega, by have := hcu.2.2.2.1; omega⟩
      clear hq1 hnx hst hcu hus hus2 hU hD d1w d2w hwb
      go_upto_region 11 with fail
      go_region_held3 (fun w' => w'.cell? ⟨g1, 0, none⟩ = some (.int .i64 c.bt) ∧ w'.cell? ⟨g1, 1, none⟩ = some (.int .i64 c.rw) ∧ w'.cell? ⟨g1, 2, none⟩ = some (.int .i64 c.wd) ∧ w'.cell? ⟨g1, 3, none⟩ = some (.int .i64 c.md) ∧ w'.cell? ⟨g1, 4, none⟩ = some (.int .u64 c.sd) ∧ w'.cell? ⟨w.heap.size, 5, none⟩ = some (.slice (some a) n0 k0) ∧ w'.cell? ⟨g, o, none⟩ = some (.int .u64 qk) ∧ w'.cell? ⟨g, o + 1, none⟩ = some (.int .i64 qd)) (first | (refine ⟨?_, ?_, ?_, ?_, ?_, ?_, ?_, ?_⟩ <;> (first | (with_reducible assumption) | (with_reducible refine cell_up e1 ?_) | (with_reducible refine cell_up e2 ?_) | (with_reducible refine cell_up e3 ?_) | (with_reducible refine cell_up e4 ?_) | (with_reducible refine cell_up e5 ?_) | (with_reducible refine cell_up c0 ?_) | (with_reducible refine cell_up d1 ?_) | (with_reducible refine cell_up d2 ?_)) <;> repeat' (first | (with_reducible exact Below.refl _ _) | (with_reducible assumption) | (with_reducible refine below_over ?_ _ _) | (with_reducible refine Lw.below_alloc ?_ _) | (with_reducible refine Below.drew ?_) | (with_reducible refine below_drewN ?_ _) | (with_reducible refine Below.setCell ?_ ?_ _) | go_size))) (first | (go_at_call 13; (with_reducible refine (CC.out _).mono ?_); rintro e w' ⟨rfl, hb⟩; obtain ⟨bs, dd, rfl⟩ := below_grow hb; clear hb))
      all_goals go_wp2_with (go_at_call 23; (with_reducible refine (cs_upd p F c us U D _ (stI (HVr.out.up (by repeat' (first | (with_reducible exact Below.refl _ _) | (with_reducible assumption) | (with_reducible refine below_over ?_ _ _) | (with_reducible refine Lw.below_alloc ?_ _) | (with_reducible refine Below.drew ?_) | (with_reducible refine below_drewN ?_ _) | (with_reducible refine Below.setCell ?_ ?_ _) | go_size))).i0) hub.1 hub.2 hdb.1 hdb.2).mono ?_); rintro e w8 ⟨he, F8, hnp, hnk, hnf⟩; rw [HST.out.1] at he; subst he; rw [HST.out.2] at hnp; have HV8 := Lib.hid ((HVr.out.up (by repeat' (first | (with_reducible exact Below.refl _ _) | (with_reducible assumption) | (with_reducible refine below_over ?_ _ _) | (with_reducible refine Lw.below_alloc ?_ _) | (with_reducible refine Below.drew ?_) | (with_reducible refine below_drewN ?_ _) | (with_reducible refine Below.setCell ?_ ?_ _) | go_size))).turn_0 (stT p F8 c us2) hnp hnk hnf); clear hnp hnk hnf)
      all_goals go_roundw
      all_goals first
        | exact ⟨k + 1, F8, by omega, by omega, .inl (by omega), by go_num, by rw [HNX.out]; exact HV8.out⟩
        | (simp [intOf]; omega)
    · have hend : upsR c 0 qs f k = upsR c 0 qs f t := by
        rcases hk2 with h9 | h9
        · exact upsR_end hk1 (by rw [HL.out]; omega)
        · subst h9
          exact upsR_end hk1 (by rw [HL.out]; omega)
      rw [hend] at HVr
      have HVE := Lib.hid HVr.out
      obtain ⟨e1, e2, e3, e4, e5⟩ := box5 HVr.out.i1
      obtain ⟨y1, y2, y3, y4, y5⟩ := box5 HVr.out.i2
      have z1 := boxs_frozen HVr.out.i2 0
      have z2 := boxs_frozen HVr.out.i2 1
      have z3 := boxs_frozen HVr.out.i2 2
      have z4 := boxs_frozen HVr.out.i2 3
      have z5 := boxs_frozen HVr.out.i2 4
      clear hend hk2
      by_cases hkn : k < n0
      · have hkt : t ≤ k := by omega
        clear hlt
        go_wp2
        have h5 := box5 (store5 HVE.out.i2 (.int .i64 c.bt) (.int .i64 c.rw) (.int .i64 c.wd) (.int .i64 c.md) (.int .u64 c.sd))
        have hkp := store_have (w' := (((((wr.setCell ⟨w.heap.size + 1, 0, none⟩ (.int .i64 c.bt)).setCell ⟨w.heap.size + 1, 1, none⟩ (.int .i64 c.rw)).setCell ⟨w.heap.size + 1, 2, none⟩ (.int .i64 c.wd)).setCell ⟨w.heap.size + 1, 3, none⟩ (.int .i64 c.md)).setCell ⟨w.heap.size + 1, 4, none⟩ (.int .u64 c.sd)).drew) HVE.out (by repeat' (first | (with_reducible exact Kept.refl _ _) | (with_reducible refine Kept.drew ?_) | (refine Kept.set (F := fun k => k = w.heap.size + 1) ?_ (.inl rfl) _ _)))
        go_region
        obtain ⟨wz, hwz⟩ : ∃ wz, wz = (((((wr.setCell ⟨w.heap.size + 1, 0, none⟩ (.int .i64 c.bt)).setCell ⟨w.heap.size + 1, 1, none⟩ (.int .i64 c.rw)).setCell ⟨w.heap.size + 1, 2, none⟩ (.int .i64 c.wd)).setCell ⟨w.heap.size + 1, 3, none⟩ (.int .i64 c.md)).setCell ⟨w.heap.size + 1, 4, none⟩ (.int .u64 c.sd)).drew := ⟨_, rfl⟩
        rw [← hwz] at h5 hkp ⊢
        have HKP := Lib.hid hkp
        obtain ⟨r1, r2, r3, r4, r5⟩ := h5
        clear hwz hkp e1 e2 e3 e4 e5 y1 y2 y3 y4 y5 z1 z2 z3 z4 z5
        go_wp2
        refine bodyPost_ret (v := .tuple #[.pointer (some p), .agg #[.int .i64 c.bt, .int .i64 c.rw, .int .i64 c.wd, .int .i64 c.md, .int .u64 c.sd]]) (by simp [results, Try.results10, go_sem, r1, r2, r3, r4, r5]) rfl ?_
        exact ⟨p, F, rfl, HKP.out⟩
      · have hkn2 : n0 ≤ k := by omega
        clear hlt hkn
        go_wp2
        have h5 := box5 (store5 HVE.out.i2 (.int .i64 c.bt) (.int .i64 c.rw) (.int .i64 c.wd) (.int .i64 c.md) (.int .u64 c.sd))
        have hkp := store_have (w' := (((((wr.setCell ⟨w.heap.size + 1, 0, none⟩ (.int .i64 c.bt)).setCell ⟨w.heap.size + 1, 1, none⟩ (.int .i64 c.rw)).setCell ⟨w.heap.size + 1, 2, none⟩ (.int .i64 c.wd)).setCell ⟨w.heap.size + 1, 3, none⟩ (.int .i64 c.md)).setCell ⟨w.heap.size + 1, 4, none⟩ (.int .u64 c.sd)).drew) HVE.out (by repeat' (first | (with_reducible exact Kept.refl _ _) | (with_reducible refine Kept.drew ?_) | (refine Kept.set (F := fun k => k = w.heap.size + 1) ?_ (.inl rfl) _ _)))
        go_region
        obtain ⟨wz, hwz⟩ : ∃ wz, wz = (((((wr.setCell ⟨w.heap.size + 1, 0, none⟩ (.int .i64 c.bt)).setCell ⟨w.heap.size + 1, 1, none⟩ (.int .i64 c.rw)).setCell ⟨w.heap.size + 1, 2, none⟩ (.int .i64 c.wd)).setCell ⟨w.heap.size + 1, 3, none⟩ (.int .i64 c.md)).setCell ⟨w.heap.size + 1, 4, none⟩ (.int .u64 c.sd)).drew := ⟨_, rfl⟩
        rw [← hwz] at h5 hkp ⊢
        have HKP := Lib.hid hkp
        obtain ⟨r1, r2, r3, r4, r5⟩ := h5
        clear hwz hkp e1 e2 e3 e4 e5 y1 y2 y3 y4 y5 z1 z2 z3 z4 z5
        go_wp2
        refine bodyPost_ret (v := .tuple #[.pointer (some p), .agg #[.int .i64 c.bt, .int .i64 c.rw, .int .i64 c.wd, .int .i64 c.md, .int .u64 c.sd]]) (by simp [results, Try.results10, go_sem, r1, r2, r3, r4, r5]) rfl ?_
        exact ⟨p, F, rfl, HKP.out⟩
set_option maxRecDepth 100000 in
set_option maxHeartbeats 8000000 in
theorem fed_m (x : Cfg) (A : Option Addr) (n0 k0 : Nat) (qs : Ups) (md : Int) (hm0 : 1 ≤ md) (hm1 : md ≤ 3) (f0 t0 : Int) (f t : Nat) (c : Cfg) (w : World) (hx : x.Ok) (hq : UpdV w A n0 k0 qs) (hf0 : f0 = f) (ht0 : t0 = t) (hft : f ≤ t) (ht : t ≤ 60) (hC : { anyC x 10 9 with md := md } = c) :
    Calls Try.prog 10 #[.agg #[.int .i64 x.bt, .int .i64 x.rw, .int .i64 x.wd, .int .i64 x.md, .int .u64 x.sd, .slice A n0 k0], .int .i64 10, .int .i64 md, .int .i64 f0, .int .i64 t0] w fun e w' => ∃ (p : Addr) (F : Nat → Prop), e = .returned (.tuple #[.pointer (some p), .agg #[.int .i64 c.bt, .int .i64 c.rw, .int .i64 c.wd, .int .i64 c.md, .int .u64 c.sd]]) ∧ Have w w' [stT p F c (stsOf c (upsR c 0 qs f t))] := by
  subst hf0 ht0
  have hr0 := any_right x 10 9 (by omega) (by omega) (by omega) (by omega)
  have hco0 := any_ok x hx 10 9 (by omega) (by omega) (by omega) (by omega)
  have hr : IsRight c := by rw [← hC]; exact ⟨hr0.1, hr0.2.1, hr0.2.2.1, hr0.2.2.2.1, hr0.2.2.2.2.1, hr0.2.2.2.2.2.1, hm0, hm1⟩
  have hco : c.Ok := by rw [← hC]; exact ⟨hco0.b0, hco0.b1, hco0.r0, hco0.r1, hco0.w0, hco0.w1, by show -9223372036854775808 ≤ md; omega, by show md ≤ 9223372036854775807; omega, hco0.s0, hco0.s1⟩
  obtain ⟨C, hCC⟩ : ∃ C, anyC x 10 9 = C := ⟨_, rfl⟩
  have h1 : C.bt = c.bt ∧ C.rw = c.rw ∧ C.wd = c.wd ∧ C.sd = c.sd ∧ c.md = md := by rw [← hC, ← hCC]; exact ⟨rfl, rfl, rfl, rfl, rfl⟩
  have CA := Lib.hid (fun w => rany_at x 10 9 C w hx (by omega) (by omega) (by omega) (by omega) hCC)
  rw [h1.1, h1.2.1, h1.2.2.1, h1.2.2.2.1] at CA
  have hmd := h1.2.2.2.2
  have hm9 : (0 : Int) < md := by omega
  have hbt := hr.1
  have hkeys : 1 ≤ keys c 0 := keys_pos.2 ⟨hr, by omega, by omega⟩
  have CNW := Lib.hid (fun w => cs_new c w hco hr)
  obtain ⟨Z, hZ⟩ : ∃ Z, stsOf c [] = Z := ⟨_, rfl⟩
  rw [hZ] at CNW
  have hst0 : stsOf c (upsR c 0 qs f f) = Z := by rw [upsR_zero]; exact hZ
  have HQ := Lib.hid hq
  have HL := Lib.hid hq.len
  have hnc := hq.nc
  have hcm := hq.cm
  unfold maxLen at hcm
  have HR := Lib.hid hr
  have HKY := Lib.hid hkeys
  have CC0 := Lib.hid (fun w k d h0 h1 h2 h3 => rcut15_any c k d w hco h0 h1 h2 h3 hkeys)
  have HBX : Hid (Have w ((w.alloc (.cells #[.int .i64 x.bt, .int .i64 x.rw, .int .i64 x.wd, .int .i64 x.md, .int .u64 x.sd, .slice A n0 k0] 27)).alloc (.cells #[.int .i64 0, .int .i64 0, .int .i64 0, .int .i64 0, .int .u64 0] 24)) [boxT (w.heap.size + 1) 24 #[.int .i64 0, .int .i64 0, .int .i64 0, .int .i64 0, .int .u64 0], boxT w.heap.size 27 #[.int .i64 x.bt, .int .i64 x.rw, .int .i64 x.wd, .int .i64 x.md, .int .u64 x.sd, .slice A n0 k0]]) := Lib.hid (two_boxs w _ _ _ _)
  rw [hmd] at CNW CC0 ⊢
  clear hC hq hr hkeys hco hx hZ hr0 hco0 h1 hCC hmd
  go_enter Try.func10, Try.ntmps10
  go_wp2_with (first
    | (go_at_call 26; (with_reducible refine (CNW.out _).mono ?_); rintro e w4 ⟨p, F, rfl, hsk, hfr, hb⟩; have HV4 := Lib.hid (HV2.out.push (stT p F c Z) hb hsk hfr); clear hsk hfr hb)
    | (go_at_call 28; (with_reducible refine (CA.out _).mono ?_); rintro e w1 ⟨rfl, hb⟩; have HV1 := Lib.hid (HBX.out.up hb); obtain ⟨x0, x1, x2, x3, x4, x5⟩ := box6 HV1.out.i1; have hl0 := box_lt HV1.out.i1; have hl1 := box_lt HV1.out.i0; have HV2 := Lib.hid (HV1.out.push (boxT w1.heap.size 24 #[.int .i64 c.bt, .int .i64 c.rw, .int .i64 c.wd, .int .i64 md, .int .u64 c.sd]) (Lw.below_alloc (Below.refl _ _) _) (heap_alloc_new w1 _) (fun k hk => Nat.le_of_eq hk.symm)); clear hb))
  obtain ⟨g1, hg1⟩ : ∃ g1, w1.heap.size = g1 := ⟨_, rfl⟩
  rw [hg1] at HV4 ⊢
  clear hg1 hl0 hl1 x0 x1 x2 x3 x4 x5
  go_loopw [15] (fun iv wr => ∃ (k : Nat) (F : Nat → Prop), f ≤ k ∧ k ≤ t ∧ (k ≤ n0 ∨ k = f) ∧ iv = .int .i64 k ∧ Have w wr [stT p F c (stsOf c (upsR c 0 qs f k)), boxT g1 24 #[.int .i64 c.bt, .int .i64 c.rw, .int .i64 c.wd, .int .i64 md, .int .u64 c.sd], boxT (w.heap.size + 1) 24 #[.int .i64 0, .int .i64 0, .int .i64 0, .int .i64 0, .int .u64 0], boxT w.heap.size 27 #[.int .i64 x.bt, .int .i64 x.rw, .int .i64 x.wd, .int .i64 x.md, .int .u64 x.sd, .slice A n0 k0]]) (fun iv _ => t - (intOf iv).toNat)
  case atStart => exact ⟨f, F, Nat.le_refl _, hft, .inr rfl, rfl, by rw [hst0]; exact HV4.out⟩
  case round =>
    obtain ⟨k, F, hk0, hk1, hk2, rfl, hv⟩ := hrel
    have HVr := Lib.hid hv
    have hwb := hv.below
    clear hv hst0
    obtain ⟨x0, x1, x2, x3, x4, c0⟩ := box6 HVr.out.i3
    by_cases hlt : k < n0 ∧ k < t
    · obtain ⟨hj1, hj2⟩ := hlt
      obtain ⟨q, hq1⟩ : ∃ q, qs[k]? = some q := ⟨_, List.getElem?_eq_getElem (by rw [HL.out]; omega)⟩
      have hnx := upsR_next (c := c) (l := 0) hq1 hk0
      have hst := stsOf_step HR.out (upsR_in HKY.out qs f k) (by have := upsR_len c 0 qs f k; omega) (upsIn_cut HKY.out [q])
      have hcu := cutU_ok HKY.out q
      obtain ⟨a, g, o, rfl, hadd, d1w, d2w, kb, db⟩ := HQ.out.at hq1
      obtain ⟨qk, qd⟩ := q
      simp only at d1w d2w kb db
      have d1 := cell_up d1w hwb
      have d2 := cell_up d2w hwb
      obtain ⟨e1, e2, e3, e4, e5⟩ := box5 HVr.out.i1
      have CC := Lib.hid (fun w => CC0.out w qk qd kb.1 kb.2 db.1 db.2)
      obtain ⟨us, hus⟩ : ∃ us, stsOf c (upsR c 0 qs f k) = us := ⟨_, rfl⟩
      obtain ⟨us2, hus2⟩ : ∃ us2, stsOf c (upsR c 0 qs f (k + 1)) = us2 := ⟨_, rfl⟩
      rw [hus] at HVr hst
      rw [hnx] at hus2
      rw [hus2] at hst
      have HNX : Hid (stsOf c (upsR c 0 qs f (k + 1)) = us2) := Lib.hid (by rw [hnx]; exact hus2)
      obtain ⟨U, hU⟩ : ∃ U, (cutU c 0 (qk, qd)).1 = U := ⟨_, rfl⟩
      obtain ⟨D, hD⟩ : ∃ D, (cutU c 0 (qk, qd)).2 = D := ⟨_, rfl⟩
      rw [hU, hD] at CC hst hcu
      have HST := Lib.hid hst
      have hkk := keys_bd c 0
      have hub : 0 ≤ U ∧ U ≤ 18446744073709551615 := ⟨hcu.1, by have := hcu.2.1; omega⟩
      have hdb : -9223372036854775808 ≤ D ∧ D ≤ 9223372036854775807 := ⟨by have := hcu.2.2.1; omega, by have := hcu.2.2.2.1; omega⟩
      clear hq1 hnx hst hcu hus hus2 hU hD d1w d2w hwb
      go_upto_region 11 with fail
      go_region_held3 (fun w' => w'.cell? ⟨g1, 0, none⟩ = some (.int .i64 c.bt) ∧ w'.cell? ⟨g1, 1, none⟩ = some (.int .i64 c.rw) ∧ w'.cell? ⟨g1, 2, none⟩ = some (.int .i64 c.wd) ∧ w'.cell? ⟨g1, 3, none⟩ = some (.int .i64 md) ∧ w'.cell? ⟨g1, 4, none⟩ = some (.int .u64 c.sd) ∧ w'.cell? ⟨w.heap.size, 5, none⟩ = some (.slice (some a) n0 k0) ∧ w'.cell? ⟨g, o, none⟩ = some (.int .u64 qk) ∧ w'.cell? ⟨g, o + 1, none⟩ = some (.int .i64 qd)) (first | (refine ⟨?_, ?_, ?_, ?_, ?_, ?_, ?_, ?_⟩ <;> (first | (with_reducible assumption) | (with_reducible refine cell_up e1 ?_) | (with_reducible refine cell_up e2 ?_) | (with_reducible refine cell_up e3 ?_) | (with_reducible refine cell_up e4 ?_) | (with_reducible refine cell_up e5 ?_) | (with_reducible refine cell_up c0 ?_) | (with_reducible refine cell_up d1 ?_) | (with_reducible refine cell_up d2 ?_)) <;> repeat' (first | (with_reducible exact Below.refl _ _) | (with_reducible assumption) | (with_reducible refine below_over ?_ _ _) | (with_reducible refine Lw.below_alloc ?_ _) | (with_reducible refine Below.drew ?_) | (with_reducible refine below_drewN ?_ _) | (with_reducible refine Below.setCell ?_ ?_ _) | go_size))) (first | (go_at_call 13; (with_reducible refine (CC.out _).mono ?_); rintro e w' ⟨rfl, hb⟩; obtain ⟨bs, dd, rfl⟩ := below_grow hb; clear hb))
      all_goals go_wp2_with (go_at_call 23; (with_reducible refine (cs_upd p F c us U D _ (stI (HVr.out.up (by repeat' (first | (with_reducible exact Below.refl _ _) | (with_reducible assumption) | (with_reducible refine below_over ?_ _ _) | (with_reducible refine Lw.below_alloc ?_ _) | (with_reducible refine Below.drew ?_) | (with_reducible refine below_drewN ?_ _) | (with_reducible refine Below.setCell ?_ ?_ _) | go_size))).i0) hub.1 hub.2 hdb.1 hdb.2).mono ?_); rintro e w8 ⟨he, F8, hnp, hnk, hnf⟩; rw [HST.out.1] at he; subst he; rw [HST.out.2] at hnp; have HV8 := Lib.hid ((HVr.out.up (by repeat' (first | (with_reducible exact Below.refl _ _) | (with_reducible assumption) | (with_reducible refine below_over ?_ _ _) | (with_reducible refine Lw.below_alloc ?_ _) | (with_reducible refine Below.drew ?_) | (with_reducible refine below_drewN ?_ _) | (with_reducible refine Below.setCell ?_ ?_ _) | go_size))).turn_0 (stT p F8 c us2) hnp hnk hnf); clear hnp hnk hnf)
      all_goals go_roundw
      all_goals first
        | exact ⟨k + 1, F8, by omega, by omega, .inl (by omega), by go_num, by rw [HNX.out]; exact HV8.out⟩
        | (simp [intOf]; omega)
    · have hend : upsR c 0 qs f k = upsR c 0 qs f t := by
        rcases hk2 with h9 | h9
        · exact upsR_end hk1 (by rw [HL.out]; omega)
        · subst h9
          exact upsR_end hk1 (by rw [HL.out]; omega)
      rw [hend] at HVr
      have HVE := Lib.hid HVr.out
      obtain ⟨e1, e2, e3, e4, e5⟩ := box5 HVr.out.i1
      obtain ⟨y1, y2, y3, y4, y5⟩ := box5 HVr.out.i2
      have z1 := boxs_frozen HVr.out.i2 0
      have z2 := boxs_frozen HVr.out.i2 1
      have z3 := boxs_frozen HVr.out.i2 2
      have z4 := boxs_frozen HVr.out.i2 3
      have z5 := boxs_frozen HVr.out.i2 4
      clear hend hk2
      by_cases hkn : k < n0
      · have hkt : t ≤ k := by omega
        clear hlt
        go_wp2
        have h5 := box5 (store5 HVE.out.i2 (.int .i64 c.bt) (.int .i64 c.rw) (.int .i64 c.wd) (.int .i64 md) (.int .u64 c.sd))
        have hkp := store_have (w' := (((((wr.setCell ⟨w.heap.size + 1, 0, none⟩ (.int .i64 c.bt)).setCell ⟨w.heap.size + 1, 1, none⟩ (.int .i64 c.rw)).setCell ⟨w.heap.size + 1, 2, none⟩ (.int .i64 c.wd)).setCell ⟨w.heap.size + 1, 3, none⟩ (.int .i64 md)).setCell ⟨w.heap.size + 1, 4, none⟩ (.int .u64 c.sd)).drew) HVE.out (by repeat' (first | (with_reducible exact Kept.refl _ _) | (with_reducible refine Kept.drew ?_) | (refine Kept.set (F := fun k => k = w.heap.size + 1) ?_ (.inl rfl) _ _)))
        go_region
        obtain ⟨wz, hwz⟩ : ∃ wz, wz = (((((wr.setCell ⟨w.heap.size + 1, 0, none⟩ (.int .i64 c.bt)).setCell ⟨w.heap.size + 1, 1, none⟩ (.int .i64 c.rw)).setCell ⟨w.heap.size + 1, 2, none⟩ (.int .i64 c.wd)).setCell ⟨w.heap.size + 1, 3, none⟩ (.int .i64 md)).setCell ⟨w.heap.size + 1, 4, none⟩ (.int .u64 c.sd)).drew := ⟨_, rfl⟩
        rw [← hwz] at h5 hkp ⊢
        have HKP := Lib.hid hkp
        obtain ⟨r1, r2, r3, r4, r5⟩ := h5
        clear hwz hkp e1 e2 e3 e4 e5 y1 y2 y3 y4 y5 z1 z2 z3 z4 z5
        go_wp2
        refine bodyPost_ret (v := .tuple #[.pointer (some p), .agg #[.int .i64 c.bt, .int .i64 c.rw, .int .i64 c.wd, .int .i64 md, .int .u64 c.sd]]) (by simp [results, Try.results10, go_sem, r1, r2, r3, r4, r5]) rfl ?_
        exact ⟨p, F, rfl, HKP.out⟩
      · have hkn2 : n0 ≤ k := by omega
        clear hlt hkn
        go_wp2
        have h5 := box5 (store5 HVE.out.i2 (.int .i64 c.bt) (.int .i64 c.rw) (.int .i64 c.wd) (.int .i64 md) (.int .u64 c.sd))
        have hkp := store_have (w' := (((((wr.setCell ⟨w.heap.size + 1, 0, none⟩ (.int .i64 c.bt)).setCell ⟨w.heap.size + 1, 1, none⟩ (.int .i64 c.rw)).setCell ⟨w.heap.size + 1, 2, none⟩ (.int .i64 c.wd)).setCell ⟨w.heap.size + 1, 3, none⟩ (.int .i64 md)).setCell ⟨w.heap.size + 1, 4, none⟩ (.int .u64 c.sd)).drew) HVE.out (by repeat' (first | (with_reducible exact Kept.refl _ _) | (with_reducible refine Kept.drew ?_) | (refine Kept.set (F := fun k => k = w.heap.size + 1) ?_ (.inl rfl) _ _)))
        go_region
        obtain ⟨wz, hwz⟩ : ∃ wz, wz = (((((wr.setCell ⟨w.heap.size + 1, 0, none⟩ (.int .i64 c.bt)).setCell ⟨w.heap.size + 1, 1, none⟩ (.int .i64 c.rw)).setCell ⟨w.heap.size + 1, 2, none⟩ (.int .i64 c.wd)).setCell ⟨w.heap.size + 1, 3, none⟩ (.int .i64 md)).setCell ⟨w.heap.size + 1, 4, none⟩ (.int .u64 c.sd)).drew := ⟨_, rfl⟩
        rw [← hwz] at h5 hkp ⊢
        have HKP := Lib.hid hkp
        obtain ⟨r1, r2, r3, r4, r5⟩ := h5
        clear hwz hkp e1 e2 e3 e4 e5 y1 y2 y3 y4 y5 z1 z2 z3 z4 z5
        go_wp2
        refine bodyPost_ret (v := .tuple #[.pointer (some p), .agg #[.int .i64 c.bt, .int .i64 c.rw, .int .i64 c.wd, .int .i64 md, .int .u64 c.sd]]) (by simp [results, Try.results10, go_sem, r1, r2, r3, r4, r5]) rfl ?_
        exact ⟨p, F, rfl, HKP.out⟩
end Go.Proofs.Ytccabgeeglhagaa.Stk
/- shown of layer 15's laws. Printed by wip/gen/stk2.py. -/
namespace Go.Proofs.Ytccabgeeglhagaa.Stk
open Go Go.RowKit Lw Grd Lin Con Shp Sk Exa Lev
set_option linter.unusedVariables false
set_option linter.unusedSimpArgs false
def lS : Cfg := ⟨2, 2, 2, 1, 0⟩
theorem lS_ok : lS.Ok := by constructor <;> decide
theorem lS_r : IsRight lS := by decide
theorem lS_k : keys lS 0 = 4 := by decide
theorem lS_in {us : Ups} (h : ∀ u ∈ us, (0 ≤ u.1 ∧ u.1 < 4) ∧ (-1099511627776 ≤ u.2 ∧ u.2 ≤ 1099511627776)) : UpsIn lS 0 us :=
  ⟨fun u hu => ⟨(h u hu).1.1, by rw [lS_k]; exact (h u hu).1.2, (h u hu).2⟩, fun hm => by simp [lS] at hm⟩
theorem sS_1 : sucode lS (stsOf lS []) 3 5 = 0 ∧ sures lS (stsOf lS []) 3 5 = stsOf lS [(3, 5)] :=
  stsOf_step lS_r (lS_in (fun u hu => by simp at hu)) (by decide) (u := (3, 5)) (lS_in (fun u hu => by rw [List.mem_singleton.1 hu]; decide))
theorem sS_2 : sucode lS (stsOf lS [(3, 5)]) 0 (-2) = 0 ∧ sures lS (stsOf lS [(3, 5)]) 0 (-2) = stsOf lS [(3, 5), (0, -2)] :=
  stsOf_step lS_r (lS_in (fun u hu => by rw [List.mem_singleton.1 hu]; decide)) (by decide) (u := (0, -2)) (lS_in (fun u hu => by rw [List.mem_singleton.1 hu]; decide))
theorem sS_3 (sts : List LS) : sucode lS sts 4 1 = 2 ∧ sures lS sts 4 1 = sts := by
  have e : sucode lS sts 4 1 = 2 := if_pos (by rw [lS_k]; decide)
  exact ⟨e, if_neg (by rw [e]; decide)⟩
theorem sz_flat2 {m n : Nat} {L : List (List Int)} (h : Sz m n L) : L.flatten.length = m * n := by
  have h2 : ∀ {L : List (List Int)}, (∀ r ∈ L, r.length = n) → L.flatten.length = L.length * n := by
    intro L
    induction L with
    | nil => intro _; simp
    | cons r L ih =>
      intro hr
      rw [List.flatten_cons, List.length_append, ih (fun q hq => hr q (by simp [hq])), hr r (by simp), List.length_cons, Nat.succ_mul]
      omega
  rw [h2 h.2, h.1]
theorem sS_c0 : (lvFl (stsOf lS [(3, 5), (0, -2)]) 0).length = 4 := by
  have h1 : UpsIn lS 0 [(3, 5), (0, -2)] := lS_in (fun u hu => by
    rcases List.mem_cons.1 hu with rfl | hu
    · decide
    · rw [List.mem_singleton.1 hu]; decide)
  have h2 := upN_in lS_r h1 (n := 0) (by decide)
  have h3 := sz_flat2 (cells_sz h2)
  have e : lvFl (stsOf lS [(3, 5), (0, -2)]) 0 = (cells lS 0 (upN [(3, 5), (0, -2)] 0)).flatten := rfl
  rw [e]
  exact h3
theorem sS_c1 : lvFl (stsOf lS [(3, 5), (0, -2)]) 1 = [-2, 5] := by decide
theorem sS_p1 : spV lS (stsOf lS [(3, 5), (0, -2)]) 1 1 = 5 ∧ spC lS (stsOf lS [(3, 5), (0, -2)]) 1 1 = 0 := by decide
theorem sS_p3 : spC lS (stsOf lS [(3, 5), (0, -2)]) 3 0 = 2 := by decide
theorem sS_t : spV lS (stsOf lS [(3, 5), (0, -2)]) lS.bt 0 = 3 := by decide
theorem sS_a : (stsOf lS [(3, 5), (0, -2)])[1]? = some (.A [-2, 5]) := by
  have h := stsOf_get (c := lS) (us := [(3, 5), (0, -2)]) (n := 1) (by decide)
  have e : stOf lS [(3, 5), (0, -2)] 1 = .A (sums (keys lS 1).toNat (upN [(3, 5), (0, -2)] 1)) := if_pos (by decide)
  have e2 : sums (keys lS 1).toNat (upN [(3, 5), (0, -2)] 1) = [-2, 5] := by decide
  rw [h, e, e2]
theorem sn_1 (w : World) : Calls Try.prog 26 #[.agg #[.int .i64 2, .int .i64 2, .int .i64 2, .int .i64 1, .int .u64 0]] w fun e w' => ∃ (p : Addr) (F : Nat → Prop), e = .returned (.tuple #[.pointer (some p), .int .i64 0]) ∧ ST w' p F lS (stsOf lS []) ∧ (∀ k, F k → w.heap.size ≤ k) ∧ Below w.heap.size w w' := cs_new lS w lS_ok lS_r
theorem sn_0 (w : World) : Calls Try.prog 26 #[.agg #[.int .i64 0, .int .i64 0, .int .i64 0, .int .i64 0, .int .u64 0]] w fun e w' => e = .returned (.tuple #[.pointer none, .int .i64 1]) ∧ Below w.heap.size w w' := cs_none ⟨0, 0, 0, 0, 0⟩ w (by constructor <;> decide) (by decide)
theorem su_any (p : Addr) (F : Nat → Prop) (sts sts2 : List LS) (k d x : Int) (w : World) (h : ST w p F lS sts) (k0 : 0 ≤ k) (k1 : k ≤ 18446744073709551615) (d0 : -9223372036854775808 ≤ d) (d1 : d ≤ 9223372036854775807) (hu : sucode lS sts k d = x ∧ sures lS sts k d = sts2) :
    Calls Try.prog 23 #[.pointer (some p), .int .u64 k, .int .i64 d] w fun e w' => e = .returned (.int .i64 x) ∧ ∃ F', ST w' p F' lS sts2 ∧ Kept F w w' ∧ (∀ q, F' q → F q ∨ w.heap.size ≤ q) := by
  have h1 := cs_upd p F lS sts k d w h k0 k1 d0 d1
  rw [hu.1, hu.2] at h1
  exact h1
theorem sp_1 (p : Addr) (F : Nat → Prop) (w : World) (h : ST w p F lS (stsOf lS [(3, 5), (0, -2)])) : Calls Try.prog 17 #[.pointer (some p), .agg #[.int .i64 1, .int .u64 1]] w fun e w' => e = .returned (.tuple #[.int .i64 5, .int .i64 0]) ∧ Below w.heap.size w w' := by
  have h1 := cs_point p F lS _ 1 1 w h (by decide) (by decide) (by decide) (by decide)
  rw [sS_p1.1, sS_p1.2] at h1
  exact h1
theorem sp_3 (p : Addr) (F : Nat → Prop) (w : World) (h : ST w p F lS (stsOf lS [(3, 5), (0, -2)])) : Calls Try.prog 17 #[.pointer (some p), .agg #[.int .i64 3, .int .u64 0]] w fun e w' => ∃ z, e = .returned (.tuple #[.int .i64 z, .int .i64 2]) ∧ Below w.heap.size w w' := by
  have h1 := cs_point p F lS _ 3 0 w h (by decide) (by decide) (by decide) (by decide)
  rw [sS_p3] at h1
  exact h1.mono (fun e w' h => ⟨_, h⟩)
theorem st_3 (p : Addr) (F : Nat → Prop) (w : World) (h : ST w p F lS (stsOf lS [(3, 5), (0, -2)])) : Calls Try.prog 18 #[.pointer (some p)] w fun e w' => e = .returned (.int .i64 3) ∧ Below w.heap.size w w' := by
  have h1 := cs_total p F lS _ w h
  rw [sS_t] at h1
  exact h1
theorem sa_1 (p : Addr) (F : Nat → Prop) (w : World) (h : ST w p F lS (stsOf lS [(3, 5), (0, -2)])) : Calls Try.prog 24 #[.pointer (some p), .int .i64 1] w fun e w' => ∃ q, e = .returned (.tuple #[.iface 97 (.pointer (some q)), .bool true]) ∧ Below w.heap.size w w' := by
  refine (cs_at p F lS _ 1 _ w h sS_a).mono ?_
  rintro e w' ⟨v, Q, rfl, ⟨-, q, rfl, -⟩, -, hb⟩
  exact ⟨q, rfl, hb⟩
theorem sc_0 (p : Addr) (F : Nat → Prop) (w : World) (h : ST w p F lS (stsOf lS [(3, 5), (0, -2)])) : Calls Try.prog 16 #[.pointer (some p), .int .i64 0] w fun e w' => ∃ (A : Option Addr) (cap : Nat), e = .returned (.slice A 4 cap) ∧ Below w.heap.size w w' := by
  refine (cs_cells p F lS _ 0 w h (by decide) (by decide)).mono ?_
  rintro e w' ⟨A, m, cap, rfl, -, hm, -, hb⟩
  rw [sS_c0] at hm
  subst hm
  exact ⟨A, cap, rfl, hb⟩
theorem sc_1 (p : Addr) (F : Nat → Prop) (w : World) (h : ST w p F lS (stsOf lS [(3, 5), (0, -2)])) : Calls Try.prog 16 #[.pointer (some p), .int .i64 1] w fun e w' => ∃ (A : Option Addr) (cap : Nat), e = .returned (.slice A 2 cap) ∧ Rd .i64 w' A [-2, 5] ∧ Below w.heap.size w w' := by
  refine (cs_cells p F lS _ 1 w h (by decide) (by decide)).mono ?_
  rintro e w' ⟨A, m, cap, rfl, hr, hm, -, hb⟩
  rw [sS_c1] at hr hm
  subst hm
  exact ⟨A, cap, rfl, hr, hb⟩
theorem lit_m2 (X : World) : Rd .i64 (X.alloc (.cells #[.int .i64 (-2), .int .i64 5] 2)) (some ⟨X.heap.size, 0, none⟩) [-2, 5] := by
  have hb := heap_alloc_new X (.cells #[.int .i64 (-2), .int .i64 5] 2)
  exact lit2 (box_cell hb rfl) (box_cell hb rfl)
set_option maxRecDepth 100000 in
set_option maxHeartbeats 8000000 in
theorem shown_any (w : World) : Calls Try.prog 9 #[] w fun e w' => e = .returned (.bool true) ∧ Below w.heap.size w w' := by
  have HV0 : Hid (Have w w []) := Lib.hid (Below.refl _ _)
  have l2 : ([-2, 5] : List Int).length = 2 := rfl
  have eq2 : decide (([-2, 5] : List Int) = [-2, 5]) = true := decide_eq_true rfl
  go_enter Try.func9, Try.ntmps9
  go_wp2_with (first
    | (go_at_call 15; (with_reducible refine (rsame_any _ _ _ _ _ _ [-2, 5] [-2, 5] _ (RD.out.up (by repeat' (first | (with_reducible exact Below.refl _ _) | (with_reducible assumption) | (with_reducible refine below_over ?_ _ _) | (with_reducible refine Lw.below_alloc ?_ _) | (with_reducible refine Below.drew ?_) | (with_reducible refine below_drewN ?_ _) | (with_reducible refine Below.setCell ?_ ?_ _) | go_size))) (lit_m2 _) l2 l2 (by omega) (by omega)).mono ?_); rintro e wd ⟨rfl, hb⟩; have HVd := Lib.hid ((HVc.out.up (by repeat' (first | (with_reducible exact Below.refl _ _) | (with_reducible assumption) | (with_reducible refine below_over ?_ _ _) | (with_reducible refine Lw.below_alloc ?_ _) | (with_reducible refine Below.drew ?_) | (with_reducible refine below_drewN ?_ _) | (with_reducible refine Below.setCell ?_ ?_ _) | go_size))).up hb); clear hb)
    | (go_at_call 16; (with_reducible refine (sc_1 p F3 _ (stI HVb.out.i0)).mono ?_); rintro e wc ⟨A2, cap2, rfl, hr, hb⟩; have RD := Lib.hid hr; have HVc := Lib.hid (HVb.out.up hb); clear hb hr)
    | (go_at_call 16; (with_reducible refine (sc_0 p F3 _ (stI HVa.out.i0)).mono ?_); rintro e wb ⟨A1, cap1, rfl, hb⟩; have HVb := Lib.hid (HVa.out.up hb); clear hb)
    | (go_at_call 18; (with_reducible refine (st_3 p F3 _ (stI HV9.out.i0)).mono ?_); rintro e wa ⟨rfl, hb⟩; have HVa := Lib.hid (HV9.out.up hb); clear hb)
    | (go_at_call 24; (with_reducible refine (sa_1 p F3 _ (stI HV8.out.i0)).mono ?_); rintro e w9 ⟨q, rfl, hb⟩; have HV9 := Lib.hid (HV8.out.up hb); clear hb)
    | (go_at_call 17; (with_reducible refine (sp_3 p F3 _ (stI HV7.out.i0)).mono ?_); rintro e w8 ⟨z, rfl, hb⟩; have HV8 := Lib.hid (HV7.out.up hb); clear hb)
    | (go_at_call 17; (with_reducible refine (sp_1 p F3 _ (stI HV6.out.i0)).mono ?_); rintro e w7 ⟨rfl, hb⟩; have HV7 := Lib.hid (HV6.out.up hb); clear hb)
    | (go_at_call 23; (with_reducible refine (su_any p F2 _ _ _ _ _ _ (stI HV5.out.i0) (by decide) (by decide) (by decide) (by decide) (sS_3 _)).mono ?_); rintro e w6 ⟨rfl, F3, h1, h2, h3⟩; have HV6 := Lib.hid (HV5.out.turn_0 (stT p F3 lS (stsOf lS [(3, 5), (0, -2)])) h1 h2 h3); clear h1 h2 h3)
    | (go_at_call 23; (with_reducible refine (su_any p F1 _ _ _ _ _ _ (stI HV4.out.i0) (by decide) (by decide) (by decide) (by decide) sS_2).mono ?_); rintro e w5 ⟨rfl, F2, h1, h2, h3⟩; have HV5 := Lib.hid (HV4.out.turn_0 (stT p F2 lS (stsOf lS [(3, 5), (0, -2)])) h1 h2 h3); clear h1 h2 h3)
    | (go_at_call 23; (with_reducible refine (su_any p F _ _ _ _ _ _ (stI HV2.out.i0) (by decide) (by decide) (by decide) (by decide) sS_1).mono ?_); rintro e w4 ⟨rfl, F1, h1, h2, h3⟩; have HV4 := Lib.hid (HV2.out.turn_0 (stT p F1 lS (stsOf lS [(3, 5)])) h1 h2 h3); clear h1 h2 h3)
    | (go_at_call 26; (with_reducible refine (sn_0 _).mono ?_); rintro e w2 ⟨rfl, hb⟩; have HV2 := Lib.hid (HV1.out.up hb); clear hb)
    | (go_at_call 26; (with_reducible refine (sn_1 _).mono ?_); rintro e w1 ⟨p, F, rfl, h1, h2, hb⟩; have HV1 := Lib.hid (HV0.out.push (stT p F lS (stsOf lS [])) hb h1 h2); clear h1 h2 hb))
  go_ret
  exact ⟨ret_bs (by first | rfl | (simp [*]; done)), HVd.out.below⟩
end Go.Proofs.Ytccabgeeglhagaa.Stk
/- A Play of layer 15, opened. Printed by wip/gen/stk5.py. -/
namespace Go.Proofs.Ytccabgeeglhagaa.Stk
open Go Go.RowKit Lw Grd Lin Con Shp Sk Exa Lev
set_option linter.unusedVariables false
set_option linter.unusedSimpArgs false
theorem open_playW_c : Try.prog.cellsOf 27 = 6 := by kernel_rfl
set_option maxRecDepth 100000 in
theorem open_playW {H : Type} {enc : TypeId × Value → H} {w : World} {v : Value} {d : DataW H} {p : List MemPlace} {base : Nat} (hv : Value.okWide Try.prog w .any base 27 v)
    (h : DataW.Trod enc Try.prog w 0 (fun _ => true) true 27 v d p) :
    ∃ (c : Cfg) (A : Option Addr) (n k : Nat) (qs : Ups), v = .agg #[.int .i64 c.bt, .int .i64 c.rw, .int .i64 c.wd, .int .i64 c.md, .int .u64 c.sd, .slice A n k] ∧ c.Ok ∧ UpdV w A n k qs := by
  have hcs : ∃ cs : Array Value, v = .agg cs ∧ cs.size = Try.prog.cellsOf 27 := by
    simp only [Value.okWide, Try.underlying27] at hv
    obtain ⟨cs, h1, h2, _⟩ := hv
    exact ⟨cs, h1, h2⟩
  obtain ⟨⟨l⟩, rfl, hsz⟩ := hcs
  rw [open_playW_c] at hsz
  obtain ⟨fuel, hf0⟩ := h
  obtain ⟨xs, k, _, _, _, hxl, hf⟩ := DataW.trod_struct Try.underlying27 hf0
  match xs, hxl, l, hsz with
  | [y0, y1], _, [v0, v1, v2, v3, v4, v5], _ =>
    have g0 := hf 0 _ rfl
    have g1 := hf 1 _ rfl
    simp [Value.cells, show Try.prog.cellsOf 24 = 5 from by kernel_rfl, show Try.prog.cellsOf 25 = 1 from by kernel_rfl] at g0 g1
    obtain ⟨zs, k2, _, _, _, hzl, hz⟩ := DataW.trod_struct Try.underlying24 g0
    match zs, hzl with
    | [z0, z1, z2, z3, z4], _ =>
      have c0 := hz 0 _ rfl
      have c1 := hz 1 _ rfl
      have c2 := hz 2 _ rfl
      have c3 := hz 3 _ rfl
      have c4 := hz 4 _ rfl
      simp [show Try.prog.cellsOf 3 = 1 from by kernel_rfl, show Try.prog.cellsOf 22 = 1 from by kernel_rfl] at c0 c1 c2 c3 c4
      obtain ⟨x0, f0, _, w0⟩ := DataW.trod_int (show Try.prog.underlying 3 = some (.int .i64) by kernel_rfl) c0
      simp at f0
      subst f0
      obtain ⟨x1, f1, _, w1⟩ := DataW.trod_int (show Try.prog.underlying 3 = some (.int .i64) by kernel_rfl) c1
      simp at f1
      subst f1
      obtain ⟨x2, f2, _, w2⟩ := DataW.trod_int (show Try.prog.underlying 3 = some (.int .i64) by kernel_rfl) c2
      simp at f2
      subst f2
      obtain ⟨x3, f3, _, w3⟩ := DataW.trod_int (show Try.prog.underlying 3 = some (.int .i64) by kernel_rfl) c3
      simp at f3
      subst f3
      obtain ⟨x4, f4, _, w4⟩ := DataW.trod_int (show Try.prog.underlying 22 = some (.int .u64) by kernel_rfl) c4
      simp at f4
      subst f4
      obtain ⟨A, n, cp, qs, f6, h0, h1, h2, h3, h4⟩ := open_upds g1
      simp at f6
      subst f6
      have b0 := Lw.wf_i64 w0
      have b1 := Lw.wf_i64 w1
      have b2 := Lw.wf_i64 w2
      have b3 := Lw.wf_i64 w3
      have b4 := Lw.wf_u64 w4
      exact ⟨⟨x0, x1, x2, x3, x4⟩, A, n, cp, qs, rfl, ⟨b0.1, b0.2, b1.1, b1.2, b2.1, b2.2, b3.1, b3.2, b4.1, b4.2⟩, ⟨h0, h1, h2, h3, h4⟩⟩
end Go.Proofs.Ytccabgeeglhagaa.Stk
/- What the laws of layer 15 share: what Cells answers as a thing, and how long it is. Printed by wip/gen/stk6.py. -/
namespace Go.Proofs.Ytccabgeeglhagaa.Stk
open Go Go.RowKit Lw Grd Lin Con Shp Sk Exa Lev
set_option linter.unusedVariables false
set_option linter.unusedSimpArgs false
/-- Numbers that lie somewhere, as a thing. -/
def rdT (A : Option Addr) (L : List Int) : Thing where
  I := fun w => Rd .i64 w A L ∧ ∀ a, A = some a → a.block < w.heap.size
  F := fun k => ∃ a, A = some a ∧ a.block = k
  keep := fun w w' H h hk hf => ⟨h.1.keep hk (fun a e => hf _ ⟨a, e, rfl⟩), fun a e => Nat.lt_of_lt_of_le (h.2 a e) hk.size⟩
  lt := fun w h k hk => by
    obtain ⟨a, e, rfl⟩ := hk
    exact h.2 a e
theorem rdI {w : World} {A : Option Addr} {L : List Int} (h : (rdT A L).I w) : Rd .i64 w A L := h.1
theorem lv_at {c : Cfg} (hr : IsRight c) (us : Ups) {n : Nat} (hn : (n : Int) ≤ c.bt) : lvFl (stsOf c us) n = (stOf c us n).fl := by
  have hb := hr.1
  unfold lvFl
  rw [if_pos (by omega), Int.toNat_natCast, stsOf_get (by omega)]
  rfl
theorem lv_size {c : Cfg} (hr : IsRight c) {us : Ups} (h : UpsIn c 0 us) {n : Nat} (hn : (n : Int) ≤ c.bt) : 1 ≤ (lvFl (stsOf c us) n).length ∧ (lvFl (stsOf c us) n).length ≤ 1024 := by
  rw [lv_at hr us hn]
  have hi := upN_in hr h hn
  have hw := wds_bd hr
  have hrw := rws_bd hr
  unfold stOf
  by_cases hx : exactB c n = true
  · rw [if_pos hx]
    show 1 ≤ (sums _ _).length ∧ (sums _ _).length ≤ 1024
    rw [sums_len]
    obtain ⟨h1, h2⟩ := of_decide_eq_true hx
    omega
  · rw [if_neg hx]
    show 1 ≤ (cells c n (upN us n)).flatten.length ∧ (cells c n (upN us n)).flatten.length ≤ 1024
    have hs := cells_sz hi
    have h1 : (cells c n (upN us n)).flatten.length = rws c * wds c := by
      rw [List.length_flatten, List.map_congr_left (g := fun _ => wds c) (fun r hr2 => hs.2 r hr2), List.map_const', List.sum_replicate_nat, hs.1]
    rw [h1]
    exact ⟨Nat.mul_pos (by omega) (by omega), Nat.mul_le_mul hrw.2.1 hw.2.1⟩
theorem ad_block (a : Addr) (j : Nat) : (a.add j).block = a.block := by
  unfold Addr.add
  split <;> rfl
theorem cs_row (p : Addr) (F : Nat → Prop) (c : Cfg) (sts : List LS) (n : Nat) (L : List Int) (w : World) (h : ST w p F c sts) (hn : (n : Int) ≤ 59) (hL : lvFl sts n = L) (h1 : 1 ≤ L.length) (h2 : L.length ≤ 1024) :
    Calls Try.prog 16 #[.pointer (some p), .int .i64 n] w fun e w' => ∃ (A : Option Addr) (cap : Nat), e = .returned (.slice A L.length cap) ∧ (rdT A L).I w' ∧ (∀ k, (rdT A L).F k → w.heap.size ≤ k) ∧ Below w.heap.size w w' := by
  refine (cs_cells p F c sts n w h (by omega) (by omega)).mono ?_
  rintro e w' ⟨A, m, cap, rfl, hrd, hm, hA, hb⟩
  rw [hL] at hrd hm
  subst hm
  refine ⟨A, cap, rfl, ⟨hrd, fun a ha => ?_⟩, fun k hk => ?_, hb⟩
  · obtain ⟨v, hv⟩ : ∃ v, L[0]? = some v := ⟨_, List.getElem?_eq_getElem (by omega)⟩
    obtain ⟨ad, e, hc⟩ := hrd 0 v hv
    rw [ha] at e
    injection e with e
    subst e
    have h3 := cell_lt hc
    rwa [ad_block] at h3
  · obtain ⟨a, e, rfl⟩ := hk
    exact hA a e
end Go.Proofs.Ytccabgeeglhagaa.Stk
