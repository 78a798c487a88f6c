/- The statement InnerTurned of layer 11 holds: it does not matter which of two sketches is named first; of a sketch that has nothing the product is 0; for any config (six bits, nine columns, Linear), level, and updates of both (thirty each, by less than 2 to the power of 20). Printed by wip/gen/innfed.py. -/
import Derived.Test.YthecgkgnngpikaaMi
import Derived.Deep.LoopGhost
import Derived.Deep.RegionHeld3
import Derived.Deep.DeepCutAuto
import Derived.Deep.QuietTactic
import Derived.BigQuiet
namespace Go.Proofs.Ythecgkgnngpikaa.Inn
open Go Go.RowKit Lw Grd Lin Con Shp Sk
set_option linter.unusedVariables false
set_option linter.unusedSimpArgs false
set_option maxRecDepth 100000 in
set_option maxHeartbeats 8000000 in
theorem turned_law (x : Cfg) (lv : Int) (A : Option Addr) (n0 k0 : Nat) (qs : Ups) (B : Option Addr) (n1 k1 : Nat) (ps : Ups) (w : World) (hx : x.Ok) (hlv : -9223372036854775808 ≤ lv ∧ lv ≤ 9223372036854775807) (hq : UpdV w A n0 k0 qs) (hp : UpdV w B n1 k1 ps) :
    Calls Try.prog 6 #[.agg #[.int .i64 x.bt, .int .i64 x.rw, .int .i64 x.wd, .int .i64 x.md, .int .u64 x.sd, .int .i64 lv, .slice A n0 k0, .slice B n1 k1]] w fun e w' => e = .returned (.bool true) ∧ Below w.heap.size w w' := by
  obtain ⟨c, hC⟩ : ∃ c, cfgM x 6 1 = c := ⟨_, rfl⟩
  have hr := cfgM_right x 6 1 (by omega) (by omega) (by omega) (by omega)
  have hco := cfgM_ok x hx 6 1 (by omega) (by omega) (by omega) (by omega)
  rw [hC] at hr hco
  obtain ⟨C, hCC⟩ : ∃ C, anyC x 6 9 = C := ⟨_, rfl⟩
  have h1 : C.bt = c.bt ∧ C.rw = c.rw ∧ C.wd = c.wd ∧ C.sd = c.sd ∧ c.md = 1 := by rw [← hC, ← hCC]; exact ⟨rfl, rfl, rfl, rfl, rfl⟩
  have CA := Lib.hid (fun w => rany_at x 6 9 C w hx (by omega) (by omega) (by omega) (by omega) hCC)
  rw [h1.1, h1.2.1, h1.2.2.1, h1.2.2.2.1] at CA
  have hmd := h1.2.2.2.2
  obtain ⟨X, l, a1, b1, c1, dd1, ee1, ff1⟩ := level_of lv (c.bt + 1) (by have := hr.1.1; omega) (by omega)
  have hbt := hr.1.1
  have hkeys : 1 ≤ keys c l := keys_pos.2 ⟨hr.1, by omega, by omega⟩
  have CNW := Lib.hid (fun w => snew_yes c l w hco (by omega) (by omega) hkeys)
  have CK0 := Lib.hid (fun w => rkeys_any c l w hco (by omega) (by omega))
  have hnc := hq.nc
  have hcm := hq.cm
  have hnc1 := hp.nc
  have hcm1 := hp.cm
  unfold maxLen at hcm hcm1
  have HQ := Lib.hid hq
  have HL := Lib.hid hq.len
  have HQ1 := Lib.hid hp
  have HL1 := Lib.hid hp.len
  have HM := Lib.hid hmd
  have HR := Lib.hid hr.1
  have HKY := Lib.hid hkeys
  have kA := cells_in hmd (tk_ok hkeys qs 30) (tk_len (cutT c l) qs 30)
  have kB := cells_in hmd (tk_ok hkeys ps 30) (tk_len (cutT c l) ps 30)
  have iAB := in_yes (l := l) hmd (oks_small hr.1 kA kB)
  have iBA := in_yes (l := l) hmd (oks_small hr.1 kB kA)
  rw [dots_comm] at iBA
  have iA0 := in_zero (l := l) hr.1 hmd kA.1
  have CI1 := Lib.hid (fun p F q G w h g => inner_any p F c l (cells c l (tk (cutT c l) qs 30)) q G c l (cells c l (tk (cutT c l) ps 30)) w h g)
  have CI2 := Lib.hid (fun p F q G w h g => inner_any p F c l (cells c l (tk (cutT c l) ps 30)) q G c l (cells c l (tk (cutT c l) qs 30)) w h g)
  have CI3 := Lib.hid (fun p F q G w h g => inner_any p F c l (cells c l (tk (cutT c l) qs 30)) q G c l (zerosL (rws c) (wds c)) w h g)
  rw [iAB.1, iAB.2] at CI1
  rw [iBA.1, iBA.2] at CI2
  rw [iA0.1, iA0.2, (show Wid.fh 0 = 0 by decide), (show Wid.fl 0 = 0 by decide)] at CI3
  obtain ⟨V, hV⟩ : ∃ V, lmin (dots (cells c l (tk (cutT c l) qs 30)) (cells c l (tk (cutT c l) ps 30))) = V := ⟨_, rfl⟩
  rw [hV] at CI1 CI2
  obtain ⟨P, hP⟩ : ∃ P, Wid.fh V = P := ⟨_, rfl⟩
  obtain ⟨Q, hQ⟩ : ∃ Q, Wid.fl V = Q := ⟨_, rfl⟩
  rw [hP, hQ] at CI1 CI2
  have HBX : Hid (Have w (w.alloc (.cells #[.int .i64 x.bt, .int .i64 x.rw, .int .i64 x.wd, .int .i64 x.md, .int .u64 x.sd, .int .i64 lv, .slice A n0 k0, .slice B n1 k1] 34)) [boxT w.heap.size 34 #[.int .i64 x.bt, .int .i64 x.rw, .int .i64 x.wd, .int .i64 x.md, .int .u64 x.sd, .int .i64 lv, .slice A n0 k0, .slice B n1 k1]]) := Lib.hid (box_new w _ _)
  rw [hmd] at CNW CK0
  have hw1 : IntKind.i64.wrap (c.bt + 1) = c.bt + 1 := IntWalk.i64_in _ ⟨by omega, by omega⟩
  have hw2 : wrap64 (c.bt + 1) = c.bt + 1 := IntWalk.wrap64_in _ ⟨by omega, by omega⟩
  have hbn : ¬ c.bt + 1 = 0 := by omega
  clear hC hCC h1 hmd hq hp hr hkeys hco hx kA kB iAB iBA iA0 hV hP hQ
  go_enter Try.func6, Try.ntmps6
  go_wp2_with (first
    | (go_at_call 14; (with_reducible refine (CNW.out _).mono ?_); rintro e w5 ⟨r0, N, rfl, h1, h2, hb⟩; have HV5 := Lib.hid (HV4.out.push (skT r0 N c l (zerosL (rws c) (wds c))) hb h1 h2); clear h1 h2 hb)
    | (go_at_call 14; (with_reducible refine (CNW.out _).mono ?_); rintro e w4 ⟨q, G, rfl, h1, h2, hb⟩; have HV4 := Lib.hid (HV3.out.push (skT q G c l (zerosL (rws c) (wds c))) hb h1 h2); clear h1 h2 hb; clear x5 x6 x7 x0 x1 x2 x3 x4 c0 c1 c2 c3 c4; obtain ⟨x5, x6, x7, x0, x1, x2, x3, x4⟩ := box8 HV4.out.i3; obtain ⟨c0, c1, c2, c3, c4⟩ := box5 HV4.out.i2)
    | (go_at_call 14; (with_reducible refine (CNW.out _).mono ?_); rintro e w3 ⟨p, F, rfl, h1, h2, hb⟩; have HV3 := Lib.hid (HV2.out.push (skT p F c l (zerosL (rws c) (wds c))) hb h1 h2); clear h1 h2 hb; clear x5 x6 x7 x0 x1 x2 x3 x4 c0 c1 c2 c3 c4; obtain ⟨x5, x6, x7, x0, x1, x2, x3, x4⟩ := box8 HV3.out.i2; obtain ⟨c0, c1, c2, c3, c4⟩ := box5 HV3.out.i1)
    | (go_at_call 13; (with_reducible refine (CA.out _).mono ?_); rintro e w2 ⟨rfl, hb⟩; have HV2 := Lib.hid ((HV1.out.up hb).push (boxT w2.heap.size 31 #[.int .i64 c.bt, .int .i64 c.rw, .int .i64 c.wd, .int .i64 1, .int .u64 c.sd]) (Lw.below_alloc (Below.refl _ _) _) (heap_alloc_new w2 _) (fun k hk => Nat.le_of_eq hk.symm)); clear hb; clear x5 x6 x7 x0 x1 x2 x3 x4; obtain ⟨x5, x6, x7, x0, x1, x2, x3, x4⟩ := box8 HV2.out.i1; obtain ⟨c0, c1, c2, c3, c4⟩ := box5 HV2.out.i0)
    | (go_at_call 10; (with_reducible refine (shown_any _).mono ?_); rintro e w1 ⟨rfl, hb⟩; have HV1 := Lib.hid (HBX.out.up hb); clear hb; obtain ⟨x5, x6, x7, x0, x1, x2, x3, x4⟩ := box8 HV1.out.i0))
  obtain ⟨gc, hgc⟩ : ∃ gc, w2.heap.size = gc := ⟨_, rfl⟩
  rw [hgc] at HV5 ⊢
  clear hgc HV4 HV3 HV2 HV1 x5 x6 x7 x0 x1 x2 x3 x4 c0 c1 c2 c3 c4
  have HVS := HV5
  go_loopw [12] (fun iv wr => ∃ (k : Nat) (F : Nat → Prop), k ≤ 30 ∧ (k ≤ n0 ∨ k = 0) ∧ iv = .int .i64 k ∧ Have w wr [skT r0 N c l (zerosL (rws c) (wds c)), skT q G c l (zerosL (rws c) (wds c)), skT p F c l (cells c l (tk (cutT c l) qs k)), boxT gc 31 #[.int .i64 c.bt, .int .i64 c.rw, .int .i64 c.wd, .int .i64 1, .int .u64 c.sd], boxT w.heap.size 34 #[.int .i64 x.bt, .int .i64 x.rw, .int .i64 x.wd, .int .i64 x.md, .int .u64 x.sd, .int .i64 lv, .slice A n0 k0, .slice B n1 k1]]) (fun iv _ => 30 - (intOf iv).toNat)
  case atStart => exact ⟨0, _, by omega, .inr rfl, rfl, by rw [tk_zero, cells_nil]; exact HVS.out⟩
  case round =>
    obtain ⟨k, F, hk1, hk2, rfl, hv⟩ := hrel
    have HVr := Lib.hid hv
    have hwb := hv.below
    clear hv
    obtain ⟨x5, x6, x7, x0, x1, x2, x3, x4⟩ := box8 HVr.out.i4
    have s0 := x6
    by_cases hlt : k < n0 ∧ k < 30
    · obtain ⟨hj1, hj2⟩ := hlt
      obtain ⟨u, hu1⟩ : ∃ u, qs[k]? = some u := ⟨_, List.getElem?_eq_getElem (by rw [HL.out]; omega)⟩
      have hnx := tk_next (f := cutT c l) hu1
      have hst := up_ok HR.out (in_of_ok HM.out (tk_ok HKY.out qs k)) (by have := tk_len (cutT c l) qs k; omega) (in_of_ok HM.out (us := [cutT c l u]) (fun v hv => by simp at hv; subst hv; exact cutT_ok HKY.out u))
      have hcu := cutT_ok HKY.out u
      obtain ⟨a, g, o, rfl, hadd, d1w, d2w, kb, db⟩ := HQ.out.at hu1
      obtain ⟨uk, ud⟩ := u
      simp only at d1w d2w kb db
      have d1 := cell_up d1w hwb
      have d2 := cell_up d2w hwb
      obtain ⟨c0, c1, c2, c3, c4⟩ := box5 HVr.out.i3
      obtain ⟨us, hus⟩ : ∃ us, cells c l (tk (cutT c l) qs k) = us := ⟨_, rfl⟩
      obtain ⟨us2, hus2⟩ : ∃ us2, cells c l (tk (cutT c l) qs (k + 1)) = us2 := ⟨_, rfl⟩
      rw [hus] at HVr hst
      rw [hnx] at hus2
      rw [hus2] at hst
      have HNX : Hid (cells c l (tk (cutT c l) qs (k + 1)) = us2) := Lib.hid (by rw [hnx]; exact hus2)
      obtain ⟨K, hK⟩ : ∃ K, keys c l = K := ⟨_, rfl⟩
      have CK := Lib.hid (fun w => CK0.out w)
      rw [hK] at CK
      have hkk := keys_bd c l
      have hk1K := HKY.out
      rw [hK] at hkk hk1K
      obtain ⟨U, hU⟩ : ∃ U, (cutT c l (uk, ud)).1 = U := ⟨_, rfl⟩
      obtain ⟨D, hD⟩ : ∃ D, (cutT c l (uk, ud)).2 = D := ⟨_, rfl⟩
      have hrk := rem_key uk K kb.1 kb.2 hk1K
      have hUr : Int.tmod uk K = U := by rw [hrk.1, ← hU, ← hK]; rfl
      have hDr : Int.tmod ud 1048576 = D := hD
      have hK0 : ¬ K = 0 := by omega
      rw [hU, hD] at hst hcu
      have HST := Lib.hid hst
      have hub : 0 ≤ U ∧ U ≤ 18446744073709551615 := ⟨hcu.1, by have := hcu.2.1; rw [hK] at this; omega⟩
      have hdb : -9223372036854775808 ≤ D ∧ D ≤ 9223372036854775807 := ⟨by have := hcu.2.2.1; omega, by have := hcu.2.2.2; omega⟩
      have hwu : IntKind.u64.wrap U = U := by rw [IntKind.wrap_u64]; omega
      have hwd : IntKind.i64.wrap D = D := IntWalk.i64_in _ hdb
      have HUB := Lib.hid hub
      have HDB := Lib.hid hdb
      have HD1 := Lib.hid d1w
      have HD2 := Lib.hid d2w
      clear hu1 hnx hst hcu hus hus2 hU hD d1w d2w hwb hK hrk hub hdb hkk hk1K x0 x1 x2 x3 x4 x5 x6 x7
      go_upto_region 13 with fail
      go_region_held3 (fun w' => w'.cell? ⟨gc, 0, none⟩ = some (.int .i64 c.bt) ∧ w'.cell? ⟨gc, 1, none⟩ = some (.int .i64 c.rw) ∧ w'.cell? ⟨gc, 2, none⟩ = some (.int .i64 c.wd) ∧ w'.cell? ⟨gc, 3, none⟩ = some (.int .i64 1) ∧ w'.cell? ⟨gc, 4, none⟩ = some (.int .u64 c.sd) ∧ w'.cell? ⟨w.heap.size, 6, none⟩ = some (.slice (some a) n0 k0) ∧ w'.cell? ⟨g, o, none⟩ = some (.int .u64 uk) ∧ w'.cell? ⟨g, o + 1, none⟩ = some (.int .i64 ud)) (first | (refine ⟨?_, ?_, ?_, ?_, ?_, ?_, ?_, ?_⟩ <;> (first | (with_reducible assumption) | (with_reducible refine cell_up c0 ?_) | (with_reducible refine cell_up c1 ?_) | (with_reducible refine cell_up c2 ?_) | (with_reducible refine cell_up c3 ?_) | (with_reducible refine cell_up c4 ?_) | (with_reducible refine cell_up s0 ?_) | (with_reducible refine cell_up d1 ?_) | (with_reducible refine cell_up d2 ?_)) <;> repeat' (first | (with_reducible exact Below.refl _ _) | (with_reducible assumption) | (with_reducible refine below_over ?_ _ _) | (with_reducible refine Lw.below_alloc ?_ _) | (with_reducible refine Below.drew ?_) | (with_reducible refine below_drewN ?_ _) | (with_reducible refine Below.setCell ?_ ?_ _) | go_size))) (first
        | (go_at_call 24; (with_reducible refine (CK.out _).mono ?_); rintro e w' ⟨rfl, hb⟩; obtain ⟨bs, dd, rfl⟩ := below_grow hb; clear hb)
        | (go_at_call 16; (with_reducible refine (supd_any p F c l us U D _ (skI (HVr.out.up (by repeat' (first | (with_reducible exact Below.refl _ _) | (with_reducible assumption) | (with_reducible refine below_over ?_ _ _) | (with_reducible refine Lw.below_alloc ?_ _) | (with_reducible refine Below.drew ?_) | (with_reducible refine below_drewN ?_ _) | (with_reducible refine Below.setCell ?_ ?_ _) | go_size))).i2) HUB.out.1 HUB.out.2 HDB.out.1 HDB.out.2).mono ?_); rintro e w8 ⟨he, F8, hnp, hnk, hnf⟩; rw [HST.out.1] at he; subst he; rw [HST.out.2] at hnp; have HV8 := Lib.hid ((HVr.out.up (by repeat' (first | (with_reducible exact Below.refl _ _) | (with_reducible assumption) | (with_reducible refine below_over ?_ _ _) | (with_reducible refine Lw.below_alloc ?_ _) | (with_reducible refine Below.drew ?_) | (with_reducible refine below_drewN ?_ _) | (with_reducible refine Below.setCell ?_ ?_ _) | go_size))).turn_2 (skT p F8 c l (us2)) hnp hnk hnf); clear hnp hnk hnf c0 c1 c2 c3 c4 s0 d1 d2; obtain ⟨c0, c1, c2, c3, c4⟩ := box5 HV8.out.i3; have s0 := box_cell (i := 6) HV8.out.i4 rfl; have d1 := cell_up HD1.out HV8.out.below; have d2 := cell_up HD2.out HV8.out.below))
      all_goals go_wp2
      all_goals go_roundw
      all_goals first
        | exact ⟨k + 1, F8, by omega, .inl (by omega), by go_num, by rw [HNX.out]; first | exact HV8.out | exact HV8.out.up (by repeat' (first | (with_reducible exact Below.refl _ _) | (with_reducible assumption) | (with_reducible refine below_over ?_ _ _) | (with_reducible refine Lw.below_alloc ?_ _) | (with_reducible refine Below.drew ?_) | (with_reducible refine below_drewN ?_ _) | (with_reducible refine Below.setCell ?_ ?_ _) | go_size))⟩
        | (simp [intOf]; omega)
    · have hend : tk (cutT c l) qs k = tk (cutT c l) qs 30 := by
        rcases hk2 with h9 | h9
        · exact tk_end (by rw [HL.out]; omega)
        · subst h9
          exact tk_end (by rw [HL.out]; omega)
      rw [hend] at HVr
      have hcases : ((k : Int) < n0 ∧ ¬ (k : Int) < 30) ∨ ¬ (k : Int) < n0 := by omega
      clear hend hk2 hlt x0 x1 x2 x3 x4 x5 x6 x7 s0
      have s0 := box_cell (i := 6) HVr.out.i4 rfl
      rcases hcases with ⟨hc1, hc2⟩ | hc1
      · go_wp2
        obtain ⟨wo, rfl⟩ : ∃ wo, wo = wr := ⟨_, rfl⟩
        obtain ⟨ko, rfl⟩ : ∃ ko, ko = k := ⟨_, rfl⟩
        obtain ⟨Fo, rfl⟩ : ∃ Fo, Fo = F := ⟨_, rfl⟩
        have HVS2 := HVr
        clear HVr hk1 s0
        go_loopw [13] (fun iv wr => ∃ (k : Nat) (F : Nat → Prop), k ≤ 30 ∧ (k ≤ n1 ∨ k = 0) ∧ iv = .int .i64 k ∧ Have w wr [skT r0 N c l (zerosL (rws c) (wds c)), skT q F c l (cells c l (tk (cutT c l) ps k)), skT p Fo c l (cells c l (tk (cutT c l) qs 30)), boxT gc 31 #[.int .i64 c.bt, .int .i64 c.rw, .int .i64 c.wd, .int .i64 1, .int .u64 c.sd], boxT w.heap.size 34 #[.int .i64 x.bt, .int .i64 x.rw, .int .i64 x.wd, .int .i64 x.md, .int .u64 x.sd, .int .i64 lv, .slice A n0 k0, .slice B n1 k1]]) (fun iv _ => 30 - (intOf iv).toNat)
        case atStart => exact ⟨0, _, by omega, .inr rfl, rfl, by rw [tk_zero, cells_nil]; exact HVS2.out⟩
        case round =>
          obtain ⟨k, F, hk1, hk2, rfl, hv⟩ := hrel
          have HVr := Lib.hid hv
          have hwb := hv.below
          clear hv
          obtain ⟨x5, x6, x7, x0, x1, x2, x3, x4⟩ := box8 HVr.out.i4
          have s0 := x7
          by_cases hlt : k < n1 ∧ k < 30
          · obtain ⟨hj1, hj2⟩ := hlt
            obtain ⟨u, hu1⟩ : ∃ u, ps[k]? = some u := ⟨_, List.getElem?_eq_getElem (by rw [HL1.out]; omega)⟩
            have hnx := tk_next (f := cutT c l) hu1
            have hst := up_ok HR.out (in_of_ok HM.out (tk_ok HKY.out ps k)) (by have := tk_len (cutT c l) ps k; omega) (in_of_ok HM.out (us := [cutT c l u]) (fun v hv => by simp at hv; subst hv; exact cutT_ok HKY.out u))
            have hcu := cutT_ok HKY.out u
            obtain ⟨a, g, o, rfl, hadd, d1w, d2w, kb, db⟩ := HQ1.out.at hu1
            obtain ⟨uk, ud⟩ := u
            simp only at d1w d2w kb db
            have d1 := cell_up d1w hwb
            have d2 := cell_up d2w hwb
            obtain ⟨c0, c1, c2, c3, c4⟩ := box5 HVr.out.i3
            obtain ⟨us, hus⟩ : ∃ us, cells c l (tk (cutT c l) ps k) = us := ⟨_, rfl⟩
            obtain ⟨us2, hus2⟩ : ∃ us2, cells c l (tk (cutT c l) ps (k + 1)) = us2 := ⟨_, rfl⟩
            rw [hus] at HVr hst
            rw [hnx] at hus2
            rw [hus2] at hst
            have HNX : Hid (cells c l (tk (cutT c l) ps (k + 1)) = us2) := Lib.hid (by rw [hnx]; exact hus2)
            obtain ⟨K, hK⟩ : ∃ K, keys c l = K := ⟨_, rfl⟩
            have CK := Lib.hid (fun w => CK0.out w)
            rw [hK] at CK
            have hkk := keys_bd c l
            have hk1K := HKY.out
            rw [hK] at hkk hk1K
            obtain ⟨U, hU⟩ : ∃ U, (cutT c l (uk, ud)).1 = U := ⟨_, rfl⟩
            obtain ⟨D, hD⟩ : ∃ D, (cutT c l (uk, ud)).2 = D := ⟨_, rfl⟩
            have hrk := rem_key uk K kb.1 kb.2 hk1K
            have hUr : Int.tmod uk K = U := by rw [hrk.1, ← hU, ← hK]; rfl
            have hDr : Int.tmod ud 1048576 = D := hD
            have hK0 : ¬ K = 0 := by omega
            rw [hU, hD] at hst hcu
            have HST := Lib.hid hst
            have hub : 0 ≤ U ∧ U ≤ 18446744073709551615 := ⟨hcu.1, by have := hcu.2.1; rw [hK] at this; omega⟩
            have hdb : -9223372036854775808 ≤ D ∧ D ≤ 9223372036854775807 := ⟨by have := hcu.2.2.1; omega, by have := hcu.2.2.2; omega⟩
            have hwu : IntKind.u64.wrap U = U := by rw [IntKind.wrap_u64]; omega
            have hwd : IntKind.i64.wrap D = D := IntWalk.i64_in _ hdb
            have HUB := Lib.hid hub
            have HDB := Lib.hid hdb
            have HD1 := Lib.hid d1w
            have HD2 := Lib.hid d2w
            clear hu1 hnx hst hcu hus hus2 hU hD d1w d2w hwb hK hrk hub hdb hkk hk1K x0 x1 x2 x3 x4 x5 x6 x7
            go_upto_region 17 with fail
            go_region_held3 (fun w' => w'.cell? ⟨gc, 0, none⟩ = some (.int .i64 c.bt) ∧ w'.cell? ⟨gc, 1, none⟩ = some (.int .i64 c.rw) ∧ w'.cell? ⟨gc, 2, none⟩ = some (.int .i64 c.wd) ∧ w'.cell? ⟨gc, 3, none⟩ = some (.int .i64 1) ∧ w'.cell? ⟨gc, 4, none⟩ = some (.int .u64 c.sd) ∧ w'.cell? ⟨w.heap.size, 7, none⟩ = some (.slice (some a) n1 k1) ∧ w'.cell? ⟨g, o, none⟩ = some (.int .u64 uk) ∧ w'.cell? ⟨g, o + 1, none⟩ = some (.int .i64 ud)) (first | (refine ⟨?_, ?_, ?_, ?_, ?_, ?_, ?_, ?_⟩ <;> (first | (with_reducible assumption) | (with_reducible refine cell_up c0 ?_) | (with_reducible refine cell_up c1 ?_) | (with_reducible refine cell_up c2 ?_) | (with_reducible refine cell_up c3 ?_) | (with_reducible refine cell_up c4 ?_) | (with_reducible refine cell_up s0 ?_) | (with_reducible refine cell_up d1 ?_) | (with_reducible refine cell_up d2 ?_)) <;> repeat' (first | (with_reducible exact Below.refl _ _) | (with_reducible assumption) | (with_reducible refine below_over ?_ _ _) | (with_reducible refine Lw.below_alloc ?_ _) | (with_reducible refine Below.drew ?_) | (with_reducible refine below_drewN ?_ _) | (with_reducible refine Below.setCell ?_ ?_ _) | go_size))) (first
              | (go_at_call 24; (with_reducible refine (CK.out _).mono ?_); rintro e w' ⟨rfl, hb⟩; obtain ⟨bs, dd, rfl⟩ := below_grow hb; clear hb)
              | (go_at_call 16; (with_reducible refine (supd_any q F c l us U D _ (skI (HVr.out.up (by repeat' (first | (with_reducible exact Below.refl _ _) | (with_reducible assumption) | (with_reducible refine below_over ?_ _ _) | (with_reducible refine Lw.below_alloc ?_ _) | (with_reducible refine Below.drew ?_) | (with_reducible refine below_drewN ?_ _) | (with_reducible refine Below.setCell ?_ ?_ _) | go_size))).i1) HUB.out.1 HUB.out.2 HDB.out.1 HDB.out.2).mono ?_); rintro e w8 ⟨he, F8, hnp, hnk, hnf⟩; rw [HST.out.1] at he; subst he; rw [HST.out.2] at hnp; have HV8 := Lib.hid ((HVr.out.up (by repeat' (first | (with_reducible exact Below.refl _ _) | (with_reducible assumption) | (with_reducible refine below_over ?_ _ _) | (with_reducible refine Lw.below_alloc ?_ _) | (with_reducible refine Below.drew ?_) | (with_reducible refine below_drewN ?_ _) | (with_reducible refine Below.setCell ?_ ?_ _) | go_size))).turn_1 (skT q F8 c l (us2)) hnp hnk hnf); clear hnp hnk hnf c0 c1 c2 c3 c4 s0 d1 d2; obtain ⟨c0, c1, c2, c3, c4⟩ := box5 HV8.out.i3; have s0 := box_cell (i := 7) HV8.out.i4 rfl; have d1 := cell_up HD1.out HV8.out.below; have d2 := cell_up HD2.out HV8.out.below))
            all_goals go_wp2
            all_goals go_roundw
            all_goals first
              | exact ⟨k + 1, F8, by omega, .inl (by omega), by go_num, by rw [HNX.out]; first | exact HV8.out | exact HV8.out.up (by repeat' (first | (with_reducible exact Below.refl _ _) | (with_reducible assumption) | (with_reducible refine below_over ?_ _ _) | (with_reducible refine Lw.below_alloc ?_ _) | (with_reducible refine Below.drew ?_) | (with_reducible refine below_drewN ?_ _) | (with_reducible refine Below.setCell ?_ ?_ _) | go_size))⟩
              | (simp [intOf]; omega)
          · have hend : tk (cutT c l) ps k = tk (cutT c l) ps 30 := by
              rcases hk2 with h9 | h9
              · exact tk_end (by rw [HL1.out]; omega)
              · subst h9
                exact tk_end (by rw [HL1.out]; omega)
            rw [hend] at HVr
            have hcases : ((k : Int) < n1 ∧ ¬ (k : Int) < 30) ∨ ¬ (k : Int) < n1 := by omega
            clear hend hk2 hlt x0 x1 x2 x3 x4 x5 x6 x7 s0
            have s0 := box_cell (i := 7) HVr.out.i4 rfl
            rcases hcases with ⟨hc1, hc2⟩ | hc1
            · skip
              go_wp2_with (first
                | (go_at_call 18; (with_reducible refine (CI1.out p Fo q F _ (skI HVr.out.i2) (skI HVr.out.i1)).mono ?_); rintro e wa ⟨rfl, hb⟩; have HVa := Lib.hid ((HVr.out.up hb).push (boxT wa.heap.size 26 #[.int .i64 P, .int .u64 Q]) (Lw.below_alloc (Below.refl _ _) _) (heap_alloc_new wa _) (fun k hk => Nat.le_of_eq hk.symm)); clear hb s0)
                | (go_at_call 18; (with_reducible refine (CI2.out q F p Fo _ (skI HVa.out.i2) (skI HVa.out.i3)).mono ?_); rintro e wb ⟨rfl, hb⟩; have HVb := Lib.hid ((HVa.out.up hb).push (boxT wb.heap.size 26 #[.int .i64 P, .int .u64 Q]) (Lw.below_alloc (Below.refl _ _) _) (heap_alloc_new wb _) (fun k hk => Nat.le_of_eq hk.symm)); clear hb)
                | (go_at_call 18; (with_reducible refine (CI3.out p Fo r0 N _ (skI HVb.out.i4) (skI HVb.out.i2)).mono ?_); rintro e wc ⟨rfl, hb⟩; have HVc := Lib.hid ((HVb.out.up hb).push (boxT wc.heap.size 26 #[.int .i64 0, .int .u64 0]) (Lw.below_alloc (Below.refl _ _) _) (heap_alloc_new wc _) (fun k hk => Nat.le_of_eq hk.symm)); clear hb; obtain ⟨u0, u1⟩ := box2 HVc.out.i2; obtain ⟨u2, u3⟩ := box2 HVc.out.i1; obtain ⟨u4, u5⟩ := box2 HVc.out.i0))
              all_goals go_ret
              all_goals exact ⟨ret_bs (by first | rfl | (simp [*]; done)), (HVc.out.up (by repeat' (first | (with_reducible exact Below.refl _ _) | (with_reducible assumption) | (with_reducible refine below_over ?_ _ _) | (with_reducible refine Lw.below_alloc ?_ _) | (with_reducible refine Below.drew ?_) | (with_reducible refine below_drewN ?_ _) | (with_reducible refine Below.setCell ?_ ?_ _) | go_size))).below⟩
            · skip
              go_wp2_with (first
                | (go_at_call 18; (with_reducible refine (CI1.out p Fo q F _ (skI HVr.out.i2) (skI HVr.out.i1)).mono ?_); rintro e wa ⟨rfl, hb⟩; have HVa := Lib.hid ((HVr.out.up hb).push (boxT wa.heap.size 26 #[.int .i64 P, .int .u64 Q]) (Lw.below_alloc (Below.refl _ _) _) (heap_alloc_new wa _) (fun k hk => Nat.le_of_eq hk.symm)); clear hb s0)
                | (go_at_call 18; (with_reducible refine (CI2.out q F p Fo _ (skI HVa.out.i2) (skI HVa.out.i3)).mono ?_); rintro e wb ⟨rfl, hb⟩; have HVb := Lib.hid ((HVa.out.up hb).push (boxT wb.heap.size 26 #[.int .i64 P, .int .u64 Q]) (Lw.below_alloc (Below.refl _ _) _) (heap_alloc_new wb _) (fun k hk => Nat.le_of_eq hk.symm)); clear hb)
                | (go_at_call 18; (with_reducible refine (CI3.out p Fo r0 N _ (skI HVb.out.i4) (skI HVb.out.i2)).mono ?_); rintro e wc ⟨rfl, hb⟩; have HVc := Lib.hid ((HVb.out.up hb).push (boxT wc.heap.size 26 #[.int .i64 0, .int .u64 0]) (Lw.below_alloc (Below.refl _ _) _) (heap_alloc_new wc _) (fun k hk => Nat.le_of_eq hk.symm)); clear hb; obtain ⟨u0, u1⟩ := box2 HVc.out.i2; obtain ⟨u2, u3⟩ := box2 HVc.out.i1; obtain ⟨u4, u5⟩ := box2 HVc.out.i0))
              all_goals go_ret
              all_goals exact ⟨ret_bs (by first | rfl | (simp [*]; done)), (HVc.out.up (by repeat' (first | (with_reducible exact Below.refl _ _) | (with_reducible assumption) | (with_reducible refine below_over ?_ _ _) | (with_reducible refine Lw.below_alloc ?_ _) | (with_reducible refine Below.drew ?_) | (with_reducible refine below_drewN ?_ _) | (with_reducible refine Below.setCell ?_ ?_ _) | go_size))).below⟩
      · go_wp2
        obtain ⟨wo, rfl⟩ : ∃ wo, wo = wr := ⟨_, rfl⟩
        obtain ⟨ko, rfl⟩ : ∃ ko, ko = k := ⟨_, rfl⟩
        obtain ⟨Fo, rfl⟩ : ∃ Fo, Fo = F := ⟨_, rfl⟩
        have HVS2 := HVr
        clear HVr hk1 s0
        go_loopw [13] (fun iv wr => ∃ (k : Nat) (F : Nat → Prop), k ≤ 30 ∧ (k ≤ n1 ∨ k = 0) ∧ iv = .int .i64 k ∧ Have w wr [skT r0 N c l (zerosL (rws c) (wds c)), skT q F c l (cells c l (tk (cutT c l) ps k)), skT p Fo c l (cells c l (tk (cutT c l) qs 30)), boxT gc 31 #[.int .i64 c.bt, .int .i64 c.rw, .int .i64 c.wd, .int .i64 1, .int .u64 c.sd], boxT w.heap.size 34 #[.int .i64 x.bt, .int .i64 x.rw, .int .i64 x.wd, .int .i64 x.md, .int .u64 x.sd, .int .i64 lv, .slice A n0 k0, .slice B n1 k1]]) (fun iv _ => 30 - (intOf iv).toNat)
        case atStart => exact ⟨0, _, by omega, .inr rfl, rfl, by rw [tk_zero, cells_nil]; exact HVS2.out⟩
        case round =>
          obtain ⟨k, F, hk1, hk2, rfl, hv⟩ := hrel
          have HVr := Lib.hid hv
          have hwb := hv.below
          clear hv
          obtain ⟨x5, x6, x7, x0, x1, x2, x3, x4⟩ := box8 HVr.out.i4
          have s0 := x7
          by_cases hlt : k < n1 ∧ k < 30
          · obtain ⟨hj1, hj2⟩ := hlt
            obtain ⟨u, hu1⟩ : ∃ u, ps[k]? = some u := ⟨_, List.getElem?_eq_getElem (by rw [HL1.out]; omega)⟩
            have hnx := tk_next (f := cutT c l) hu1
            have hst := up_ok HR.out (in_of_ok HM.out (tk_ok HKY.out ps k)) (by have := tk_len (cutT c l) ps k; omega) (in_of_ok HM.out (us := [cutT c l u]) (fun v hv => by simp at hv; subst hv; exact cutT_ok HKY.out u))
            have hcu := cutT_ok HKY.out u
            obtain ⟨a, g, o, rfl, hadd, d1w, d2w, kb, db⟩ := HQ1.out.at hu1
            obtain ⟨uk, ud⟩ := u
            simp only at d1w d2w kb db
            have d1 := cell_up d1w hwb
            have d2 := cell_up d2w hwb
            obtain ⟨c0, c1, c2, c3, c4⟩ := box5 HVr.out.i3
            obtain ⟨us, hus⟩ : ∃ us, cells c l (tk (cutT c l) ps k) = us := ⟨_, rfl⟩
            obtain ⟨us2, hus2⟩ : ∃ us2, cells c l (tk (cutT c l) ps (k + 1)) = us2 := ⟨_, rfl⟩
            rw [hus] at HVr hst
            rw [hnx] at hus2
            rw [hus2] at hst
            have HNX : Hid (cells c l (tk (cutT c l) ps (k + 1)) = us2) := Lib.hid (by rw [hnx]; exact hus2)
            obtain ⟨K, hK⟩ : ∃ K, keys c l = K := ⟨_, rfl⟩
            have CK := Lib.hid (fun w => CK0.out w)
            rw [hK] at CK
            have hkk := keys_bd c l
            have hk1K := HKY.out
            rw [hK] at hkk hk1K
            obtain ⟨U, hU⟩ : ∃ U, (cutT c l (uk, ud)).1 = U := ⟨_, rfl⟩
            obtain ⟨D, hD⟩ : ∃ D, (cutT c l (uk, ud)).2 = D := ⟨_, rfl⟩
            have hrk := rem_key uk K kb.1 kb.2 hk1K
            have hUr : Int.tmod uk K = U := by rw [hrk.1, ← hU, ← hK]; rfl
            have hDr : Int.tmod ud 1048576 = D := hD
            have hK0 : ¬ K = 0 := by omega
            rw [hU, hD] at hst hcu
            have HST := Lib.hid hst
            have hub : 0 ≤ U ∧ U ≤ 18446744073709551615 := ⟨hcu.1, by have := hcu.2.1; rw [hK] at this; omega⟩
            have hdb : -9223372036854775808 ≤ D ∧ D ≤ 9223372036854775807 := ⟨by have := hcu.2.2.1; omega, by have := hcu.2.2.2; omega⟩
            have hwu : IntKind.u64.wrap U = U := by rw [IntKind.wrap_u64]; omega
            have hwd : IntKind.i64.wrap D = D := IntWalk.i64_in _ hdb
            have HUB := Lib.hid hub
            have HDB := Lib.hid hdb
            have HD1 := Lib.hid d1w
            have HD2 := Lib.hid d2w
            clear hu1 hnx hst hcu hus hus2 hU hD d1w d2w hwb hK hrk hub hdb hkk hk1K x0 x1 x2 x3 x4 x5 x6 x7
            go_upto_region 17 with fail
            go_region_held3 (fun w' => w'.cell? ⟨gc, 0, none⟩ = some (.int .i64 c.bt) ∧ w'.cell? ⟨gc, 1, none⟩ = some (.int .i64 c.rw) ∧ w'.cell? ⟨gc, 2, none⟩ = some (.int .i64 c.wd) ∧ w'.cell? ⟨gc, 3, none⟩ = some (.int .i64 1) ∧ w'.cell? ⟨gc, 4, none⟩ = some (.int .u64 c.sd) ∧ w'.cell? ⟨w.heap.size, 7, none⟩ = some (.slice (some a) n1 k1) ∧ w'.cell? ⟨g, o, none⟩ = some (.int .u64 uk) ∧ w'.cell? ⟨g, o + 1, none⟩ = some (.int .i64 ud)) (first | (refine ⟨?_, ?_, ?_, ?_, ?_, ?_, ?_, ?_⟩ <;> (first | (with_reducible assumption) | (with_reducible refine cell_up c0 ?_) | (with_reducible refine cell_up c1 ?_) | (with_reducible refine cell_up c2 ?_) | (with_reducible refine cell_up c3 ?_) | (with_reducible refine cell_up c4 ?_) | (with_reducible refine cell_up s0 ?_) | (with_reducible refine cell_up d1 ?_) | (with_reducible refine cell_up d2 ?_)) <;> repeat' (first | (with_reducible exact Below.refl _ _) | (with_reducible assumption) | (with_reducible refine below_over ?_ _ _) | (with_reducible refine Lw.below_alloc ?_ _) | (with_reducible refine Below.drew ?_) | (with_reducible refine below_drewN ?_ _) | (with_reducible refine Below.setCell ?_ ?_ _) | go_size))) (first
              | (go_at_call 24; (with_reducible refine (CK.out _).mono ?_); rintro e w' ⟨rfl, hb⟩; obtain ⟨bs, dd, rfl⟩ := below_grow hb; clear hb)
              | (go_at_call 16; (with_reducible refine (supd_any q F c l us U D _ (skI (HVr.out.up (by repeat' (first | (with_reducible exact Below.refl _ _) | (with_reducible assumption) | (with_reducible refine below_over ?_ _ _) | (with_reducible refine Lw.below_alloc ?_ _) | (with_reducible refine Below.drew ?_) | (with_reducible refine below_drewN ?_ _) | (with_reducible refine Below.setCell ?_ ?_ _) | go_size))).i1) HUB.out.1 HUB.out.2 HDB.out.1 HDB.out.2).mono ?_); rintro e w8 ⟨he, F8, hnp, hnk, hnf⟩; rw [HST.out.1] at he; subst he; rw [HST.out.2] at hnp; have HV8 := Lib.hid ((HVr.out.up (by repeat' (first | (with_reducible exact Below.refl _ _) | (with_reducible assumption) | (with_reducible refine below_over ?_ _ _) | (with_reducible refine Lw.below_alloc ?_ _) | (with_reducible refine Below.drew ?_) | (with_reducible refine below_drewN ?_ _) | (with_reducible refine Below.setCell ?_ ?_ _) | go_size))).turn_1 (skT q F8 c l (us2)) hnp hnk hnf); clear hnp hnk hnf c0 c1 c2 c3 c4 s0 d1 d2; obtain ⟨c0, c1, c2, c3, c4⟩ := box5 HV8.out.i3; have s0 := box_cell (i := 7) HV8.out.i4 rfl; have d1 := cell_up HD1.out HV8.out.below; have d2 := cell_up HD2.out HV8.out.below))
            all_goals go_wp2
            all_goals go_roundw
            all_goals first
              | exact ⟨k + 1, F8, by omega, .inl (by omega), by go_num, by rw [HNX.out]; first | exact HV8.out | exact HV8.out.up (by repeat' (first | (with_reducible exact Below.refl _ _) | (with_reducible assumption) | (with_reducible refine below_over ?_ _ _) | (with_reducible refine Lw.below_alloc ?_ _) | (with_reducible refine Below.drew ?_) | (with_reducible refine below_drewN ?_ _) | (with_reducible refine Below.setCell ?_ ?_ _) | go_size))⟩
              | (simp [intOf]; omega)
          · have hend : tk (cutT c l) ps k = tk (cutT c l) ps 30 := by
              rcases hk2 with h9 | h9
              · exact tk_end (by rw [HL1.out]; omega)
              · subst h9
                exact tk_end (by rw [HL1.out]; omega)
            rw [hend] at HVr
            have hcases : ((k : Int) < n1 ∧ ¬ (k : Int) < 30) ∨ ¬ (k : Int) < n1 := by omega
            clear hend hk2 hlt x0 x1 x2 x3 x4 x5 x6 x7 s0
            have s0 := box_cell (i := 7) HVr.out.i4 rfl
            rcases hcases with ⟨hc1, hc2⟩ | hc1
            · skip
              go_wp2_with (first
                | (go_at_call 18; (with_reducible refine (CI1.out p Fo q F _ (skI HVr.out.i2) (skI HVr.out.i1)).mono ?_); rintro e wa ⟨rfl, hb⟩; have HVa := Lib.hid ((HVr.out.up hb).push (boxT wa.heap.size 26 #[.int .i64 P, .int .u64 Q]) (Lw.below_alloc (Below.refl _ _) _) (heap_alloc_new wa _) (fun k hk => Nat.le_of_eq hk.symm)); clear hb s0)
                | (go_at_call 18; (with_reducible refine (CI2.out q F p Fo _ (skI HVa.out.i2) (skI HVa.out.i3)).mono ?_); rintro e wb ⟨rfl, hb⟩; have HVb := Lib.hid ((HVa.out.up hb).push (boxT wb.heap.size 26 #[.int .i64 P, .int .u64 Q]) (Lw.below_alloc (Below.refl _ _) _) (heap_alloc_new wb _) (fun k hk => Nat.le_of_eq hk.symm)); clear hb)
                | (go_at_call 18; (with_reducible refine (CI3.out p Fo r0 N _ (skI HVb.out.i4) (skI HVb.out.i2)).mono ?_); rintro e wc ⟨rfl, hb⟩; have HVc := Lib.hid ((HVb.out.up hb).push (boxT wc.heap.size 26 #[.int .i64 0, .int .u64 0]) (Lw.below_alloc (Below.refl _ _) _) (heap_alloc_new wc _) (fun k hk => Nat.le_of_eq hk.symm)); clear hb; obtain ⟨u0, u1⟩ := box2 HVc.out.i2; obtain ⟨u2, u3⟩ := box2 HVc.out.i1; obtain ⟨u4, u5⟩ := box2 HVc.out.i0))
              all_goals go_ret
              all_goals exact ⟨ret_bs (by first | rfl | (simp [*]; done)), (HVc.out.up (by repeat' (first | (with_reducible exact Below.refl _ _) | (with_reducible assumption) | (with_reducible refine below_over ?_ _ _) | (with_reducible refine Lw.below_alloc ?_ _) | (with_reducible refine Below.drew ?_) | (with_reducible refine below_drewN ?_ _) | (with_reducible refine Below.setCell ?_ ?_ _) | go_size))).below⟩
            · skip
              go_wp2_with (first
                | (go_at_call 18; (with_reducible refine (CI1.out p Fo q F _ (skI HVr.out.i2) (skI HVr.out.i1)).mono ?_); rintro e wa ⟨rfl, hb⟩; have HVa := Lib.hid ((HVr.out.up hb).push (boxT wa.heap.size 26 #[.int .i64 P, .int .u64 Q]) (Lw.below_alloc (Below.refl _ _) _) (heap_alloc_new wa _) (fun k hk => Nat.le_of_eq hk.symm)); clear hb s0)
                | (go_at_call 18; (with_reducible refine (CI2.out q F p Fo _ (skI HVa.out.i2) (skI HVa.out.i3)).mono ?_); rintro e wb ⟨rfl, hb⟩; have HVb := Lib.hid ((HVa.out.up hb).push (boxT wb.heap.size 26 #[.int .i64 P, .int .u64 Q]) (Lw.below_alloc (Below.refl _ _) _) (heap_alloc_new wb _) (fun k hk => Nat.le_of_eq hk.symm)); clear hb)
                | (go_at_call 18; (with_reducible refine (CI3.out p Fo r0 N _ (skI HVb.out.i4) (skI HVb.out.i2)).mono ?_); rintro e wc ⟨rfl, hb⟩; have HVc := Lib.hid ((HVb.out.up hb).push (boxT wc.heap.size 26 #[.int .i64 0, .int .u64 0]) (Lw.below_alloc (Below.refl _ _) _) (heap_alloc_new wc _) (fun k hk => Nat.le_of_eq hk.symm)); clear hb; obtain ⟨u0, u1⟩ := box2 HVc.out.i2; obtain ⟨u2, u3⟩ := box2 HVc.out.i1; obtain ⟨u4, u5⟩ := box2 HVc.out.i0))
              all_goals go_ret
              all_goals exact ⟨ret_bs (by first | rfl | (simp [*]; done)), (HVc.out.up (by repeat' (first | (with_reducible exact Below.refl _ _) | (with_reducible assumption) | (with_reducible refine below_over ?_ _ _) | (with_reducible refine Lw.below_alloc ?_ _) | (with_reducible refine Below.drew ?_) | (with_reducible refine below_drewN ?_ _) | (with_reducible refine Below.setCell ?_ ?_ _) | go_size))).below⟩
namespace innerTurned
open Go.ChangeShapes Go.WideShapes Go.ChangeAt Go.Joins
set_option maxRecDepth 100000 in
theorem lifted (os : Os) (started : os.Started) (H : Type) (enc : TypeId × Value → H) :
    ReturnsInHanded {} Try.checked os 6 .any (Rows.innerTurnedSpec.pre6 enc Try.prog Try.f6 Rows.innerTurnedRow.domain false) (Rows.innerTurnedSpec.post enc Try.prog Try.f6 false true false false) := by
  refine Lw.lifted (C := Try.checked) (B := 4) (by kernel_rfl) os started (by kernel_rfl) Try.func6
    (ChangeSpec.witness6 (enc := enc) (C := Try.checked) false ⟨#[], #[.agg #[.int .i64 0, .int .i64 0, .int .i64 0, .int .i64 0, .int .u64 0, .int .i64 0, .slice none 0 0, .slice none 0 0]], []⟩ 8 (by kernel_rfl) (by kernel_rfl) (by kernel_rfl) (by kernel_rfl)) rfl Try.underlying4 (by kernel_rfl) (by kernel_rfl) (by kernel_rfl) ?_ ?_
  · intro ds h
    rw [Try.params6] at h
    match ds, h with
    | [_], _ => rfl
  · intro W base args ds p hval hA
    rw [Try.params6] at hA hval
    obtain ⟨v0, vs0, d0, ds0, p0, q0, hargs, rfl, rfl, h0, r0⟩ := trodAll_cons hA
    obtain ⟨rfl, rfl, rfl⟩ := trodAll_nil r0
    obtain rfl : args = #[v0] := by cases args; simp_all
    obtain ⟨x0, lv0, A0, n0, k0, qs0, B0, m0, j0, ps0, rfl, ok0, lb0, hq0, hp0⟩ := open_two (hval 0 34 v0 rfl rfl) h0
    exact turned_law x0 lv0 A0 n0 k0 qs0 B0 m0 j0 ps0 W ok0 lb0 hq0 hp0
theorem over : Rows.innerTurnedRow.holds Try.pinned (OpenSpec.ofChange Rows.innerTurnedSpec) :=
  OpenClaim.holds_of_wide 6 Try.f6 rfl rfl rfl rfl rfl rfl rfl ⟨rfl, rfl, rfl, rfl, rfl⟩ rfl rfl rfl rfl rfl (by kernel_rfl) Try.func6 (by kernel_rfl)
    (of_decide_eq_true (by kernel_rfl)) (by unfold Func.isWrapper; first | (rw [if_pos (by decide +kernel)]; kernel_rfl) | (rw [if_neg (by decide +kernel)]; exact ⟨rfl, rfl⟩))
    (fun os started H enc _ => lifted os started H enc)
theorem proved : Rows.InnerTurnedSaid :=
  over
#print axioms proved
end innerTurned
end Go.Proofs.Ythecgkgnngpikaa.Inn
