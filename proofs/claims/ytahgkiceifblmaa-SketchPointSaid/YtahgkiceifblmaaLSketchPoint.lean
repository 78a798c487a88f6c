/- The statement SketchPoint of layer 10 holds. Printed by wip/gen/skpoint.py. -/
import Derived.Test.YtahgkiceifblmaaMg
import Derived.Deep.LoopGhost
import Derived.Deep.RegionHeld3
import Derived.Deep.DeepCutAuto
import Derived.Deep.QuietTactic
import Derived.BigQuiet
namespace Go.Proofs.Ytahgkiceifblmaa.Sk
open Go Go.RowKit Lw Grd Lin Con Shp
set_option linter.unusedVariables false
set_option linter.unusedSimpArgs false
theorem others0 (x : Cfg) (lv : Int) (A : Option Addr) (n0 k0 : Nat) (qs : Ups) (c : Cfg) (l key : Int) (m : Nat) (w : World) (hq : UpdV w A n0 k0 qs) (h : c.Ok) (l0 : -9223372036854775808 ≤ l) (l1 : l ≤ 9223372036854775807) (hK0 : 0 ≤ key) (hK : key < keys c l) (hm : rws c = m) (hrow : 0 < m) :
    Calls Try.prog 17 #[.agg #[.int .i64 x.bt, .int .i64 x.rw, .int .i64 x.wd, .int .i64 x.md, .int .u64 x.sd, .int .i64 lv, .slice A n0 k0], .agg #[.int .i64 c.bt, .int .i64 c.rw, .int .i64 c.wd, .int .i64 c.md, .int .u64 c.sd], .int .i64 l, .int .u64 key, .int .i64 0] w fun e w' => e = .returned (.int .i64 (othK c l key 0 (upsA c l qs))) ∧ Below w.heap.size w w' :=
  others_any x lv A n0 k0 qs c l key 0 m w hq h l0 l1 hK0 hK hm hrow
theorem upsA_R (c : Cfg) (l : Int) (qs : Ups) : upsA c l qs = upsR c l qs 0 60 := by unfold upsA upsR; rw [List.drop_zero]
set_option maxRecDepth 100000 in
set_option maxHeartbeats 8000000 in
theorem point_law (x : Cfg) (lv : Int) (A : Option Addr) (n0 k0 : Nat) (qs : Ups) (key : Int) (w : World) (hx : x.Ok) (hlv : -9223372036854775808 ≤ lv ∧ lv ≤ 9223372036854775807) (hq : UpdV w A n0 k0 qs) (key0 : 0 ≤ key) (key1 : key ≤ 18446744073709551615) :
    Calls Try.prog 4 #[.agg #[.int .i64 x.bt, .int .i64 x.rw, .int .i64 x.wd, .int .i64 x.md, .int .u64 x.sd, .int .i64 lv, .slice A n0 k0], .int .u64 key] w fun e w' => e = .returned (.bool true) ∧ Below w.heap.size w w' := by
  obtain ⟨c, hC⟩ : ∃ c, cfgP x 1 = c := ⟨_, rfl⟩
  obtain ⟨l, hl⟩ : ∃ l, lv % 65536 % (c.bt + 1) = l := ⟨_, rfl⟩
  have hr := cfgP_right x 1 (by omega) (by omega)
  have hco := cfgP_ok x hx 1 (by omega) (by omega)
  have hmd : c.md = 1 := by rw [← hC]; rfl
  rw [hC] at hr hco
  have hlb : 0 ≤ l ∧ l ≤ c.bt := by
    have h1 := hr.1.1
    have h2 := Int.emod_nonneg (lv % 65536) (show c.bt + 1 ≠ 0 by omega)
    have h3 := Int.emod_lt_of_pos (lv % 65536) (show 0 < c.bt + 1 by omega)
    omega
  have hbt8 := hr.2
  have hkeys : 1 ≤ keys c l := keys_pos.2 ⟨hr.1, hlb.1, hlb.2⟩
  have hkb := keys_bd c l
  obtain ⟨m, hm⟩ : ∃ m, rws c = m := ⟨_, rfl⟩
  have hm8 : 1 ≤ m ∧ m ≤ 8 := by have := rws_bd hr.1; rw [hm] at this; exact ⟨this.1, this.2.1⟩
  have HRW : Hid (c.rw = (m : Int)) := Lib.hid (by have := rws_bd hr.1; rw [hm] at this; exact this.2.2.symm)
  have HQ := Lib.hid hq
  have HL := Lib.hid hq.len
  have hnc := hq.nc
  have hcm := hq.cm
  unfold maxLen at hcm
  have D := Lib.hid (fun w hq => fed_any x lv A n0 k0 qs 1 0 60 0 60 c l w hx hlv hq (by omega) (by omega) rfl rfl (by omega) (by omega) hC hl)
  rw [← upsA_R] at D
  have CO := Lib.hid (fun kk r w hq h0 h1 (h2 : r < m) => others_any x lv A n0 k0 qs c l kk r m w hq hco (by omega) (by omega) h0 h1 hm h2)
  have CO0 := Lib.hid (fun kk w hq h0 h1 => others0 x lv A n0 k0 qs c l kk m w hq hco (by omega) (by omega) h0 h1 hm (by omega))
  have CH := Lib.hid (fun kk w hq => has_any x lv A n0 k0 qs c l kk w hq hco (by omega) (by omega) hkeys)
  have CCU := Lib.hid (fun w k d h0 h1 h2 h3 => cut_any c l k d w hco (by omega) (by omega) h0 h1 h2 h3 hkeys)
  have CK := Lib.hid (fun w => rkeys_any c l w hco (by omega) (by omega))
  have hlen : (upsA c l qs).length ≤ 60 := by rw [upsA_R]; exact upsR_len _ _ _ _ _
  have hin := upsR_in hkeys qs 0 60
  rw [← upsA_R] at hin
  have HOB : Hid (∀ kk r, -65970697666560 ≤ othK c l kk r (upsA c l qs) ∧ othK c l kk r (upsA c l qs) ≤ 65970697666560) := Lib.hid (fun kk r => by
    have h := othK_bd (c := c) (l := l) (k := kk) (r := r) (b := 1099511627776) (by omega) (us := upsA c l qs) (fun u hu => (hin.1 u hu).2.2)
    omega)
  have HHB : Hid (∀ kk, -65970697666560 ≤ hasK kk (upsA c l qs) ∧ hasK kk (upsA c l qs) ≤ 65970697666560) := Lib.hid (fun kk => by
    have h := hasK_bd (k := kk) (b := 1099511627776) (by omega) (us := upsA c l qs) (fun u hu => (hin.1 u hu).2.2)
    omega)
  have HLEA : Hid (∀ kk y, 0 ≤ kk → kk < keys c l → (∃ r0, r0 < m ∧ othK c l kk r0 (upsA c l qs) = y) → (∀ j, j < m → y ≤ othK c l kk j (upsA c l qs)) → lea (cells c l (upsA c l qs)) (cols c l kk) = hasK kk (upsA c l qs) + y) := Lib.hid (fun kk y h0 h1 ⟨r0, h2, h3⟩ h4 => by
    rw [cells_lin (by omega)]
    exact lea_key hin.1 h0 h1 (by rw [hm]; exact h2) h3 (fun r hr => h4 r (by rw [← hm]; exact hr)))
  have HNN : Hid (∀ kk r, (∀ u ∈ upsA c l qs, 0 ≤ hasK u.1 (upsA c l qs)) → 0 ≤ othK c l kk r (upsA c l qs)) := Lib.hid (fun kk r h => othK_nn c l kk r _ _ (Nat.le_refl _) h)
  have HG := Lib.hid (fun k q (h1 : k < 60) (h2 : qs[k]? = some q) => upsA_get (c := c) (l := l) h1 h2)
  have HUL : Hid ((upsA c l qs).length ≤ 60 ∧ (upsA c l qs).length ≤ n0) := Lib.hid ⟨hlen, by unfold upsA; rw [List.length_map, List.length_take, hq.len]; omega⟩
  have HMD := Lib.hid hmd
  have HKY := Lib.hid hkeys
  obtain ⟨us, hus⟩ : ∃ us, upsA c l qs = us := ⟨_, rfl⟩
  rw [hus] at D CO CO0 CH HOB HHB HLEA HNN HG hlen HUL
  obtain ⟨K, hKK⟩ : ∃ K, keys c l = K := ⟨_, rfl⟩
  rw [hKK] at CK CO CO0 HLEA hkeys hkb
  have HKK := Lib.hid hKK
  obtain ⟨r1, r2, r3⟩ := rem_key key K key0 key1 hkeys
  obtain ⟨R, hR⟩ : ∃ R, key % K = R := ⟨_, rfl⟩
  have hRK : R < K := by rw [← hR]; exact Int.emod_lt_of_pos _ (by omega)
  rw [hR] at r1 r2 r3
  have hKn : ¬ K = 0 := by omega
  have HBX : Hid (Have w (w.alloc (.cells #[.int .i64 x.bt, .int .i64 x.rw, .int .i64 x.wd, .int .i64 x.md, .int .u64 x.sd, .int .i64 lv, .slice A n0 k0] 27)) [boxT w.heap.size 27 #[.int .i64 x.bt, .int .i64 x.rw, .int .i64 x.wd, .int .i64 x.md, .int .u64 x.sd, .int .i64 lv, .slice A n0 k0]]) := Lib.hid (box_new w _ _)
  clear hC hl hr hco hmd hq hx hm hus hKK hR hin
  by_cases hn0 : n0 = 0
  · have hn0b : ¬ (0 : Int) < (n0 : Int) := by omega
    skip
    clear hn0
    go_enter Try.func4, Try.ntmps4
    obtain ⟨kk, hkk⟩ : ∃ kk, R = kk := ⟨_, rfl⟩
    rw [hkk] at r1 r2 hRK
    have kk0 := r2
    have kk1 := hRK
    go_wp2_with (first
      | (go_at_call 17; (with_reducible refine (CO0.out kk _ (HQ.out.up (by repeat' (first | (with_reducible exact Below.refl _ _) | (with_reducible exact HBW.out) | (with_reducible refine below_over ?_ _ _) | (with_reducible refine Lw.below_alloc ?_ _) | (with_reducible refine Below.drew ?_) | (with_reducible refine below_drewN ?_ _) | (with_reducible refine Below.setCell ?_ ?_ _) | go_size))) kk0 kk1).mono ?_); rintro e w4 ⟨rfl, hb⟩; have HV9 := (HV.out.up (by repeat' (first | (with_reducible exact Below.refl _ _) | (with_reducible assumption) | (with_reducible refine below_over ?_ _ _) | (with_reducible refine Lw.below_alloc ?_ _) | (with_reducible refine Below.drew ?_) | (with_reducible refine below_drewN ?_ _) | (with_reducible refine Below.setCell ?_ ?_ _) | go_size))).up hb; clear HV HBW x0 x1 x2 x3 x4 x5 c0 e1 e2 e3 e4 e5 hb; have HV := Lib.hid HV9; clear HV9; have HBW := Lib.hid HV.out.below; obtain ⟨x0, x1, x2, x3, x4, x5, c0⟩ := box7 HV.out.i2; obtain ⟨e1, e2, e3, e4, e5⟩ := box5 HV.out.i0)
      | (go_at_call 16; (with_reducible refine (CK.out _).mono ?_); rintro e w3 ⟨rfl, hb⟩; have HV9 := (HV.out.up (by repeat' (first | (with_reducible exact Below.refl _ _) | (with_reducible assumption) | (with_reducible refine below_over ?_ _ _) | (with_reducible refine Lw.below_alloc ?_ _) | (with_reducible refine Below.drew ?_) | (with_reducible refine below_drewN ?_ _) | (with_reducible refine Below.setCell ?_ ?_ _) | go_size))).up hb; clear HV HBW x0 x1 x2 x3 x4 x5 c0 e1 e2 e3 e4 e5 hb; have HV := Lib.hid HV9; clear HV9; have HBW := Lib.hid HV.out.below; obtain ⟨x0, x1, x2, x3, x4, x5, c0⟩ := box7 HV.out.i2; obtain ⟨e1, e2, e3, e4, e5⟩ := box5 HV.out.i0)
      | (go_at_call 11; (with_reducible refine (D.out _ (HQ.out.up HBW1.out)).mono ?_); rintro e w2 ⟨p, F, rfl, hv⟩; have HV2 := HV1.out.join hv; simp only [List.cons_append, List.nil_append] at HV2; have HV := Lib.hid (HV2.push (boxT w2.heap.size 24 #[.int .i64 c.bt, .int .i64 c.rw, .int .i64 c.wd, .int .i64 c.md, .int .u64 c.sd]) (Lw.below_alloc (Below.refl _ _) _) (heap_alloc_new w2 _) (fun k hk => Nat.le_of_eq hk.symm)); have HBW := Lib.hid HV.out.below; clear hv HV2 x0 x1 x2 x3 x4 x5 c0; obtain ⟨x0, x1, x2, x3, x4, x5, c0⟩ := box7 HV.out.i2; obtain ⟨e1, e2, e3, e4, e5⟩ := box5 HV.out.i0)
      | (go_at_call 10; (with_reducible refine (shown_any _).mono ?_); rintro e w1 ⟨rfl, hb⟩; have HV1 := Lib.hid (HBX.out.up hb); have HBW1 := Lib.hid HV1.out.below; obtain ⟨x0, x1, x2, x3, x4, x5, c0⟩ := box7 HV1.out.i0; clear hb))
    obtain ⟨gc, hgc⟩ : ∃ gc, w2.heap.size = gc := ⟨_, rfl⟩
    rw [hgc] at HV e1 e2 e3 e4 e5 ⊢
    clear hgc
    go_loopw [9, 11] (fun lv2 rv wr => ∃ (r : Nat) (y : Int), r ≤ m ∧ rv = .int .i64 r ∧ lv2 = .int .i64 y ∧ (∃ r0, r0 < m ∧ othK c l kk r0 us = y) ∧ (∀ j, j < r → y ≤ othK c l kk j us) ∧ Have w wr [boxT gc 24 #[.int .i64 c.bt, .int .i64 c.rw, .int .i64 c.wd, .int .i64 c.md, .int .u64 c.sd], skT p F c l (cells c l us), boxT w.heap.size 27 #[.int .i64 x.bt, .int .i64 x.rw, .int .i64 x.wd, .int .i64 x.md, .int .u64 x.sd, .int .i64 lv, .slice A n0 k0]]) (fun _ rv _ => m - (intOf rv).toNat)
    case atStart => exact ⟨0, _, Nat.zero_le _, rfl, rfl, ⟨0, by omega, rfl⟩, fun j hj => by omega, HV.out⟩
    case round =>
      clear x0 x1 x2 x3 x4 x5 c0 e1 e2 e3 e4 e5
      obtain ⟨r, y, hr, rfl, rfl, hy, hall, hv⟩ := hrel
      have HVr := Lib.hid hv
      have HY := Lib.hid hy
      have HALL := Lib.hid hall
      have HBr := Lib.hid hv.below
      have hyb : -65970697666560 ≤ y ∧ y ≤ 65970697666560 := by
        obtain ⟨r0, _, rfl⟩ := hy
        exact HOB.out kk r0
      clear hv hy hall
      obtain ⟨x0, x1, x2, x3, x4, x5, c0⟩ := box7 HVr.out.i2
      obtain ⟨e1, e2, e3, e4, e5⟩ := box5 HVr.out.i0
      by_cases hrm : r < m
      · have hrc : (r : Int) < c.rw := by rw [HRW.out]; omega
        obtain ⟨z, hz⟩ : ∃ z, othK c l kk r us = z := ⟨_, rfl⟩
        have HZ := Lib.hid hz
        have hzb := HOB.out kk r
        rw [hz] at hzb
        clear hz
        rcases (show z < y ∨ y ≤ z by omega) with hzy | hzy
        · go_wp2_with (go_at_call 17; (with_reducible refine (CO.out kk r _ (HQ.out.up (by repeat' (first | (with_reducible exact Below.refl _ _) | (with_reducible exact HBr.out) | (with_reducible refine below_over ?_ _ _) | (with_reducible refine Lw.below_alloc ?_ _) | (with_reducible refine Below.drew ?_) | (with_reducible refine below_drewN ?_ _) | (with_reducible refine Below.setCell ?_ ?_ _) | go_size))) kk0 kk1 hrm).mono ?_); rintro e w5 ⟨rfl, hb⟩; rw [HZ.out]; have HV5 := Lib.hid (HVr.out.up hb); clear hb)
          all_goals go_roundw
          all_goals first
            | exact ⟨r + 1, z, by omega, by go_num, rfl, ⟨r, hrm, HZ.out⟩, fun j hj => by
                by_cases h5 : j < r
                · have := HALL.out j h5; omega
                · obtain rfl : j = r := by omega
                  rw [HZ.out]; omega, HV5.out⟩
            | (simp [intOf]; omega)
        · go_wp2_with (go_at_call 17; (with_reducible refine (CO.out kk r _ (HQ.out.up (by repeat' (first | (with_reducible exact Below.refl _ _) | (with_reducible exact HBr.out) | (with_reducible refine below_over ?_ _ _) | (with_reducible refine Lw.below_alloc ?_ _) | (with_reducible refine Below.drew ?_) | (with_reducible refine below_drewN ?_ _) | (with_reducible refine Below.setCell ?_ ?_ _) | go_size))) kk0 kk1 hrm).mono ?_); rintro e w5 ⟨rfl, hb⟩; rw [HZ.out]; have HV5 := Lib.hid (HVr.out.up hb); clear hb)
          all_goals go_roundw
          all_goals first
            | exact ⟨r + 1, y, by omega, by go_num, rfl, HY.out, fun j hj => by
                by_cases h5 : j < r
                · have := HALL.out j h5; omega
                · obtain rfl : j = r := by omega
                  rw [HZ.out]; omega, HV5.out⟩
            | (simp [intOf]; omega)
      · have e : r = m := by omega
        subst e
        have hrc : ¬ (r : Int) < c.rw := by rw [HRW.out]; omega
        have HL2 : Hid (lea (cells c l us) (cols c l kk) = hasK kk us + y) := Lib.hid (by
          obtain ⟨r0, hr0, e9⟩ := HY.out
          exact HLEA.out kk y kk0 kk1 ⟨r0, hr0, e9⟩ HALL.out)
        obtain ⟨z0, hz0⟩ : ∃ z0, hasK kk us = z0 := ⟨_, rfl⟩
        have HZ0 := Lib.hid hz0
        have hzb := HHB.out kk
        rw [hz0] at HL2 hzb
        have CPT : Hid (∀ w', SK w' p F c l (cells c l us) → Calls Try.prog 19 #[.pointer (some p), .int .u64 kk] w' fun e w2 => e = .returned (.tuple #[.int .i64 (z0 + y), .int .i64 0]) ∧ Below w'.heap.size w' w2) := Lib.hid (fun w' h => by
          have C := spoint_any p F c l (cells c l us) kk w' h kk0 (by omega)
          rw [pt_least (by rw [HKK.out]; exact kk1) (by rw [HMD.out]; omega), pt_ok (by rw [HKK.out]; exact kk1), HL2.out] at C
          exact C)
        obtain ⟨V, hV⟩ : ∃ V, z0 + y = V := ⟨_, rfl⟩
        have hw1 : IntKind.i64.wrap (z0 + y) = V := by rw [hV]; exact IntWalk.i64_in _ ⟨by omega, by omega⟩
        have hw2 : wrap64 (z0 + y) = V := by unfold wrap64; omega
        rw [hV] at CPT
        clear hz0 hrm HL2
        go_wp2
        clear x0 x1 x2 x3 x4 x5 c0 e1 e2 e3 e4 e5 hrc
        obtain ⟨wo, rfl⟩ : ∃ wo, wo = wr := ⟨_, rfl⟩
        go_loopw [10, 12] (fun pv iv wr => ∃ (i : Nat) (pb : Bool), i ≤ n0 ∧ i ≤ 60 ∧ iv = .int .i64 i ∧ pv = .bool pb ∧ (pb = true → ∀ j u, j < i → us[j]? = some u → 0 ≤ hasK u.1 us) ∧ Have w wr [boxT gc 24 #[.int .i64 c.bt, .int .i64 c.rw, .int .i64 c.wd, .int .i64 c.md, .int .u64 c.sd], skT p F c l (cells c l us), boxT w.heap.size 27 #[.int .i64 x.bt, .int .i64 x.rw, .int .i64 x.wd, .int .i64 x.md, .int .u64 x.sd, .int .i64 lv, .slice A n0 k0]]) (fun _ iv _ => n0 - (intOf iv).toNat)
        case atStart => exact ⟨0, true, Nat.zero_le _, Nat.zero_le _, rfl, rfl, fun _ j u hj => by omega, HVr.out⟩
        case round =>
          obtain ⟨i, pb, hi, hi6, rfl, rfl, hpl, hv⟩ := hrel
          have HPL := Lib.hid hpl
          clear HVr HBr
          have HVr := Lib.hid hv
          have HBr := Lib.hid hv.below
          clear hpl hv
          obtain ⟨x0, x1, x2, x3, x4, x5, c0⟩ := box7 HVr.out.i2
          obtain ⟨e1, e2, e3, e4, e5⟩ := box5 HVr.out.i0
          by_cases hlt : i < n0 ∧ i < 60
          · exact absurd hlt (by omega)
          · have hge : n0 ≤ i ∨ 60 ≤ i := by omega
            have hy0 : pb = true → 0 ≤ y := fun hp => by
              obtain ⟨r0, hr0, e9⟩ := HY.out
              rw [← e9]
              refine HNN.out kk r0 (fun u hu => ?_)
              obtain ⟨j, hj, e8⟩ := List.mem_iff_getElem.1 hu
              exact HPL.out hp j u (by have := HUL.out; omega) (by rw [List.getElem?_eq_getElem hj, e8])
            have hy1 : pb = true → V ≥ z0 := fun h => by have := hy0 h; omega
            clear hy0
            have hno : (decide ((i : Int) < n0) && decide ((i : Int) < 60)) = false := by
              rcases hge with h | h
              · have : ¬ (i : Int) < n0 := by omega
                simp [this]
              · have : ¬ (i : Int) < 60 := by omega
                simp [this]
            have hcases : (i : Int) < n0 ∧ ¬ (i : Int) < 60 ∨ ¬ (i : Int) < n0 := by omega
            rcases hcases with ⟨hc1, hc2⟩ | hc1
            all_goals try (exfalso; omega)
            all_goals clear hno hge hlt
            all_goals cases pb with
              | false =>
                clear hy1
                go_wp2_with (first
                  | (go_at_call 19; (with_reducible refine (CPT.out _ (skI HVr.out.i1)).mono ?_); rintro e w6 ⟨rfl, hb⟩; have HV6 := Lib.hid (HVr.out.up hb); have HB6 := Lib.hid HV6.out.below; clear hb x0 x1 x2 x3 x4 x5 c0 e1 e2 e3 e4 e5; obtain ⟨x0, x1, x2, x3, x4, x5, c0⟩ := box7 HV6.out.i2; obtain ⟨e1, e2, e3, e4, e5⟩ := box5 HV6.out.i0)
                  | (go_at_call 18; (with_reducible refine (CH.out kk _ (HQ.out.up HB6.out)).mono ?_); rintro e w7 ⟨rfl, hb⟩; rw [HZ0.out]; have HV7 := Lib.hid (HV6.out.up hb); clear hb))
                go_ret
                exact ⟨ret_bs (by first | rfl | (simp [*]; done)), HV7.out.below⟩
              | true =>
                have hy2 := hy1 rfl
                clear hy1
                go_wp2_with (first
                  | (go_at_call 19; (with_reducible refine (CPT.out _ (skI HVr.out.i1)).mono ?_); rintro e w6 ⟨rfl, hb⟩; have HV6 := Lib.hid (HVr.out.up hb); have HB6 := Lib.hid HV6.out.below; clear hb x0 x1 x2 x3 x4 x5 c0 e1 e2 e3 e4 e5; obtain ⟨x0, x1, x2, x3, x4, x5, c0⟩ := box7 HV6.out.i2; obtain ⟨e1, e2, e3, e4, e5⟩ := box5 HV6.out.i0)
                  | (go_at_call 18; (with_reducible refine (CH.out kk _ (HQ.out.up HB6.out)).mono ?_); rintro e w7 ⟨rfl, hb⟩; rw [HZ0.out]; have HV7 := Lib.hid (HV6.out.up hb); clear hb))
                go_ret
                exact ⟨ret_bs (by first | rfl | (simp [*]; done)), HV7.out.below⟩
  have hn0b : (0 : Int) < (n0 : Int) := by omega
  rcases (show Int.tmod R 2 = 0 ∨ Int.tmod R 2 = 1 by rw [Int.tmod_eq_emod_of_nonneg r2]; omega) with hev | hev
  · obtain ⟨q9, hq9⟩ : ∃ q, qs[0]? = some q := ⟨_, List.getElem?_eq_getElem (by rw [HL.out]; omega)⟩
    obtain ⟨a9, g9, o9, rfl, hadd9, d9w, -, kb9, -⟩ := HQ.out.at hq9
    obtain ⟨qk9, qd9⟩ := q9
    simp only at d9w kb9
    have had9 : a9 = ⟨g9, o9, none⟩ := by rw [← hadd9]; cases a9 with | mk b o s => cases s <;> simp [Addr.add]
    subst had9
    obtain ⟨s1, s2, s3⟩ := rem_key qk9 K kb9.1 kb9.2 hkeys
    obtain ⟨kk, hkk⟩ : ∃ kk, qk9 % K = kk := ⟨_, rfl⟩
    have kk1 : kk < K := by rw [← hkk]; exact Int.emod_lt_of_pos _ (by omega)
    rw [hkk] at s1 s2 s3
    have kk0 := s2
    clear hn0 hkk hq9 hadd9
    skip
    go_enter Try.func4, Try.ntmps4
    go_wp2_with (first
      | (go_at_call 17; (with_reducible refine (CO0.out kk _ (HQ.out.up (by repeat' (first | (with_reducible exact Below.refl _ _) | (with_reducible exact HBW.out) | (with_reducible refine below_over ?_ _ _) | (with_reducible refine Lw.below_alloc ?_ _) | (with_reducible refine Below.drew ?_) | (with_reducible refine below_drewN ?_ _) | (with_reducible refine Below.setCell ?_ ?_ _) | go_size))) kk0 kk1).mono ?_); rintro e w4 ⟨rfl, hb⟩; have HV9 := (HV.out.up (by repeat' (first | (with_reducible exact Below.refl _ _) | (with_reducible assumption) | (with_reducible refine below_over ?_ _ _) | (with_reducible refine Lw.below_alloc ?_ _) | (with_reducible refine Below.drew ?_) | (with_reducible refine below_drewN ?_ _) | (with_reducible refine Below.setCell ?_ ?_ _) | go_size))).up hb; clear HV HBW x0 x1 x2 x3 x4 x5 c0 e1 e2 e3 e4 e5 hb; have HV := Lib.hid HV9; clear HV9; have HBW := Lib.hid HV.out.below; obtain ⟨x0, x1, x2, x3, x4, x5, c0⟩ := box7 HV.out.i2; obtain ⟨e1, e2, e3, e4, e5⟩ := box5 HV.out.i0)
      | (go_at_call 16; (with_reducible refine (CK.out _).mono ?_); rintro e w3 ⟨rfl, hb⟩; have HV9 := (HV.out.up (by repeat' (first | (with_reducible exact Below.refl _ _) | (with_reducible assumption) | (with_reducible refine below_over ?_ _ _) | (with_reducible refine Lw.below_alloc ?_ _) | (with_reducible refine Below.drew ?_) | (with_reducible refine below_drewN ?_ _) | (with_reducible refine Below.setCell ?_ ?_ _) | go_size))).up hb; clear HV HBW x0 x1 x2 x3 x4 x5 c0 e1 e2 e3 e4 e5 hb; have HV := Lib.hid HV9; clear HV9; have HBW := Lib.hid HV.out.below; obtain ⟨x0, x1, x2, x3, x4, x5, c0⟩ := box7 HV.out.i2; obtain ⟨e1, e2, e3, e4, e5⟩ := box5 HV.out.i0)
      | (go_at_call 11; (with_reducible refine (D.out _ (HQ.out.up HBW1.out)).mono ?_); rintro e w2 ⟨p, F, rfl, hv⟩; have HV2 := HV1.out.join hv; simp only [List.cons_append, List.nil_append] at HV2; have HV := Lib.hid (HV2.push (boxT w2.heap.size 24 #[.int .i64 c.bt, .int .i64 c.rw, .int .i64 c.wd, .int .i64 c.md, .int .u64 c.sd]) (Lw.below_alloc (Below.refl _ _) _) (heap_alloc_new w2 _) (fun k hk => Nat.le_of_eq hk.symm)); have HBW := Lib.hid HV.out.below; clear hv HV2 x0 x1 x2 x3 x4 x5 c0; obtain ⟨x0, x1, x2, x3, x4, x5, c0⟩ := box7 HV.out.i2; obtain ⟨e1, e2, e3, e4, e5⟩ := box5 HV.out.i0)
      | (go_at_call 10; (with_reducible refine (shown_any _).mono ?_); rintro e w1 ⟨rfl, hb⟩; have HV1 := Lib.hid (HBX.out.up hb); have HBW1 := Lib.hid HV1.out.below; obtain ⟨x0, x1, x2, x3, x4, x5, c0⟩ := box7 HV1.out.i0; clear hb))
    obtain ⟨gc, hgc⟩ : ∃ gc, w2.heap.size = gc := ⟨_, rfl⟩
    rw [hgc] at HV e1 e2 e3 e4 e5 ⊢
    clear hgc
    have d9 := cell_up d9w HBW.out
    go_region_held3 (fun w' => w'.cell? ⟨w.heap.size, 6, none⟩ = some (.slice (some ⟨g9, o9, none⟩) n0 k0) ∧ w'.cell? ⟨gc, 0, none⟩ = some (.int .i64 c.bt) ∧ w'.cell? ⟨gc, 1, none⟩ = some (.int .i64 c.rw) ∧ w'.cell? ⟨gc, 2, none⟩ = some (.int .i64 c.wd) ∧ w'.cell? ⟨gc, 3, none⟩ = some (.int .i64 c.md) ∧ w'.cell? ⟨gc, 4, none⟩ = some (.int .u64 c.sd) ∧ w'.cell? ⟨g9, o9, none⟩ = some (.int .u64 qk9)) (first | (refine ⟨?_, ?_, ?_, ?_, ?_, ?_, ?_⟩ <;> (first | (with_reducible assumption) | (with_reducible refine cell_up c0 ?_) | (with_reducible refine cell_up e1 ?_) | (with_reducible refine cell_up e2 ?_) | (with_reducible refine cell_up e3 ?_) | (with_reducible refine cell_up e4 ?_) | (with_reducible refine cell_up e5 ?_) | (with_reducible refine cell_up d9 ?_)) <;> (repeat' (first | (with_reducible exact Below.refl _ _) | (with_reducible assumption) | (with_reducible refine below_over ?_ _ _) | (with_reducible refine Lw.below_alloc ?_ _) | (with_reducible refine Below.drew ?_) | (with_reducible refine below_drewN ?_ _) | (with_reducible refine Below.setCell ?_ ?_ _) | go_size)))) (first | (go_at_call 16; (with_reducible refine (CK.out _).mono ?_); rintro e w3 ⟨rfl, hb⟩; have HV9 := (HV.out.up (by repeat' (first | (with_reducible exact Below.refl _ _) | (with_reducible assumption) | (with_reducible refine below_over ?_ _ _) | (with_reducible refine Lw.below_alloc ?_ _) | (with_reducible refine Below.drew ?_) | (with_reducible refine below_drewN ?_ _) | (with_reducible refine Below.setCell ?_ ?_ _) | go_size))).up hb; clear HV HBW x0 x1 x2 x3 x4 x5 c0 e1 e2 e3 e4 e5 hb; have HV := Lib.hid HV9; clear HV9; have HBW := Lib.hid HV.out.below; obtain ⟨x0, x1, x2, x3, x4, x5, c0⟩ := box7 HV.out.i2; obtain ⟨e1, e2, e3, e4, e5⟩ := box5 HV.out.i0; clear d9; have d9 := cell_up d9w HBW.out))
    go_wp2_with (first
      | (go_at_call 17; (with_reducible refine (CO0.out kk _ (HQ.out.up (by repeat' (first | (with_reducible exact Below.refl _ _) | (with_reducible exact HBW.out) | (with_reducible refine below_over ?_ _ _) | (with_reducible refine Lw.below_alloc ?_ _) | (with_reducible refine Below.drew ?_) | (with_reducible refine below_drewN ?_ _) | (with_reducible refine Below.setCell ?_ ?_ _) | go_size))) kk0 kk1).mono ?_); rintro e w4 ⟨rfl, hb⟩; have HV9 := (HV.out.up (by repeat' (first | (with_reducible exact Below.refl _ _) | (with_reducible assumption) | (with_reducible refine below_over ?_ _ _) | (with_reducible refine Lw.below_alloc ?_ _) | (with_reducible refine Below.drew ?_) | (with_reducible refine below_drewN ?_ _) | (with_reducible refine Below.setCell ?_ ?_ _) | go_size))).up hb; clear HV HBW x0 x1 x2 x3 x4 x5 c0 e1 e2 e3 e4 e5 hb; have HV := Lib.hid HV9; clear HV9; have HBW := Lib.hid HV.out.below; obtain ⟨x0, x1, x2, x3, x4, x5, c0⟩ := box7 HV.out.i2; obtain ⟨e1, e2, e3, e4, e5⟩ := box5 HV.out.i0)
      | (go_at_call 16; (with_reducible refine (CK.out _).mono ?_); rintro e w3 ⟨rfl, hb⟩; have HV9 := (HV.out.up (by repeat' (first | (with_reducible exact Below.refl _ _) | (with_reducible assumption) | (with_reducible refine below_over ?_ _ _) | (with_reducible refine Lw.below_alloc ?_ _) | (with_reducible refine Below.drew ?_) | (with_reducible refine below_drewN ?_ _) | (with_reducible refine Below.setCell ?_ ?_ _) | go_size))).up hb; clear HV HBW x0 x1 x2 x3 x4 x5 c0 e1 e2 e3 e4 e5 hb; have HV := Lib.hid HV9; clear HV9; have HBW := Lib.hid HV.out.below; obtain ⟨x0, x1, x2, x3, x4, x5, c0⟩ := box7 HV.out.i2; obtain ⟨e1, e2, e3, e4, e5⟩ := box5 HV.out.i0)
      | (go_at_call 11; (with_reducible refine (D.out _ (HQ.out.up HBW1.out)).mono ?_); rintro e w2 ⟨p, F, rfl, hv⟩; have HV2 := HV1.out.join hv; simp only [List.cons_append, List.nil_append] at HV2; have HV := Lib.hid (HV2.push (boxT w2.heap.size 24 #[.int .i64 c.bt, .int .i64 c.rw, .int .i64 c.wd, .int .i64 c.md, .int .u64 c.sd]) (Lw.below_alloc (Below.refl _ _) _) (heap_alloc_new w2 _) (fun k hk => Nat.le_of_eq hk.symm)); have HBW := Lib.hid HV.out.below; clear hv HV2 x0 x1 x2 x3 x4 x5 c0; obtain ⟨x0, x1, x2, x3, x4, x5, c0⟩ := box7 HV.out.i2; obtain ⟨e1, e2, e3, e4, e5⟩ := box5 HV.out.i0)
      | (go_at_call 10; (with_reducible refine (shown_any _).mono ?_); rintro e w1 ⟨rfl, hb⟩; have HV1 := Lib.hid (HBX.out.up hb); have HBW1 := Lib.hid HV1.out.below; obtain ⟨x0, x1, x2, x3, x4, x5, c0⟩ := box7 HV1.out.i0; clear hb))
    clear d9
    obtain ⟨a9, ha9⟩ : ∃ a9, (⟨g9, o9, none⟩ : Addr) = a9 := ⟨_, rfl⟩
    rw [ha9] at HQ CO CO0 CH HV c0 ⊢
    clear ha9
    go_loopw [9, 11] (fun lv2 rv wr => ∃ (r : Nat) (y : Int), r ≤ m ∧ rv = .int .i64 r ∧ lv2 = .int .i64 y ∧ (∃ r0, r0 < m ∧ othK c l kk r0 us = y) ∧ (∀ j, j < r → y ≤ othK c l kk j us) ∧ Have w wr [boxT gc 24 #[.int .i64 c.bt, .int .i64 c.rw, .int .i64 c.wd, .int .i64 c.md, .int .u64 c.sd], skT p F c l (cells c l us), boxT w.heap.size 27 #[.int .i64 x.bt, .int .i64 x.rw, .int .i64 x.wd, .int .i64 x.md, .int .u64 x.sd, .int .i64 lv, .slice (some a9) n0 k0]]) (fun _ rv _ => m - (intOf rv).toNat)
    case atStart => exact ⟨0, _, Nat.zero_le _, rfl, rfl, ⟨0, by omega, rfl⟩, fun j hj => by omega, HV.out⟩
    case round =>
      clear x0 x1 x2 x3 x4 x5 c0 e1 e2 e3 e4 e5
      obtain ⟨r, y, hr, rfl, rfl, hy, hall, hv⟩ := hrel
      have HVr := Lib.hid hv
      have HY := Lib.hid hy
      have HALL := Lib.hid hall
      have HBr := Lib.hid hv.below
      have hyb : -65970697666560 ≤ y ∧ y ≤ 65970697666560 := by
        obtain ⟨r0, _, rfl⟩ := hy
        exact HOB.out kk r0
      clear hv hy hall
      obtain ⟨x0, x1, x2, x3, x4, x5, c0⟩ := box7 HVr.out.i2
      obtain ⟨e1, e2, e3, e4, e5⟩ := box5 HVr.out.i0
      by_cases hrm : r < m
      · have hrc : (r : Int) < c.rw := by rw [HRW.out]; omega
        obtain ⟨z, hz⟩ : ∃ z, othK c l kk r us = z := ⟨_, rfl⟩
        have HZ := Lib.hid hz
        have hzb := HOB.out kk r
        rw [hz] at hzb
        clear hz
        rcases (show z < y ∨ y ≤ z by omega) with hzy | hzy
        · go_wp2_with (go_at_call 17; (with_reducible refine (CO.out kk r _ (HQ.out.up (by repeat' (first | (with_reducible exact Below.refl _ _) | (with_reducible exact HBr.out) | (with_reducible refine below_over ?_ _ _) | (with_reducible refine Lw.below_alloc ?_ _) | (with_reducible refine Below.drew ?_) | (with_reducible refine below_drewN ?_ _) | (with_reducible refine Below.setCell ?_ ?_ _) | go_size))) kk0 kk1 hrm).mono ?_); rintro e w5 ⟨rfl, hb⟩; rw [HZ.out]; have HV5 := Lib.hid (HVr.out.up hb); clear hb)
          all_goals go_roundw
          all_goals first
            | exact ⟨r + 1, z, by omega, by go_num, rfl, ⟨r, hrm, HZ.out⟩, fun j hj => by
                by_cases h5 : j < r
                · have := HALL.out j h5; omega
                · obtain rfl : j = r := by omega
                  rw [HZ.out]; omega, HV5.out⟩
            | (simp [intOf]; omega)
        · go_wp2_with (go_at_call 17; (with_reducible refine (CO.out kk r _ (HQ.out.up (by repeat' (first | (with_reducible exact Below.refl _ _) | (with_reducible exact HBr.out) | (with_reducible refine below_over ?_ _ _) | (with_reducible refine Lw.below_alloc ?_ _) | (with_reducible refine Below.drew ?_) | (with_reducible refine below_drewN ?_ _) | (with_reducible refine Below.setCell ?_ ?_ _) | go_size))) kk0 kk1 hrm).mono ?_); rintro e w5 ⟨rfl, hb⟩; rw [HZ.out]; have HV5 := Lib.hid (HVr.out.up hb); clear hb)
          all_goals go_roundw
          all_goals first
            | exact ⟨r + 1, y, by omega, by go_num, rfl, HY.out, fun j hj => by
                by_cases h5 : j < r
                · have := HALL.out j h5; omega
                · obtain rfl : j = r := by omega
                  rw [HZ.out]; omega, HV5.out⟩
            | (simp [intOf]; omega)
      · have e : r = m := by omega
        subst e
        have hrc : ¬ (r : Int) < c.rw := by rw [HRW.out]; omega
        have HL2 : Hid (lea (cells c l us) (cols c l kk) = hasK kk us + y) := Lib.hid (by
          obtain ⟨r0, hr0, e9⟩ := HY.out
          exact HLEA.out kk y kk0 kk1 ⟨r0, hr0, e9⟩ HALL.out)
        obtain ⟨z0, hz0⟩ : ∃ z0, hasK kk us = z0 := ⟨_, rfl⟩
        have HZ0 := Lib.hid hz0
        have hzb := HHB.out kk
        rw [hz0] at HL2 hzb
        have CPT : Hid (∀ w', SK w' p F c l (cells c l us) → Calls Try.prog 19 #[.pointer (some p), .int .u64 kk] w' fun e w2 => e = .returned (.tuple #[.int .i64 (z0 + y), .int .i64 0]) ∧ Below w'.heap.size w' w2) := Lib.hid (fun w' h => by
          have C := spoint_any p F c l (cells c l us) kk w' h kk0 (by omega)
          rw [pt_least (by rw [HKK.out]; exact kk1) (by rw [HMD.out]; omega), pt_ok (by rw [HKK.out]; exact kk1), HL2.out] at C
          exact C)
        obtain ⟨V, hV⟩ : ∃ V, z0 + y = V := ⟨_, rfl⟩
        have hw1 : IntKind.i64.wrap (z0 + y) = V := by rw [hV]; exact IntWalk.i64_in _ ⟨by omega, by omega⟩
        have hw2 : wrap64 (z0 + y) = V := by unfold wrap64; omega
        rw [hV] at CPT
        clear hz0 hrm HL2
        go_wp2
        clear x0 x1 x2 x3 x4 x5 c0 e1 e2 e3 e4 e5 hrc
        obtain ⟨wo, rfl⟩ : ∃ wo, wo = wr := ⟨_, rfl⟩
        go_loopw [10, 12] (fun pv iv wr => ∃ (i : Nat) (pb : Bool), i ≤ n0 ∧ i ≤ 60 ∧ iv = .int .i64 i ∧ pv = .bool pb ∧ (pb = true → ∀ j u, j < i → us[j]? = some u → 0 ≤ hasK u.1 us) ∧ Have w wr [boxT gc 24 #[.int .i64 c.bt, .int .i64 c.rw, .int .i64 c.wd, .int .i64 c.md, .int .u64 c.sd], skT p F c l (cells c l us), boxT w.heap.size 27 #[.int .i64 x.bt, .int .i64 x.rw, .int .i64 x.wd, .int .i64 x.md, .int .u64 x.sd, .int .i64 lv, .slice (some a9) n0 k0]]) (fun _ iv _ => n0 - (intOf iv).toNat)
        case atStart => exact ⟨0, true, Nat.zero_le _, Nat.zero_le _, rfl, rfl, fun _ j u hj => by omega, HVr.out⟩
        case round =>
          obtain ⟨i, pb, hi, hi6, rfl, rfl, hpl, hv⟩ := hrel
          have HPL := Lib.hid hpl
          clear HVr HBr
          have HVr := Lib.hid hv
          have HBr := Lib.hid hv.below
          clear hpl hv
          obtain ⟨x0, x1, x2, x3, x4, x5, c0⟩ := box7 HVr.out.i2
          obtain ⟨e1, e2, e3, e4, e5⟩ := box5 HVr.out.i0
          by_cases hlt : i < n0 ∧ i < 60
          · obtain ⟨hi1, hi2⟩ := hlt
            obtain ⟨q, hq1⟩ : ∃ q, qs[i]? = some q := ⟨_, List.getElem?_eq_getElem (by rw [HL.out]; omega)⟩
            have hug := HG.out i q hi2 hq1
            obtain ⟨a, g, o, hA, hadd, d1w, d2w, kb, db⟩ := HQ.out.at hq1
            injection hA with hA
            subst hA
            obtain ⟨qk, qd⟩ := q
            simp only at d1w d2w kb db
            have d1 := cell_up d1w HBr.out
            have d2 := cell_up d2w HBr.out
            have CC := Lib.hid (fun w => CCU.out w qk qd kb.1 kb.2 db.1 db.2)
            obtain ⟨U, hU⟩ : ∃ U, (cutU c l (qk, qd)).1 = U := ⟨_, rfl⟩
            obtain ⟨D2, hD2⟩ : ∃ D2, (cutU c l (qk, qd)).2 = D2 := ⟨_, rfl⟩
            have HUG : Hid (us[i]? = some (U, D2)) := Lib.hid (by rw [hug, ← hU, ← hD2])
            rw [hU, hD2] at CC
            obtain ⟨z, hz⟩ : ∃ z, hasK U us = z := ⟨_, rfl⟩
            have HZ := Lib.hid hz
            have hfd : ∀ w : World, (Instr.field 34 (.agg #[.int .u64 U, .int .i64 D2]) 0).run Try.prog w = .ok (.int .u64 U) w := fun _ => by kernel_rfl
            clear hq1 hug hU hD2 d1w d2w hz
            cases pb with
            | false =>
              have HNX : Hid (∀ P : Prop, false = true → P) := Lib.hid (fun P h => by cases h)
              go_wp2
              refine wp_region_held_drew (S := (fun w' => Below wr.heap.size wr w')) (by kernel_rfl) (by repeat' (first | (with_reducible exact Below.refl _ _) | (with_reducible assumption) | (with_reducible refine below_over ?_ _ _) | (with_reducible refine Lw.below_alloc ?_ _) | (with_reducible refine Below.drew ?_) | (with_reducible refine below_drewN ?_ _) | (with_reducible refine Below.setCell ?_ ?_ _) | go_size)) (fun hHeld => ?_)
              refine wpAnyH_take (i := 0) (v := ?_) rfl (by kernel_rfl) (by kernel_rfl) (by kernel_rfl) (fun _ _ _ h => h) (Or.inl ⟨by rfl, ?_⟩) hHeld ?_
              rotate_left
              · intro w hSw
                (try dsimp only at hSw)
                go_simp
                (try with_reducible rfl)
              (try simp only [List.getElem_toArray, List.getElem_cons_zero, List.getElem_cons_succ, Act.put, List.setIfInBounds_toArray, List.set_cons_zero, List.set_cons_succ])
              refine wpAnyH_take (i := 1) (v := ?_) rfl (by kernel_rfl) (by kernel_rfl) (by kernel_rfl) (fun _ _ _ h => h) (Or.inl ⟨by rfl, ?_⟩) hHeld ?_
              rotate_left
              · intro w hSw
                (try dsimp only at hSw)
                go_simp
                (try with_reducible rfl)
              (try simp only [List.getElem_toArray, List.getElem_cons_zero, List.getElem_cons_succ, Act.put, List.setIfInBounds_toArray, List.set_cons_zero, List.set_cons_succ])
              refine wpAnyH_take (i := 2) (v := undef) rfl (by kernel_rfl) (by kernel_rfl) (by kernel_rfl) (fun _ _ _ h => h) (Or.inr ⟨by rfl, rfl⟩) hHeld ?_
              (try simp only [List.getElem_toArray, List.getElem_cons_zero, List.getElem_cons_succ, Act.put, List.setIfInBounds_toArray, List.set_cons_zero, List.set_cons_succ])
              refine wpAnyH_take (i := 3) (v := undef) rfl (by kernel_rfl) (by kernel_rfl) (by kernel_rfl) (fun _ _ _ h => h) (Or.inr ⟨by rfl, rfl⟩) hHeld ?_
              (try simp only [List.getElem_toArray, List.getElem_cons_zero, List.getElem_cons_succ, Act.put, List.setIfInBounds_toArray, List.set_cons_zero, List.set_cons_succ])
              refine wpAnyH_take (i := 4) (v := undef) rfl (by kernel_rfl) (by kernel_rfl) (by kernel_rfl) (fun _ _ _ h => h) (Or.inr ⟨by rfl, rfl⟩) hHeld ?_
              (try simp only [List.getElem_toArray, List.getElem_cons_zero, List.getElem_cons_succ, Act.put, List.setIfInBounds_toArray, List.set_cons_zero, List.set_cons_succ])
              refine wpAnyH_take (i := 5) (v := undef) rfl (by kernel_rfl) (by kernel_rfl) (by kernel_rfl) (fun _ _ _ h => h) (Or.inr ⟨by rfl, rfl⟩) hHeld ?_
              (try simp only [List.getElem_toArray, List.getElem_cons_zero, List.getElem_cons_succ, Act.put, List.setIfInBounds_toArray, List.set_cons_zero, List.set_cons_succ])
              refine wpAnyH_take (i := 6) (v := undef) rfl (by kernel_rfl) (by kernel_rfl) (by kernel_rfl) (fun _ _ _ h => h) (Or.inr ⟨by rfl, rfl⟩) hHeld ?_
              (try simp only [List.getElem_toArray, List.getElem_cons_zero, List.getElem_cons_succ, Act.put, List.setIfInBounds_toArray, List.set_cons_zero, List.set_cons_succ])
              refine wpAnyH_take (i := 7) (v := undef) rfl (by kernel_rfl) (by kernel_rfl) (by kernel_rfl) (fun _ _ _ h => h) (Or.inr ⟨by rfl, rfl⟩) hHeld ?_
              (try simp only [List.getElem_toArray, List.getElem_cons_zero, List.getElem_cons_succ, Act.put, List.setIfInBounds_toArray, List.set_cons_zero, List.set_cons_succ])
              refine wpAnyH_take (i := 8) (v := undef) rfl (by kernel_rfl) (by kernel_rfl) (by kernel_rfl) (fun _ _ _ h => h) (Or.inr ⟨by rfl, rfl⟩) hHeld ?_
              (try simp only [List.getElem_toArray, List.getElem_cons_zero, List.getElem_cons_succ, Act.put, List.setIfInBounds_toArray, List.set_cons_zero, List.set_cons_succ])
              refine wpAnyH_take (i := 9) (v := undef) rfl (by kernel_rfl) (by kernel_rfl) (by kernel_rfl) (fun _ _ _ h => h) (Or.inr ⟨by rfl, rfl⟩) hHeld ?_
              (try simp only [List.getElem_toArray, List.getElem_cons_zero, List.getElem_cons_succ, Act.put, List.setIfInBounds_toArray, List.set_cons_zero, List.set_cons_succ])
              refine wpAnyH_take (i := 10) (v := undef) rfl (by kernel_rfl) (by kernel_rfl) (by kernel_rfl) (fun _ _ _ h => h) (Or.inr ⟨by rfl, rfl⟩) hHeld ?_
              (try simp only [List.getElem_toArray, List.getElem_cons_zero, List.getElem_cons_succ, Act.put, List.setIfInBounds_toArray, List.set_cons_zero, List.set_cons_succ])
              refine wpAnyH_take (i := 11) (v := undef) rfl (by kernel_rfl) (by kernel_rfl) (by kernel_rfl) (fun _ _ _ h => h) (Or.inr ⟨by rfl, rfl⟩) hHeld ?_
              (try simp only [List.getElem_toArray, List.getElem_cons_zero, List.getElem_cons_succ, Act.put, List.setIfInBounds_toArray, List.set_cons_zero, List.set_cons_succ])
              refine wpAnyH_ready (rs := [12]) (by kernel_rfl) (by simp) ?_
              refine AllReadyH.cons rfl (fun K hK => ?_) AllReadyH.nil
              go_simp
              refine hK.out _ _ (by repeat' (first | (with_reducible exact Below.refl _ _) | (with_reducible assumption) | (with_reducible refine below_over ?_ _ _) | (with_reducible refine Lw.below_alloc ?_ _) | (with_reducible refine Below.drew ?_) | (with_reducible refine below_drewN ?_ _) | (with_reducible refine Below.setCell ?_ ?_ _) | go_size)) (fun hHeld => ?_)
              clear hK K
              (try simp only [List.getElem_toArray, List.getElem_cons_zero, List.getElem_cons_succ, Act.put, List.setIfInBounds_toArray, List.set_cons_zero, List.set_cons_succ])
              refine wpAnyH_take (i := 13) (v := undef) rfl (by kernel_rfl) (by kernel_rfl) (by kernel_rfl) (fun _ _ _ h => h) (Or.inr ⟨by rfl, rfl⟩) hHeld ?_
              (try simp only [List.getElem_toArray, List.getElem_cons_zero, List.getElem_cons_succ, Act.put, List.setIfInBounds_toArray, List.set_cons_zero, List.set_cons_succ])
              refine wpAnyH_ready (rs := [14]) (by kernel_rfl) (by simp) ?_
              refine AllReadyH.cons rfl (fun K hK => ?_) AllReadyH.nil
              go_simp
              refine hK.out _ _ (by repeat' (first | (with_reducible exact Below.refl _ _) | (with_reducible assumption) | (with_reducible refine below_over ?_ _ _) | (with_reducible refine Lw.below_alloc ?_ _) | (with_reducible refine Below.drew ?_) | (with_reducible refine below_drewN ?_ _) | (with_reducible refine Below.setCell ?_ ?_ _) | go_size)) (fun hHeld => ?_)
              clear hK K
              (try simp only [List.getElem_toArray, List.getElem_cons_zero, List.getElem_cons_succ, Act.put, List.setIfInBounds_toArray, List.set_cons_zero, List.set_cons_succ])
              refine wpAnyH_take (i := 15) (v := undef) rfl (by kernel_rfl) (by kernel_rfl) (by kernel_rfl) (fun _ _ _ h => h) (Or.inr ⟨by rfl, rfl⟩) hHeld ?_
              (try simp only [List.getElem_toArray, List.getElem_cons_zero, List.getElem_cons_succ, Act.put, List.setIfInBounds_toArray, List.set_cons_zero, List.set_cons_succ])
              refine wpAnyH_take (i := 16) (v := ?_) rfl (by kernel_rfl) (by kernel_rfl) (by kernel_rfl) (fun _ _ _ h => h) (Or.inl ⟨by rfl, ?_⟩) hHeld ?_
              rotate_left
              · intro w hSw
                (try dsimp only at hSw)
                go_simp
                (try with_reducible rfl)
              (try simp only [List.getElem_toArray, List.getElem_cons_zero, List.getElem_cons_succ, Act.put, List.setIfInBounds_toArray, List.set_cons_zero, List.set_cons_succ])
              refine wpAnyH_take (i := 17) (v := ?_) rfl (by kernel_rfl) (by kernel_rfl) (by kernel_rfl) (fun _ _ _ h => h) (Or.inl ⟨by rfl, ?_⟩) hHeld ?_
              rotate_left
              · intro w hSw
                (try dsimp only at hSw)
                go_simp
                (try with_reducible rfl)
              (try simp only [List.getElem_toArray, List.getElem_cons_zero, List.getElem_cons_succ, Act.put, List.setIfInBounds_toArray, List.set_cons_zero, List.set_cons_succ])
              refine wpAnyH_done (by kernel_rfl) ?_ _
              go_wp2
              go_roundw
              case rel => exact ⟨i + 1, false, by omega, by omega, by go_num, rfl, (fun h => by cases h), HVr.out.up (by repeat' (first | (with_reducible exact Below.refl _ _) | (with_reducible assumption) | (with_reducible refine below_over ?_ _ _) | (with_reducible refine Lw.below_alloc ?_ _) | (with_reducible refine Below.drew ?_) | (with_reducible refine below_drewN ?_ _) | (with_reducible refine Below.setCell ?_ ?_ _) | go_size))⟩
              case measure => simp [intOf]; omega
            | true =>
              by_cases hz0 : 0 ≤ z
              · have HNX : Hid (∀ j u, j < i + 1 → us[j]? = some u → 0 ≤ hasK u.1 us) := Lib.hid (fun j u hj hu => by
                  by_cases h5 : j < i
                  · exact HPL.out rfl j u h5 hu
                  · obtain rfl : j = i := by omega
                    rw [HUG.out] at hu
                    injection hu with hu
                    subst hu
                    rw [HZ.out]
                    exact hz0)
                go_wp2
                go_region_held3 (fun w' => w'.cell? ⟨w.heap.size, 0, none⟩ = some (.int .i64 x.bt) ∧ w'.cell? ⟨w.heap.size, 1, none⟩ = some (.int .i64 x.rw) ∧ w'.cell? ⟨w.heap.size, 2, none⟩ = some (.int .i64 x.wd) ∧ w'.cell? ⟨w.heap.size, 3, none⟩ = some (.int .i64 x.md) ∧ w'.cell? ⟨w.heap.size, 4, none⟩ = some (.int .u64 x.sd) ∧ w'.cell? ⟨w.heap.size, 5, none⟩ = some (.int .i64 lv) ∧ w'.cell? ⟨w.heap.size, 6, none⟩ = some (.slice (some a9) n0 k0) ∧ w'.cell? ⟨gc, 0, none⟩ = some (.int .i64 c.bt) ∧ w'.cell? ⟨gc, 1, none⟩ = some (.int .i64 c.rw) ∧ w'.cell? ⟨gc, 2, none⟩ = some (.int .i64 c.wd) ∧ w'.cell? ⟨gc, 3, none⟩ = some (.int .i64 c.md) ∧ w'.cell? ⟨gc, 4, none⟩ = some (.int .u64 c.sd) ∧ w'.cell? ⟨g, o, none⟩ = some (.int .u64 qk) ∧ w'.cell? ⟨g, o + 1, none⟩ = some (.int .i64 qd)) (first | (refine ⟨?_, ?_, ?_, ?_, ?_, ?_, ?_, ?_, ?_, ?_, ?_, ?_, ?_, ?_⟩ <;> (first | (with_reducible assumption) | (with_reducible refine cell_up x0 ?_) | (with_reducible refine cell_up x1 ?_) | (with_reducible refine cell_up x2 ?_) | (with_reducible refine cell_up x3 ?_) | (with_reducible refine cell_up x4 ?_) | (with_reducible refine cell_up x5 ?_) | (with_reducible refine cell_up c0 ?_) | (with_reducible refine cell_up e1 ?_) | (with_reducible refine cell_up e2 ?_) | (with_reducible refine cell_up e3 ?_) | (with_reducible refine cell_up e4 ?_) | (with_reducible refine cell_up e5 ?_) | (with_reducible refine cell_up d1 ?_) | (with_reducible refine cell_up d2 ?_)) <;> (repeat' (first | (with_reducible exact Below.refl _ _) | (with_reducible assumption) | (with_reducible refine below_over ?_ _ _) | (with_reducible refine Lw.below_alloc ?_ _) | (with_reducible refine Below.drew ?_) | (with_reducible refine below_drewN ?_ _) | (with_reducible refine Below.setCell ?_ ?_ _) | go_size)))) (first
                  | (go_at_call 12; (with_reducible refine (CC.out _).mono ?_); rintro e w' ⟨rfl, hb⟩; obtain ⟨bs, dd, rfl⟩ := below_grow hb; clear hb)
                  | (go_at_call 18; (with_reducible refine (CH.out U _ (HQ.out.up (below_call HBr.out (by repeat' (first | (with_reducible exact Below.refl _ _) | (with_reducible assumption) | (with_reducible refine below_over ?_ _ _) | (with_reducible refine Lw.below_alloc ?_ _) | (with_reducible refine Below.drew ?_) | (with_reducible refine below_drewN ?_ _) | (with_reducible refine Below.setCell ?_ ?_ _) | go_size)) (Nat.le_refl _)))).mono ?_); rintro e w' ⟨rfl, hb⟩; rw [HZ.out]; obtain ⟨bs2, dd2, rfl⟩ := below_grow hb; clear hb))
                all_goals go_wp2
                go_roundw
                case rel => exact ⟨i + 1, true, by omega, by omega, by go_num, rfl, (fun _ => HNX.out), HVr.out.up (by repeat' (first | (with_reducible exact Below.refl _ _) | (with_reducible assumption) | (with_reducible refine below_over ?_ _ _) | (with_reducible refine Lw.below_alloc ?_ _) | (with_reducible refine Below.drew ?_) | (with_reducible refine below_drewN ?_ _) | (with_reducible refine Below.setCell ?_ ?_ _) | go_size))⟩
                case measure => simp [intOf]; omega
              · have HNX : Hid (∀ P : Prop, false = true → P) := Lib.hid (fun P h => by cases h)
                have hz1 : decide (0 ≤ z) = false := decide_eq_false hz0
                go_wp2
                go_region_held3 (fun w' => w'.cell? ⟨w.heap.size, 0, none⟩ = some (.int .i64 x.bt) ∧ w'.cell? ⟨w.heap.size, 1, none⟩ = some (.int .i64 x.rw) ∧ w'.cell? ⟨w.heap.size, 2, none⟩ = some (.int .i64 x.wd) ∧ w'.cell? ⟨w.heap.size, 3, none⟩ = some (.int .i64 x.md) ∧ w'.cell? ⟨w.heap.size, 4, none⟩ = some (.int .u64 x.sd) ∧ w'.cell? ⟨w.heap.size, 5, none⟩ = some (.int .i64 lv) ∧ w'.cell? ⟨w.heap.size, 6, none⟩ = some (.slice (some a9) n0 k0) ∧ w'.cell? ⟨gc, 0, none⟩ = some (.int .i64 c.bt) ∧ w'.cell? ⟨gc, 1, none⟩ = some (.int .i64 c.rw) ∧ w'.cell? ⟨gc, 2, none⟩ = some (.int .i64 c.wd) ∧ w'.cell? ⟨gc, 3, none⟩ = some (.int .i64 c.md) ∧ w'.cell? ⟨gc, 4, none⟩ = some (.int .u64 c.sd) ∧ w'.cell? ⟨g, o, none⟩ = some (.int .u64 qk) ∧ w'.cell? ⟨g, o + 1, none⟩ = some (.int .i64 qd)) (first | (refine ⟨?_, ?_, ?_, ?_, ?_, ?_, ?_, ?_, ?_, ?_, ?_, ?_, ?_, ?_⟩ <;> (first | (with_reducible assumption) | (with_reducible refine cell_up x0 ?_) | (with_reducible refine cell_up x1 ?_) | (with_reducible refine cell_up x2 ?_) | (with_reducible refine cell_up x3 ?_) | (with_reducible refine cell_up x4 ?_) | (with_reducible refine cell_up x5 ?_) | (with_reducible refine cell_up c0 ?_) | (with_reducible refine cell_up e1 ?_) | (with_reducible refine cell_up e2 ?_) | (with_reducible refine cell_up e3 ?_) | (with_reducible refine cell_up e4 ?_) | (with_reducible refine cell_up e5 ?_) | (with_reducible refine cell_up d1 ?_) | (with_reducible refine cell_up d2 ?_)) <;> (repeat' (first | (with_reducible exact Below.refl _ _) | (with_reducible assumption) | (with_reducible refine below_over ?_ _ _) | (with_reducible refine Lw.below_alloc ?_ _) | (with_reducible refine Below.drew ?_) | (with_reducible refine below_drewN ?_ _) | (with_reducible refine Below.setCell ?_ ?_ _) | go_size)))) (first
                  | (go_at_call 12; (with_reducible refine (CC.out _).mono ?_); rintro e w' ⟨rfl, hb⟩; obtain ⟨bs, dd, rfl⟩ := below_grow hb; clear hb)
                  | (go_at_call 18; (with_reducible refine (CH.out U _ (HQ.out.up (below_call HBr.out (by repeat' (first | (with_reducible exact Below.refl _ _) | (with_reducible assumption) | (with_reducible refine below_over ?_ _ _) | (with_reducible refine Lw.below_alloc ?_ _) | (with_reducible refine Below.drew ?_) | (with_reducible refine below_drewN ?_ _) | (with_reducible refine Below.setCell ?_ ?_ _) | go_size)) (Nat.le_refl _)))).mono ?_); rintro e w' ⟨rfl, hb⟩; rw [HZ.out]; obtain ⟨bs2, dd2, rfl⟩ := below_grow hb; clear hb))
                all_goals go_wp2
                go_roundw
                case rel => exact ⟨i + 1, false, by omega, by omega, by go_num, rfl, (fun h => by cases h), HVr.out.up (by repeat' (first | (with_reducible exact Below.refl _ _) | (with_reducible assumption) | (with_reducible refine below_over ?_ _ _) | (with_reducible refine Lw.below_alloc ?_ _) | (with_reducible refine Below.drew ?_) | (with_reducible refine below_drewN ?_ _) | (with_reducible refine Below.setCell ?_ ?_ _) | go_size))⟩
                case measure => simp [intOf]; omega
          · have hge : n0 ≤ i ∨ 60 ≤ i := by omega
            have hy0 : pb = true → 0 ≤ y := fun hp => by
              obtain ⟨r0, hr0, e9⟩ := HY.out
              rw [← e9]
              refine HNN.out kk r0 (fun u hu => ?_)
              obtain ⟨j, hj, e8⟩ := List.mem_iff_getElem.1 hu
              exact HPL.out hp j u (by have := HUL.out; omega) (by rw [List.getElem?_eq_getElem hj, e8])
            have hy1 : pb = true → V ≥ z0 := fun h => by have := hy0 h; omega
            clear hy0
            have hno : (decide ((i : Int) < n0) && decide ((i : Int) < 60)) = false := by
              rcases hge with h | h
              · have : ¬ (i : Int) < n0 := by omega
                simp [this]
              · have : ¬ (i : Int) < 60 := by omega
                simp [this]
            have hcases : (i : Int) < n0 ∧ ¬ (i : Int) < 60 ∨ ¬ (i : Int) < n0 := by omega
            rcases hcases with ⟨hc1, hc2⟩ | hc1
            all_goals try (exfalso; omega)
            all_goals clear hno hge hlt
            all_goals cases pb with
              | false =>
                clear hy1
                go_wp2_with (first
                  | (go_at_call 19; (with_reducible refine (CPT.out _ (skI HVr.out.i1)).mono ?_); rintro e w6 ⟨rfl, hb⟩; have HV6 := Lib.hid (HVr.out.up hb); have HB6 := Lib.hid HV6.out.below; clear hb x0 x1 x2 x3 x4 x5 c0 e1 e2 e3 e4 e5; obtain ⟨x0, x1, x2, x3, x4, x5, c0⟩ := box7 HV6.out.i2; obtain ⟨e1, e2, e3, e4, e5⟩ := box5 HV6.out.i0)
                  | (go_at_call 18; (with_reducible refine (CH.out kk _ (HQ.out.up HB6.out)).mono ?_); rintro e w7 ⟨rfl, hb⟩; rw [HZ0.out]; have HV7 := Lib.hid (HV6.out.up hb); clear hb))
                go_ret
                exact ⟨ret_bs (by first | rfl | (simp [*]; done)), HV7.out.below⟩
              | true =>
                have hy2 := hy1 rfl
                clear hy1
                go_wp2_with (first
                  | (go_at_call 19; (with_reducible refine (CPT.out _ (skI HVr.out.i1)).mono ?_); rintro e w6 ⟨rfl, hb⟩; have HV6 := Lib.hid (HVr.out.up hb); have HB6 := Lib.hid HV6.out.below; clear hb x0 x1 x2 x3 x4 x5 c0 e1 e2 e3 e4 e5; obtain ⟨x0, x1, x2, x3, x4, x5, c0⟩ := box7 HV6.out.i2; obtain ⟨e1, e2, e3, e4, e5⟩ := box5 HV6.out.i0)
                  | (go_at_call 18; (with_reducible refine (CH.out kk _ (HQ.out.up HB6.out)).mono ?_); rintro e w7 ⟨rfl, hb⟩; rw [HZ0.out]; have HV7 := Lib.hid (HV6.out.up hb); clear hb))
                go_ret
                exact ⟨ret_bs (by first | rfl | (simp [*]; done)), HV7.out.below⟩
  · obtain ⟨q9, hq9⟩ : ∃ q, qs[0]? = some q := ⟨_, List.getElem?_eq_getElem (by rw [HL.out]; omega)⟩
    obtain ⟨a9, -, -, rfl, -⟩ := HQ.out.at hq9
    skip
    clear hn0 hq9
    go_enter Try.func4, Try.ntmps4
    obtain ⟨kk, hkk⟩ : ∃ kk, R = kk := ⟨_, rfl⟩
    rw [hkk] at r1 r2 hRK hev
    have kk0 := r2
    have kk1 := hRK
    go_wp2_with (first
      | (go_at_call 17; (with_reducible refine (CO0.out kk _ (HQ.out.up (by repeat' (first | (with_reducible exact Below.refl _ _) | (with_reducible exact HBW.out) | (with_reducible refine below_over ?_ _ _) | (with_reducible refine Lw.below_alloc ?_ _) | (with_reducible refine Below.drew ?_) | (with_reducible refine below_drewN ?_ _) | (with_reducible refine Below.setCell ?_ ?_ _) | go_size))) kk0 kk1).mono ?_); rintro e w4 ⟨rfl, hb⟩; have HV9 := (HV.out.up (by repeat' (first | (with_reducible exact Below.refl _ _) | (with_reducible assumption) | (with_reducible refine below_over ?_ _ _) | (with_reducible refine Lw.below_alloc ?_ _) | (with_reducible refine Below.drew ?_) | (with_reducible refine below_drewN ?_ _) | (with_reducible refine Below.setCell ?_ ?_ _) | go_size))).up hb; clear HV HBW x0 x1 x2 x3 x4 x5 c0 e1 e2 e3 e4 e5 hb; have HV := Lib.hid HV9; clear HV9; have HBW := Lib.hid HV.out.below; obtain ⟨x0, x1, x2, x3, x4, x5, c0⟩ := box7 HV.out.i2; obtain ⟨e1, e2, e3, e4, e5⟩ := box5 HV.out.i0)
      | (go_at_call 16; (with_reducible refine (CK.out _).mono ?_); rintro e w3 ⟨rfl, hb⟩; have HV9 := (HV.out.up (by repeat' (first | (with_reducible exact Below.refl _ _) | (with_reducible assumption) | (with_reducible refine below_over ?_ _ _) | (with_reducible refine Lw.below_alloc ?_ _) | (with_reducible refine Below.drew ?_) | (with_reducible refine below_drewN ?_ _) | (with_reducible refine Below.setCell ?_ ?_ _) | go_size))).up hb; clear HV HBW x0 x1 x2 x3 x4 x5 c0 e1 e2 e3 e4 e5 hb; have HV := Lib.hid HV9; clear HV9; have HBW := Lib.hid HV.out.below; obtain ⟨x0, x1, x2, x3, x4, x5, c0⟩ := box7 HV.out.i2; obtain ⟨e1, e2, e3, e4, e5⟩ := box5 HV.out.i0)
      | (go_at_call 11; (with_reducible refine (D.out _ (HQ.out.up HBW1.out)).mono ?_); rintro e w2 ⟨p, F, rfl, hv⟩; have HV2 := HV1.out.join hv; simp only [List.cons_append, List.nil_append] at HV2; have HV := Lib.hid (HV2.push (boxT w2.heap.size 24 #[.int .i64 c.bt, .int .i64 c.rw, .int .i64 c.wd, .int .i64 c.md, .int .u64 c.sd]) (Lw.below_alloc (Below.refl _ _) _) (heap_alloc_new w2 _) (fun k hk => Nat.le_of_eq hk.symm)); have HBW := Lib.hid HV.out.below; clear hv HV2 x0 x1 x2 x3 x4 x5 c0; obtain ⟨x0, x1, x2, x3, x4, x5, c0⟩ := box7 HV.out.i2; obtain ⟨e1, e2, e3, e4, e5⟩ := box5 HV.out.i0)
      | (go_at_call 10; (with_reducible refine (shown_any _).mono ?_); rintro e w1 ⟨rfl, hb⟩; have HV1 := Lib.hid (HBX.out.up hb); have HBW1 := Lib.hid HV1.out.below; obtain ⟨x0, x1, x2, x3, x4, x5, c0⟩ := box7 HV1.out.i0; clear hb))
    obtain ⟨gc, hgc⟩ : ∃ gc, w2.heap.size = gc := ⟨_, rfl⟩
    rw [hgc] at HV e1 e2 e3 e4 e5 ⊢
    clear hgc
    go_loopw [9, 11] (fun lv2 rv wr => ∃ (r : Nat) (y : Int), r ≤ m ∧ rv = .int .i64 r ∧ lv2 = .int .i64 y ∧ (∃ r0, r0 < m ∧ othK c l kk r0 us = y) ∧ (∀ j, j < r → y ≤ othK c l kk j us) ∧ Have w wr [boxT gc 24 #[.int .i64 c.bt, .int .i64 c.rw, .int .i64 c.wd, .int .i64 c.md, .int .u64 c.sd], skT p F c l (cells c l us), boxT w.heap.size 27 #[.int .i64 x.bt, .int .i64 x.rw, .int .i64 x.wd, .int .i64 x.md, .int .u64 x.sd, .int .i64 lv, .slice (some a9) n0 k0]]) (fun _ rv _ => m - (intOf rv).toNat)
    case atStart => exact ⟨0, _, Nat.zero_le _, rfl, rfl, ⟨0, by omega, rfl⟩, fun j hj => by omega, HV.out⟩
    case round =>
      clear x0 x1 x2 x3 x4 x5 c0 e1 e2 e3 e4 e5
      obtain ⟨r, y, hr, rfl, rfl, hy, hall, hv⟩ := hrel
      have HVr := Lib.hid hv
      have HY := Lib.hid hy
      have HALL := Lib.hid hall
      have HBr := Lib.hid hv.below
      have hyb : -65970697666560 ≤ y ∧ y ≤ 65970697666560 := by
        obtain ⟨r0, _, rfl⟩ := hy
        exact HOB.out kk r0
      clear hv hy hall
      obtain ⟨x0, x1, x2, x3, x4, x5, c0⟩ := box7 HVr.out.i2
      obtain ⟨e1, e2, e3, e4, e5⟩ := box5 HVr.out.i0
      by_cases hrm : r < m
      · have hrc : (r : Int) < c.rw := by rw [HRW.out]; omega
        obtain ⟨z, hz⟩ : ∃ z, othK c l kk r us = z := ⟨_, rfl⟩
        have HZ := Lib.hid hz
        have hzb := HOB.out kk r
        rw [hz] at hzb
        clear hz
        rcases (show z < y ∨ y ≤ z by omega) with hzy | hzy
        · go_wp2_with (go_at_call 17; (with_reducible refine (CO.out kk r _ (HQ.out.up (by repeat' (first | (with_reducible exact Below.refl _ _) | (with_reducible exact HBr.out) | (with_reducible refine below_over ?_ _ _) | (with_reducible refine Lw.below_alloc ?_ _) | (with_reducible refine Below.drew ?_) | (with_reducible refine below_drewN ?_ _) | (with_reducible refine Below.setCell ?_ ?_ _) | go_size))) kk0 kk1 hrm).mono ?_); rintro e w5 ⟨rfl, hb⟩; rw [HZ.out]; have HV5 := Lib.hid (HVr.out.up hb); clear hb)
          all_goals go_roundw
          all_goals first
            | exact ⟨r + 1, z, by omega, by go_num, rfl, ⟨r, hrm, HZ.out⟩, fun j hj => by
                by_cases h5 : j < r
                · have := HALL.out j h5; omega
                · obtain rfl : j = r := by omega
                  rw [HZ.out]; omega, HV5.out⟩
            | (simp [intOf]; omega)
        · go_wp2_with (go_at_call 17; (with_reducible refine (CO.out kk r _ (HQ.out.up (by repeat' (first | (with_reducible exact Below.refl _ _) | (with_reducible exact HBr.out) | (with_reducible refine below_over ?_ _ _) | (with_reducible refine Lw.below_alloc ?_ _) | (with_reducible refine Below.drew ?_) | (with_reducible refine below_drewN ?_ _) | (with_reducible refine Below.setCell ?_ ?_ _) | go_size))) kk0 kk1 hrm).mono ?_); rintro e w5 ⟨rfl, hb⟩; rw [HZ.out]; have HV5 := Lib.hid (HVr.out.up hb); clear hb)
          all_goals go_roundw
          all_goals first
            | exact ⟨r + 1, y, by omega, by go_num, rfl, HY.out, fun j hj => by
                by_cases h5 : j < r
                · have := HALL.out j h5; omega
                · obtain rfl : j = r := by omega
                  rw [HZ.out]; omega, HV5.out⟩
            | (simp [intOf]; omega)
      · have e : r = m := by omega
        subst e
        have hrc : ¬ (r : Int) < c.rw := by rw [HRW.out]; omega
        have HL2 : Hid (lea (cells c l us) (cols c l kk) = hasK kk us + y) := Lib.hid (by
          obtain ⟨r0, hr0, e9⟩ := HY.out
          exact HLEA.out kk y kk0 kk1 ⟨r0, hr0, e9⟩ HALL.out)
        obtain ⟨z0, hz0⟩ : ∃ z0, hasK kk us = z0 := ⟨_, rfl⟩
        have HZ0 := Lib.hid hz0
        have hzb := HHB.out kk
        rw [hz0] at HL2 hzb
        have CPT : Hid (∀ w', SK w' p F c l (cells c l us) → Calls Try.prog 19 #[.pointer (some p), .int .u64 kk] w' fun e w2 => e = .returned (.tuple #[.int .i64 (z0 + y), .int .i64 0]) ∧ Below w'.heap.size w' w2) := Lib.hid (fun w' h => by
          have C := spoint_any p F c l (cells c l us) kk w' h kk0 (by omega)
          rw [pt_least (by rw [HKK.out]; exact kk1) (by rw [HMD.out]; omega), pt_ok (by rw [HKK.out]; exact kk1), HL2.out] at C
          exact C)
        obtain ⟨V, hV⟩ : ∃ V, z0 + y = V := ⟨_, rfl⟩
        have hw1 : IntKind.i64.wrap (z0 + y) = V := by rw [hV]; exact IntWalk.i64_in _ ⟨by omega, by omega⟩
        have hw2 : wrap64 (z0 + y) = V := by unfold wrap64; omega
        rw [hV] at CPT
        clear hz0 hrm HL2
        go_wp2
        clear x0 x1 x2 x3 x4 x5 c0 e1 e2 e3 e4 e5 hrc
        obtain ⟨wo, rfl⟩ : ∃ wo, wo = wr := ⟨_, rfl⟩
        go_loopw [10, 12] (fun pv iv wr => ∃ (i : Nat) (pb : Bool), i ≤ n0 ∧ i ≤ 60 ∧ iv = .int .i64 i ∧ pv = .bool pb ∧ (pb = true → ∀ j u, j < i → us[j]? = some u → 0 ≤ hasK u.1 us) ∧ Have w wr [boxT gc 24 #[.int .i64 c.bt, .int .i64 c.rw, .int .i64 c.wd, .int .i64 c.md, .int .u64 c.sd], skT p F c l (cells c l us), boxT w.heap.size 27 #[.int .i64 x.bt, .int .i64 x.rw, .int .i64 x.wd, .int .i64 x.md, .int .u64 x.sd, .int .i64 lv, .slice (some a9) n0 k0]]) (fun _ iv _ => n0 - (intOf iv).toNat)
        case atStart => exact ⟨0, true, Nat.zero_le _, Nat.zero_le _, rfl, rfl, fun _ j u hj => by omega, HVr.out⟩
        case round =>
          obtain ⟨i, pb, hi, hi6, rfl, rfl, hpl, hv⟩ := hrel
          have HPL := Lib.hid hpl
          clear HVr HBr
          have HVr := Lib.hid hv
          have HBr := Lib.hid hv.below
          clear hpl hv
          obtain ⟨x0, x1, x2, x3, x4, x5, c0⟩ := box7 HVr.out.i2
          obtain ⟨e1, e2, e3, e4, e5⟩ := box5 HVr.out.i0
          by_cases hlt : i < n0 ∧ i < 60
          · obtain ⟨hi1, hi2⟩ := hlt
            obtain ⟨q, hq1⟩ : ∃ q, qs[i]? = some q := ⟨_, List.getElem?_eq_getElem (by rw [HL.out]; omega)⟩
            have hug := HG.out i q hi2 hq1
            obtain ⟨a, g, o, hA, hadd, d1w, d2w, kb, db⟩ := HQ.out.at hq1
            injection hA with hA
            subst hA
            obtain ⟨qk, qd⟩ := q
            simp only at d1w d2w kb db
            have d1 := cell_up d1w HBr.out
            have d2 := cell_up d2w HBr.out
            have CC := Lib.hid (fun w => CCU.out w qk qd kb.1 kb.2 db.1 db.2)
            obtain ⟨U, hU⟩ : ∃ U, (cutU c l (qk, qd)).1 = U := ⟨_, rfl⟩
            obtain ⟨D2, hD2⟩ : ∃ D2, (cutU c l (qk, qd)).2 = D2 := ⟨_, rfl⟩
            have HUG : Hid (us[i]? = some (U, D2)) := Lib.hid (by rw [hug, ← hU, ← hD2])
            rw [hU, hD2] at CC
            obtain ⟨z, hz⟩ : ∃ z, hasK U us = z := ⟨_, rfl⟩
            have HZ := Lib.hid hz
            have hfd : ∀ w : World, (Instr.field 34 (.agg #[.int .u64 U, .int .i64 D2]) 0).run Try.prog w = .ok (.int .u64 U) w := fun _ => by kernel_rfl
            clear hq1 hug hU hD2 d1w d2w hz
            cases pb with
            | false =>
              have HNX : Hid (∀ P : Prop, false = true → P) := Lib.hid (fun P h => by cases h)
              go_wp2
              refine wp_region_held_drew (S := (fun w' => Below wr.heap.size wr w')) (by kernel_rfl) (by repeat' (first | (with_reducible exact Below.refl _ _) | (with_reducible assumption) | (with_reducible refine below_over ?_ _ _) | (with_reducible refine Lw.below_alloc ?_ _) | (with_reducible refine Below.drew ?_) | (with_reducible refine below_drewN ?_ _) | (with_reducible refine Below.setCell ?_ ?_ _) | go_size)) (fun hHeld => ?_)
              refine wpAnyH_take (i := 0) (v := ?_) rfl (by kernel_rfl) (by kernel_rfl) (by kernel_rfl) (fun _ _ _ h => h) (Or.inl ⟨by rfl, ?_⟩) hHeld ?_
              rotate_left
              · intro w hSw
                (try dsimp only at hSw)
                go_simp
                (try with_reducible rfl)
              (try simp only [List.getElem_toArray, List.getElem_cons_zero, List.getElem_cons_succ, Act.put, List.setIfInBounds_toArray, List.set_cons_zero, List.set_cons_succ])
              refine wpAnyH_take (i := 1) (v := ?_) rfl (by kernel_rfl) (by kernel_rfl) (by kernel_rfl) (fun _ _ _ h => h) (Or.inl ⟨by rfl, ?_⟩) hHeld ?_
              rotate_left
              · intro w hSw
                (try dsimp only at hSw)
                go_simp
                (try with_reducible rfl)
              (try simp only [List.getElem_toArray, List.getElem_cons_zero, List.getElem_cons_succ, Act.put, List.setIfInBounds_toArray, List.set_cons_zero, List.set_cons_succ])
              refine wpAnyH_take (i := 2) (v := undef) rfl (by kernel_rfl) (by kernel_rfl) (by kernel_rfl) (fun _ _ _ h => h) (Or.inr ⟨by rfl, rfl⟩) hHeld ?_
              (try simp only [List.getElem_toArray, List.getElem_cons_zero, List.getElem_cons_succ, Act.put, List.setIfInBounds_toArray, List.set_cons_zero, List.set_cons_succ])
              refine wpAnyH_take (i := 3) (v := undef) rfl (by kernel_rfl) (by kernel_rfl) (by kernel_rfl) (fun _ _ _ h => h) (Or.inr ⟨by rfl, rfl⟩) hHeld ?_
              (try simp only [List.getElem_toArray, List.getElem_cons_zero, List.getElem_cons_succ, Act.put, List.setIfInBounds_toArray, List.set_cons_zero, List.set_cons_succ])
              refine wpAnyH_take (i := 4) (v := undef) rfl (by kernel_rfl) (by kernel_rfl) (by kernel_rfl) (fun _ _ _ h => h) (Or.inr ⟨by rfl, rfl⟩) hHeld ?_
              (try simp only [List.getElem_toArray, List.getElem_cons_zero, List.getElem_cons_succ, Act.put, List.setIfInBounds_toArray, List.set_cons_zero, List.set_cons_succ])
              refine wpAnyH_take (i := 5) (v := undef) rfl (by kernel_rfl) (by kernel_rfl) (by kernel_rfl) (fun _ _ _ h => h) (Or.inr ⟨by rfl, rfl⟩) hHeld ?_
              (try simp only [List.getElem_toArray, List.getElem_cons_zero, List.getElem_cons_succ, Act.put, List.setIfInBounds_toArray, List.set_cons_zero, List.set_cons_succ])
              refine wpAnyH_take (i := 6) (v := undef) rfl (by kernel_rfl) (by kernel_rfl) (by kernel_rfl) (fun _ _ _ h => h) (Or.inr ⟨by rfl, rfl⟩) hHeld ?_
              (try simp only [List.getElem_toArray, List.getElem_cons_zero, List.getElem_cons_succ, Act.put, List.setIfInBounds_toArray, List.set_cons_zero, List.set_cons_succ])
              refine wpAnyH_take (i := 7) (v := undef) rfl (by kernel_rfl) (by kernel_rfl) (by kernel_rfl) (fun _ _ _ h => h) (Or.inr ⟨by rfl, rfl⟩) hHeld ?_
              (try simp only [List.getElem_toArray, List.getElem_cons_zero, List.getElem_cons_succ, Act.put, List.setIfInBounds_toArray, List.set_cons_zero, List.set_cons_succ])
              refine wpAnyH_take (i := 8) (v := undef) rfl (by kernel_rfl) (by kernel_rfl) (by kernel_rfl) (fun _ _ _ h => h) (Or.inr ⟨by rfl, rfl⟩) hHeld ?_
              (try simp only [List.getElem_toArray, List.getElem_cons_zero, List.getElem_cons_succ, Act.put, List.setIfInBounds_toArray, List.set_cons_zero, List.set_cons_succ])
              refine wpAnyH_take (i := 9) (v := undef) rfl (by kernel_rfl) (by kernel_rfl) (by kernel_rfl) (fun _ _ _ h => h) (Or.inr ⟨by rfl, rfl⟩) hHeld ?_
              (try simp only [List.getElem_toArray, List.getElem_cons_zero, List.getElem_cons_succ, Act.put, List.setIfInBounds_toArray, List.set_cons_zero, List.set_cons_succ])
              refine wpAnyH_take (i := 10) (v := undef) rfl (by kernel_rfl) (by kernel_rfl) (by kernel_rfl) (fun _ _ _ h => h) (Or.inr ⟨by rfl, rfl⟩) hHeld ?_
              (try simp only [List.getElem_toArray, List.getElem_cons_zero, List.getElem_cons_succ, Act.put, List.setIfInBounds_toArray, List.set_cons_zero, List.set_cons_succ])
              refine wpAnyH_take (i := 11) (v := undef) rfl (by kernel_rfl) (by kernel_rfl) (by kernel_rfl) (fun _ _ _ h => h) (Or.inr ⟨by rfl, rfl⟩) hHeld ?_
              (try simp only [List.getElem_toArray, List.getElem_cons_zero, List.getElem_cons_succ, Act.put, List.setIfInBounds_toArray, List.set_cons_zero, List.set_cons_succ])
              refine wpAnyH_ready (rs := [12]) (by kernel_rfl) (by simp) ?_
              refine AllReadyH.cons rfl (fun K hK => ?_) AllReadyH.nil
              go_simp
              refine hK.out _ _ (by repeat' (first | (with_reducible exact Below.refl _ _) | (with_reducible assumption) | (with_reducible refine below_over ?_ _ _) | (with_reducible refine Lw.below_alloc ?_ _) | (with_reducible refine Below.drew ?_) | (with_reducible refine below_drewN ?_ _) | (with_reducible refine Below.setCell ?_ ?_ _) | go_size)) (fun hHeld => ?_)
              clear hK K
              (try simp only [List.getElem_toArray, List.getElem_cons_zero, List.getElem_cons_succ, Act.put, List.setIfInBounds_toArray, List.set_cons_zero, List.set_cons_succ])
              refine wpAnyH_take (i := 13) (v := undef) rfl (by kernel_rfl) (by kernel_rfl) (by kernel_rfl) (fun _ _ _ h => h) (Or.inr ⟨by rfl, rfl⟩) hHeld ?_
              (try simp only [List.getElem_toArray, List.getElem_cons_zero, List.getElem_cons_succ, Act.put, List.setIfInBounds_toArray, List.set_cons_zero, List.set_cons_succ])
              refine wpAnyH_ready (rs := [14]) (by kernel_rfl) (by simp) ?_
              refine AllReadyH.cons rfl (fun K hK => ?_) AllReadyH.nil
              go_simp
              refine hK.out _ _ (by repeat' (first | (with_reducible exact Below.refl _ _) | (with_reducible assumption) | (with_reducible refine below_over ?_ _ _) | (with_reducible refine Lw.below_alloc ?_ _) | (with_reducible refine Below.drew ?_) | (with_reducible refine below_drewN ?_ _) | (with_reducible refine Below.setCell ?_ ?_ _) | go_size)) (fun hHeld => ?_)
              clear hK K
              (try simp only [List.getElem_toArray, List.getElem_cons_zero, List.getElem_cons_succ, Act.put, List.setIfInBounds_toArray, List.set_cons_zero, List.set_cons_succ])
              refine wpAnyH_take (i := 15) (v := undef) rfl (by kernel_rfl) (by kernel_rfl) (by kernel_rfl) (fun _ _ _ h => h) (Or.inr ⟨by rfl, rfl⟩) hHeld ?_
              (try simp only [List.getElem_toArray, List.getElem_cons_zero, List.getElem_cons_succ, Act.put, List.setIfInBounds_toArray, List.set_cons_zero, List.set_cons_succ])
              refine wpAnyH_take (i := 16) (v := ?_) rfl (by kernel_rfl) (by kernel_rfl) (by kernel_rfl) (fun _ _ _ h => h) (Or.inl ⟨by rfl, ?_⟩) hHeld ?_
              rotate_left
              · intro w hSw
                (try dsimp only at hSw)
                go_simp
                (try with_reducible rfl)
              (try simp only [List.getElem_toArray, List.getElem_cons_zero, List.getElem_cons_succ, Act.put, List.setIfInBounds_toArray, List.set_cons_zero, List.set_cons_succ])
              refine wpAnyH_take (i := 17) (v := ?_) rfl (by kernel_rfl) (by kernel_rfl) (by kernel_rfl) (fun _ _ _ h => h) (Or.inl ⟨by rfl, ?_⟩) hHeld ?_
              rotate_left
              · intro w hSw
                (try dsimp only at hSw)
                go_simp
                (try with_reducible rfl)
              (try simp only [List.getElem_toArray, List.getElem_cons_zero, List.getElem_cons_succ, Act.put, List.setIfInBounds_toArray, List.set_cons_zero, List.set_cons_succ])
              refine wpAnyH_done (by kernel_rfl) ?_ _
              go_wp2
              go_roundw
              case rel => exact ⟨i + 1, false, by omega, by omega, by go_num, rfl, (fun h => by cases h), HVr.out.up (by repeat' (first | (with_reducible exact Below.refl _ _) | (with_reducible assumption) | (with_reducible refine below_over ?_ _ _) | (with_reducible refine Lw.below_alloc ?_ _) | (with_reducible refine Below.drew ?_) | (with_reducible refine below_drewN ?_ _) | (with_reducible refine Below.setCell ?_ ?_ _) | go_size))⟩
              case measure => simp [intOf]; omega
            | true =>
              by_cases hz0 : 0 ≤ z
              · have HNX : Hid (∀ j u, j < i + 1 → us[j]? = some u → 0 ≤ hasK u.1 us) := Lib.hid (fun j u hj hu => by
                  by_cases h5 : j < i
                  · exact HPL.out rfl j u h5 hu
                  · obtain rfl : j = i := by omega
                    rw [HUG.out] at hu
                    injection hu with hu
                    subst hu
                    rw [HZ.out]
                    exact hz0)
                go_wp2
                go_region_held3 (fun w' => w'.cell? ⟨w.heap.size, 0, none⟩ = some (.int .i64 x.bt) ∧ w'.cell? ⟨w.heap.size, 1, none⟩ = some (.int .i64 x.rw) ∧ w'.cell? ⟨w.heap.size, 2, none⟩ = some (.int .i64 x.wd) ∧ w'.cell? ⟨w.heap.size, 3, none⟩ = some (.int .i64 x.md) ∧ w'.cell? ⟨w.heap.size, 4, none⟩ = some (.int .u64 x.sd) ∧ w'.cell? ⟨w.heap.size, 5, none⟩ = some (.int .i64 lv) ∧ w'.cell? ⟨w.heap.size, 6, none⟩ = some (.slice (some a9) n0 k0) ∧ w'.cell? ⟨gc, 0, none⟩ = some (.int .i64 c.bt) ∧ w'.cell? ⟨gc, 1, none⟩ = some (.int .i64 c.rw) ∧ w'.cell? ⟨gc, 2, none⟩ = some (.int .i64 c.wd) ∧ w'.cell? ⟨gc, 3, none⟩ = some (.int .i64 c.md) ∧ w'.cell? ⟨gc, 4, none⟩ = some (.int .u64 c.sd) ∧ w'.cell? ⟨g, o, none⟩ = some (.int .u64 qk) ∧ w'.cell? ⟨g, o + 1, none⟩ = some (.int .i64 qd)) (first | (refine ⟨?_, ?_, ?_, ?_, ?_, ?_, ?_, ?_, ?_, ?_, ?_, ?_, ?_, ?_⟩ <;> (first | (with_reducible assumption) | (with_reducible refine cell_up x0 ?_) | (with_reducible refine cell_up x1 ?_) | (with_reducible refine cell_up x2 ?_) | (with_reducible refine cell_up x3 ?_) | (with_reducible refine cell_up x4 ?_) | (with_reducible refine cell_up x5 ?_) | (with_reducible refine cell_up c0 ?_) | (with_reducible refine cell_up e1 ?_) | (with_reducible refine cell_up e2 ?_) | (with_reducible refine cell_up e3 ?_) | (with_reducible refine cell_up e4 ?_) | (with_reducible refine cell_up e5 ?_) | (with_reducible refine cell_up d1 ?_) | (with_reducible refine cell_up d2 ?_)) <;> (repeat' (first | (with_reducible exact Below.refl _ _) | (with_reducible assumption) | (with_reducible refine below_over ?_ _ _) | (with_reducible refine Lw.below_alloc ?_ _) | (with_reducible refine Below.drew ?_) | (with_reducible refine below_drewN ?_ _) | (with_reducible refine Below.setCell ?_ ?_ _) | go_size)))) (first
                  | (go_at_call 12; (with_reducible refine (CC.out _).mono ?_); rintro e w' ⟨rfl, hb⟩; obtain ⟨bs, dd, rfl⟩ := below_grow hb; clear hb)
                  | (go_at_call 18; (with_reducible refine (CH.out U _ (HQ.out.up (below_call HBr.out (by repeat' (first | (with_reducible exact Below.refl _ _) | (with_reducible assumption) | (with_reducible refine below_over ?_ _ _) | (with_reducible refine Lw.below_alloc ?_ _) | (with_reducible refine Below.drew ?_) | (with_reducible refine below_drewN ?_ _) | (with_reducible refine Below.setCell ?_ ?_ _) | go_size)) (Nat.le_refl _)))).mono ?_); rintro e w' ⟨rfl, hb⟩; rw [HZ.out]; obtain ⟨bs2, dd2, rfl⟩ := below_grow hb; clear hb))
                all_goals go_wp2
                go_roundw
                case rel => exact ⟨i + 1, true, by omega, by omega, by go_num, rfl, (fun _ => HNX.out), HVr.out.up (by repeat' (first | (with_reducible exact Below.refl _ _) | (with_reducible assumption) | (with_reducible refine below_over ?_ _ _) | (with_reducible refine Lw.below_alloc ?_ _) | (with_reducible refine Below.drew ?_) | (with_reducible refine below_drewN ?_ _) | (with_reducible refine Below.setCell ?_ ?_ _) | go_size))⟩
                case measure => simp [intOf]; omega
              · have HNX : Hid (∀ P : Prop, false = true → P) := Lib.hid (fun P h => by cases h)
                have hz1 : decide (0 ≤ z) = false := decide_eq_false hz0
                go_wp2
                go_region_held3 (fun w' => w'.cell? ⟨w.heap.size, 0, none⟩ = some (.int .i64 x.bt) ∧ w'.cell? ⟨w.heap.size, 1, none⟩ = some (.int .i64 x.rw) ∧ w'.cell? ⟨w.heap.size, 2, none⟩ = some (.int .i64 x.wd) ∧ w'.cell? ⟨w.heap.size, 3, none⟩ = some (.int .i64 x.md) ∧ w'.cell? ⟨w.heap.size, 4, none⟩ = some (.int .u64 x.sd) ∧ w'.cell? ⟨w.heap.size, 5, none⟩ = some (.int .i64 lv) ∧ w'.cell? ⟨w.heap.size, 6, none⟩ = some (.slice (some a9) n0 k0) ∧ w'.cell? ⟨gc, 0, none⟩ = some (.int .i64 c.bt) ∧ w'.cell? ⟨gc, 1, none⟩ = some (.int .i64 c.rw) ∧ w'.cell? ⟨gc, 2, none⟩ = some (.int .i64 c.wd) ∧ w'.cell? ⟨gc, 3, none⟩ = some (.int .i64 c.md) ∧ w'.cell? ⟨gc, 4, none⟩ = some (.int .u64 c.sd) ∧ w'.cell? ⟨g, o, none⟩ = some (.int .u64 qk) ∧ w'.cell? ⟨g, o + 1, none⟩ = some (.int .i64 qd)) (first | (refine ⟨?_, ?_, ?_, ?_, ?_, ?_, ?_, ?_, ?_, ?_, ?_, ?_, ?_, ?_⟩ <;> (first | (with_reducible assumption) | (with_reducible refine cell_up x0 ?_) | (with_reducible refine cell_up x1 ?_) | (with_reducible refine cell_up x2 ?_) | (with_reducible refine cell_up x3 ?_) | (with_reducible refine cell_up x4 ?_) | (with_reducible refine cell_up x5 ?_) | (with_reducible refine cell_up c0 ?_) | (with_reducible refine cell_up e1 ?_) | (with_reducible refine cell_up e2 ?_) | (with_reducible refine cell_up e3 ?_) | (with_reducible refine cell_up e4 ?_) | (with_reducible refine cell_up e5 ?_) | (with_reducible refine cell_up d1 ?_) | (with_reducible refine cell_up d2 ?_)) <;> (repeat' (first | (with_reducible exact Below.refl _ _) | (with_reducible assumption) | (with_reducible refine below_over ?_ _ _) | (with_reducible refine Lw.below_alloc ?_ _) | (with_reducible refine Below.drew ?_) | (with_reducible refine below_drewN ?_ _) | (with_reducible refine Below.setCell ?_ ?_ _) | go_size)))) (first
                  | (go_at_call 12; (with_reducible refine (CC.out _).mono ?_); rintro e w' ⟨rfl, hb⟩; obtain ⟨bs, dd, rfl⟩ := below_grow hb; clear hb)
                  | (go_at_call 18; (with_reducible refine (CH.out U _ (HQ.out.up (below_call HBr.out (by repeat' (first | (with_reducible exact Below.refl _ _) | (with_reducible assumption) | (with_reducible refine below_over ?_ _ _) | (with_reducible refine Lw.below_alloc ?_ _) | (with_reducible refine Below.drew ?_) | (with_reducible refine below_drewN ?_ _) | (with_reducible refine Below.setCell ?_ ?_ _) | go_size)) (Nat.le_refl _)))).mono ?_); rintro e w' ⟨rfl, hb⟩; rw [HZ.out]; obtain ⟨bs2, dd2, rfl⟩ := below_grow hb; clear hb))
                all_goals go_wp2
                go_roundw
                case rel => exact ⟨i + 1, false, by omega, by omega, by go_num, rfl, (fun h => by cases h), HVr.out.up (by repeat' (first | (with_reducible exact Below.refl _ _) | (with_reducible assumption) | (with_reducible refine below_over ?_ _ _) | (with_reducible refine Lw.below_alloc ?_ _) | (with_reducible refine Below.drew ?_) | (with_reducible refine below_drewN ?_ _) | (with_reducible refine Below.setCell ?_ ?_ _) | go_size))⟩
                case measure => simp [intOf]; omega
          · have hge : n0 ≤ i ∨ 60 ≤ i := by omega
            have hy0 : pb = true → 0 ≤ y := fun hp => by
              obtain ⟨r0, hr0, e9⟩ := HY.out
              rw [← e9]
              refine HNN.out kk r0 (fun u hu => ?_)
              obtain ⟨j, hj, e8⟩ := List.mem_iff_getElem.1 hu
              exact HPL.out hp j u (by have := HUL.out; omega) (by rw [List.getElem?_eq_getElem hj, e8])
            have hy1 : pb = true → V ≥ z0 := fun h => by have := hy0 h; omega
            clear hy0
            have hno : (decide ((i : Int) < n0) && decide ((i : Int) < 60)) = false := by
              rcases hge with h | h
              · have : ¬ (i : Int) < n0 := by omega
                simp [this]
              · have : ¬ (i : Int) < 60 := by omega
                simp [this]
            have hcases : (i : Int) < n0 ∧ ¬ (i : Int) < 60 ∨ ¬ (i : Int) < n0 := by omega
            rcases hcases with ⟨hc1, hc2⟩ | hc1
            all_goals try (exfalso; omega)
            all_goals clear hno hge hlt
            all_goals cases pb with
              | false =>
                clear hy1
                go_wp2_with (first
                  | (go_at_call 19; (with_reducible refine (CPT.out _ (skI HVr.out.i1)).mono ?_); rintro e w6 ⟨rfl, hb⟩; have HV6 := Lib.hid (HVr.out.up hb); have HB6 := Lib.hid HV6.out.below; clear hb x0 x1 x2 x3 x4 x5 c0 e1 e2 e3 e4 e5; obtain ⟨x0, x1, x2, x3, x4, x5, c0⟩ := box7 HV6.out.i2; obtain ⟨e1, e2, e3, e4, e5⟩ := box5 HV6.out.i0)
                  | (go_at_call 18; (with_reducible refine (CH.out kk _ (HQ.out.up HB6.out)).mono ?_); rintro e w7 ⟨rfl, hb⟩; rw [HZ0.out]; have HV7 := Lib.hid (HV6.out.up hb); clear hb))
                go_ret
                exact ⟨ret_bs (by first | rfl | (simp [*]; done)), HV7.out.below⟩
              | true =>
                have hy2 := hy1 rfl
                clear hy1
                go_wp2_with (first
                  | (go_at_call 19; (with_reducible refine (CPT.out _ (skI HVr.out.i1)).mono ?_); rintro e w6 ⟨rfl, hb⟩; have HV6 := Lib.hid (HVr.out.up hb); have HB6 := Lib.hid HV6.out.below; clear hb x0 x1 x2 x3 x4 x5 c0 e1 e2 e3 e4 e5; obtain ⟨x0, x1, x2, x3, x4, x5, c0⟩ := box7 HV6.out.i2; obtain ⟨e1, e2, e3, e4, e5⟩ := box5 HV6.out.i0)
                  | (go_at_call 18; (with_reducible refine (CH.out kk _ (HQ.out.up HB6.out)).mono ?_); rintro e w7 ⟨rfl, hb⟩; rw [HZ0.out]; have HV7 := Lib.hid (HV6.out.up hb); clear hb))
                go_ret
                exact ⟨ret_bs (by first | rfl | (simp [*]; done)), HV7.out.below⟩
namespace sketchPoint
open Go.ChangeShapes Go.WideShapes Go.ChangeAt Go.Joins
set_option maxRecDepth 100000 in
theorem lifted (os : Os) (started : os.Started) (H : Type) (enc : TypeId × Value → H) :
    ReturnsInHanded {} Try.checked os 4 .any (Rows.sketchPointSpec.pre6 enc Try.prog Try.f4 Rows.sketchPointRow.domain false) (Rows.sketchPointSpec.post enc Try.prog Try.f4 false true false false) := by
  refine Lw.lifted (C := Try.checked) (B := 4) (by kernel_rfl) os started (by kernel_rfl) Try.func4
    (ChangeSpec.witness6 (enc := enc) (C := Try.checked) false ⟨#[], #[.agg #[.int .i64 0, .int .i64 0, .int .i64 0, .int .i64 0, .int .u64 0, .int .i64 0, .slice none 0 0], .int .u64 0], []⟩ 8 (by kernel_rfl) (by kernel_rfl) (by kernel_rfl) (by kernel_rfl)) rfl Try.underlying4 (by kernel_rfl) (by kernel_rfl) (by kernel_rfl) ?_ ?_
  · intro ds h
    rw [Try.params4] at h
    match ds, h with
    | [_, _], _ => rfl
  · intro W base args ds p hval hA
    rw [Try.params4] at hA hval
    obtain ⟨v0, vs0, d0, ds0, p0, q0, hargs, rfl, rfl, h0, r0⟩ := trodAll_cons hA
    obtain ⟨v1, vs1, d1, ds1, p1, q1, rfl, rfl, rfl, h1, r1⟩ := trodAll_cons r0
    obtain ⟨rfl, rfl, rfl⟩ := trodAll_nil r1
    obtain rfl : args = #[v0, v1] := by cases args; simp_all
    obtain ⟨x0, lv0, A0, n0, k0, qs0, rfl, hx0, hlv0, hq0⟩ := open_playS (hval 0 27 v0 rfl rfl) h0
    obtain ⟨a1, rfl, rfl, rfl, w1⟩ := open_int Try.underlying22 (hval 1 22 v1 rfl rfl) h1
    have b1 := Lw.wf_u64 w1
    exact point_law x0 lv0 A0 n0 k0 qs0 a1 W hx0 hlv0 hq0 b1.1 b1.2
theorem over : Rows.sketchPointRow.holds Try.pinned (OpenSpec.ofChange Rows.sketchPointSpec) :=
  OpenClaim.holds_of_wide 4 Try.f4 rfl rfl rfl rfl rfl rfl rfl ⟨rfl, rfl, rfl, rfl, rfl⟩ rfl rfl rfl rfl rfl (by kernel_rfl) Try.func4 (by kernel_rfl)
    (of_decide_eq_true (by kernel_rfl)) (by unfold Func.isWrapper; first | (rw [if_pos (by decide +kernel)]; kernel_rfl) | (rw [if_neg (by decide +kernel)]; exact ⟨rfl, rfl⟩))
    (fun os started H enc _ => lifted os started H enc)
theorem proved : Rows.SketchPointSaid :=
  over
#print axioms proved
end sketchPoint
end Go.Proofs.Ytahgkiceifblmaa.Sk
