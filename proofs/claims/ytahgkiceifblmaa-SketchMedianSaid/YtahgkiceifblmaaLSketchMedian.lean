/- The statement SketchMedian of layer 10 holds. Printed by wip/gen/skmed.py. -/
import Derived.Test.YtahgkiceifblmaaMg
import Derived.Deep.LoopGhost
import Derived.Deep.RegionHeld3
import Derived.Deep.DeepCutAuto
import Derived.Deep.QuietTactic
import Derived.BigQuiet
namespace Go.Proofs.Ytahgkiceifblmaa.Sk
open Go Go.RowKit Lw Grd Lin Con Shp
set_option linter.unusedVariables false
set_option linter.unusedSimpArgs false
set_option maxRecDepth 100000 in
set_option maxHeartbeats 8000000 in
theorem median_neg (x : Cfg) (lv : Int) (A : Option Addr) (n0 k0 : Nat) (qs : Ups) (key far : Int) (w : World) (hx : x.Ok) (hlv : -9223372036854775808 ≤ lv ∧ lv ≤ 9223372036854775807) (hq : UpdV w A n0 k0 qs) (key0 : 0 ≤ key) (key1 : key ≤ 18446744073709551615) (t T NT N1 : Int) (ht : Int.tmod far 1099511627776 = t) (hlt : t < N1) (hT : T = N1) (hT0 : 0 ≤ T) (hT1 : T < 1099511627776) (hNT : NT = -T) (hN1 : -t = N1) :
    Calls Try.prog 5 #[.agg #[.int .i64 x.bt, .int .i64 x.rw, .int .i64 x.wd, .int .i64 x.md, .int .u64 x.sd, .int .i64 lv, .slice A n0 k0], .int .u64 key, .int .i64 far] w fun e w' => e = .returned (.bool true) ∧ Below w.heap.size w w' := by
  obtain ⟨c, hC⟩ : ∃ c, cfgP x 3 = c := ⟨_, rfl⟩
  obtain ⟨l, hl⟩ : ∃ l, lv % 65536 % (c.bt + 1) = l := ⟨_, rfl⟩
  have hr := cfgP_right x 3 (by omega) (by omega)
  have hco := cfgP_ok x hx 3 (by omega) (by omega)
  have hmd : c.md = 3 := by rw [← hC]; rfl
  rw [hC] at hr hco
  have hlb : 0 ≤ l ∧ l ≤ c.bt := by
    have h1 := hr.1.1
    have h2 := Int.emod_nonneg (lv % 65536) (show c.bt + 1 ≠ 0 by omega)
    have h3 := Int.emod_lt_of_pos (lv % 65536) (show 0 < c.bt + 1 by omega)
    omega
  have hbt8 := hr.2
  have hkeys : 1 ≤ keys c l := keys_pos.2 ⟨hr.1, hlb.1, hlb.2⟩
  have hkb := keys_bd c l
  obtain ⟨m, hm⟩ : ∃ m, rws c = m := ⟨_, rfl⟩
  have hm8 : 1 ≤ m ∧ m ≤ 8 := by have := rws_bd hr.1; rw [hm] at this; exact ⟨this.1, this.2.1⟩
  have HRW : Hid (c.rw = (m : Int)) := Lib.hid (by have := rws_bd hr.1; rw [hm] at this; exact this.2.2.symm)
  have HQ := Lib.hid hq
  have HL := Lib.hid hq.len
  have hnc := hq.nc
  have hcm := hq.cm
  unfold maxLen at hcm
  have D := Lib.hid (fun w hq => fed_any x lv A n0 k0 qs 3 0 60 0 60 c l w hx hlv hq (by omega) (by omega) rfl rfl (by omega) (by omega) hC hl)
  rw [← upsA_R] at D
  have CO := Lib.hid (fun kk r w hq h0 h1 (h2 : r < m) => others_any x lv A n0 k0 qs c l kk r m w hq hco (by omega) (by omega) h0 h1 hm h2)
  have CO0 := Lib.hid (fun kk w hq h0 h1 => others0 x lv A n0 k0 qs c l kk m w hq hco (by omega) (by omega) h0 h1 hm (by omega))
  have CH := Lib.hid (fun kk w hq => has_any x lv A n0 k0 qs c l kk w hq hco (by omega) (by omega) hkeys)
  have CCU := Lib.hid (fun w k d h0 h1 h2 h3 => cut_any c l k d w hco (by omega) (by omega) h0 h1 h2 h3 hkeys)
  have CK := Lib.hid (fun w => rkeys_any c l w hco (by omega) (by omega))
  have hlen : (upsA c l qs).length ≤ 60 := by rw [upsA_R]; exact upsR_len _ _ _ _ _
  have hin := upsR_in hkeys qs 0 60
  rw [← upsA_R] at hin
  have HOB : Hid (∀ kk r, -65970697666560 ≤ othK c l kk r (upsA c l qs) ∧ othK c l kk r (upsA c l qs) ≤ 65970697666560) := Lib.hid (fun kk r => by
    have h := othK_bd (c := c) (l := l) (k := kk) (r := r) (b := 1099511627776) (by omega) (us := upsA c l qs) (fun u hu => (hin.1 u hu).2.2)
    omega)
  have HHB : Hid (∀ kk, -65970697666560 ≤ hasK kk (upsA c l qs) ∧ hasK kk (upsA c l qs) ≤ 65970697666560) := Lib.hid (fun kk => by
    have h := hasK_bd (k := kk) (b := 1099511627776) (by omega) (us := upsA c l qs) (fun u hu => (hin.1 u hu).2.2)
    omega)
  have HNEAR : Hid (∀ kk far, 0 ≤ kk → kk < keys c l → (rws c : Int) < 2 * (Ord.near (othR c l kk (upsA c l qs)) (-far) far : Int) → hasK kk (upsA c l qs) - far ≤ ptVal c l (cells c l (upsA c l qs)) kk ∧ ptVal c l (cells c l (upsA c l qs)) kk ≤ hasK kk (upsA c l qs) + far) := Lib.hid (fun kk far h0 h1 h2 => median_near hr.1 hin.1 h0 h1 hmd h2)
  have HM := Lib.hid hm
  have HMD := Lib.hid hmd
  have HKY := Lib.hid hkeys
  obtain ⟨us, hus⟩ : ∃ us, upsA c l qs = us := ⟨_, rfl⟩
  rw [hus] at D CO CO0 CH HHB HNEAR hlen
  obtain ⟨K, hKK⟩ : ∃ K, keys c l = K := ⟨_, rfl⟩
  rw [hKK] at CK CO HNEAR hkeys hkb
  have HKK := Lib.hid hKK
  obtain ⟨r1, r2, r3⟩ := rem_key key K key0 key1 hkeys
  obtain ⟨R, hR⟩ : ∃ R, key % K = R := ⟨_, rfl⟩
  have hRK : R < K := by rw [← hR]; exact Int.emod_lt_of_pos _ (by omega)
  rw [hR] at r1 r2 r3
  have hKn : ¬ K = 0 := by omega
  have HBX : Hid (Have w (w.alloc (.cells #[.int .i64 x.bt, .int .i64 x.rw, .int .i64 x.wd, .int .i64 x.md, .int .u64 x.sd, .int .i64 lv, .slice A n0 k0] 27)) [boxT w.heap.size 27 #[.int .i64 x.bt, .int .i64 x.rw, .int .i64 x.wd, .int .i64 x.md, .int .u64 x.sd, .int .i64 lv, .slice A n0 k0]]) := Lib.hid (box_new w _ _)
  have HNT : Hid (-T = NT) := Lib.hid hNT.symm
  have u1 : IntKind.i64.wrap (-t) = N1 := by rw [hN1]; exact IntWalk.i64_in _ ⟨by omega, by omega⟩
  have u2 : wrap64 (-t) = N1 := by rw [hN1]; exact IntWalk.wrap64_in _ ⟨by omega, by omega⟩
  have u3 : IntKind.i64.wrap (-T) = NT := by rw [← hNT]; exact IntWalk.i64_in _ ⟨by omega, by omega⟩
  have u4 : wrap64 (-T) = NT := by rw [← hNT]; exact IntWalk.wrap64_in _ ⟨by omega, by omega⟩
  subst hT
  clear hC hl hr hco hmd hq hx hm hus hKK hR hin hNT hN1
  by_cases hn0 : n0 = 0
  · have hn0b : ¬ (0 : Int) < (n0 : Int) := by omega
    skip
    clear hn0
    go_enter Try.func5, Try.ntmps5
    obtain ⟨kk, hkk⟩ : ∃ kk, R = kk := ⟨_, rfl⟩
    rw [hkk] at r1 r2 hRK
    have kk0 := r2
    have kk1 := hRK
    go_wp2_with (first
      | (go_at_call 16; (with_reducible refine (CK.out _).mono ?_); rintro e w3 ⟨rfl, hb⟩; have HV9 := (HV.out.up (by repeat' (first | (with_reducible exact Below.refl _ _) | (with_reducible assumption) | (with_reducible refine below_over ?_ _ _) | (with_reducible refine Lw.below_alloc ?_ _) | (with_reducible refine Below.drew ?_) | (with_reducible refine below_drewN ?_ _) | (with_reducible refine Below.setCell ?_ ?_ _) | go_size))).up hb; clear HV HBW x0 x1 x2 x3 x4 x5 c0 e1 e2 e3 e4 e5 hb; have HV := Lib.hid HV9; clear HV9; have HBW := Lib.hid HV.out.below; obtain ⟨x0, x1, x2, x3, x4, x5, c0⟩ := box7 HV.out.i2; obtain ⟨e1, e2, e3, e4, e5⟩ := box5 HV.out.i0)
      | (go_at_call 11; (with_reducible refine (D.out _ (HQ.out.up HBW1.out)).mono ?_); rintro e w2 ⟨p, F, rfl, hv⟩; have HV2 := HV1.out.join hv; simp only [List.cons_append, List.nil_append] at HV2; have HV := Lib.hid (HV2.push (boxT w2.heap.size 24 #[.int .i64 c.bt, .int .i64 c.rw, .int .i64 c.wd, .int .i64 c.md, .int .u64 c.sd]) (Lw.below_alloc (Below.refl _ _) _) (heap_alloc_new w2 _) (fun k hk => Nat.le_of_eq hk.symm)); have HBW := Lib.hid HV.out.below; clear hv HV2 x0 x1 x2 x3 x4 x5 c0; obtain ⟨x0, x1, x2, x3, x4, x5, c0⟩ := box7 HV.out.i2; obtain ⟨e1, e2, e3, e4, e5⟩ := box5 HV.out.i0)
      | (go_at_call 10; (with_reducible refine (shown_any _).mono ?_); rintro e w1 ⟨rfl, hb⟩; have HV1 := Lib.hid (HBX.out.up hb); have HBW1 := Lib.hid HV1.out.below; obtain ⟨x0, x1, x2, x3, x4, x5, c0⟩ := box7 HV1.out.i0; clear hb))
    obtain ⟨gc, hgc⟩ : ∃ gc, w2.heap.size = gc := ⟨_, rfl⟩
    rw [hgc] at HV e1 e2 e3 e4 e5 ⊢
    clear hgc
    go_loopw [11, 12] (fun cv rv wr => ∃ (r C : Nat), r ≤ m ∧ rv = .int .i64 r ∧ cv = .int .i64 C ∧ C = Ord.near ((othR c l kk us).take r) NT T ∧ Have w wr [boxT gc 24 #[.int .i64 c.bt, .int .i64 c.rw, .int .i64 c.wd, .int .i64 c.md, .int .u64 c.sd], skT p F c l (cells c l us), boxT w.heap.size 27 #[.int .i64 x.bt, .int .i64 x.rw, .int .i64 x.wd, .int .i64 x.md, .int .u64 x.sd, .int .i64 lv, .slice A n0 k0]]) (fun _ rv _ => m - (intOf rv).toNat)
    case atStart => exact ⟨0, 0, Nat.zero_le _, rfl, rfl, rfl, HV.out⟩
    case round =>
      clear x0 x1 x2 x3 x4 x5 c0 e1 e2 e3 e4 e5
      obtain ⟨r, C, hr, rfl, rfl, hC, hv⟩ := hrel
      have HVr := Lib.hid hv
      have HCN := Lib.hid hC
      have HBr := Lib.hid hv.below
      have hCr : C ≤ r := by rw [hC]; exact Ord.near_len _ _ _ _
      clear hv hC
      obtain ⟨x0, x1, x2, x3, x4, x5, c0⟩ := box7 HVr.out.i2
      obtain ⟨e1, e2, e3, e4, e5⟩ := box5 HVr.out.i0
      by_cases hrm : r < m
      · have hrc : (r : Int) < c.rw := by rw [HRW.out]; omega
        obtain ⟨z, hz⟩ : ∃ z, othK c l kk r us = z := ⟨_, rfl⟩
        have HZ := Lib.hid hz
        have hnx := Ord.near_next (othR c l kk us) NT T r z (by rw [← hz]; exact othR_get (by rw [HM.out]; exact hrm))
        rw [← HCN.out] at hnx
        clear hz
        by_cases hz1 : NT ≤ z
        · by_cases hz2 : z ≤ T
          · rw [if_pos ⟨hz1, hz2⟩] at hnx
            have HNX := Lib.hid hnx
            clear hnx
            go_wp2_with (go_at_call 17; (with_reducible refine (CO.out kk r _ (HQ.out.up (by repeat' (first | (with_reducible exact Below.refl _ _) | (with_reducible exact HBr.out) | (with_reducible refine below_over ?_ _ _) | (with_reducible refine Lw.below_alloc ?_ _) | (with_reducible refine Below.drew ?_) | (with_reducible refine below_drewN ?_ _) | (with_reducible refine Below.setCell ?_ ?_ _) | go_size))) kk0 kk1 hrm).mono ?_); rintro e w5 ⟨rfl, hb⟩; rw [HZ.out]; have HV5 := Lib.hid (HVr.out.up hb); clear hb)
            go_roundw
            case rel => exact ⟨r + 1, _, by omega, by go_num, by go_num, HNX.out.symm, HV5.out⟩
            case measure => simp [intOf]; omega
          · rw [if_neg (fun h => hz2 h.2)] at hnx
            have HNX := Lib.hid hnx
            clear hnx
            go_wp2_with (go_at_call 17; (with_reducible refine (CO.out kk r _ (HQ.out.up (by repeat' (first | (with_reducible exact Below.refl _ _) | (with_reducible exact HBr.out) | (with_reducible refine below_over ?_ _ _) | (with_reducible refine Lw.below_alloc ?_ _) | (with_reducible refine Below.drew ?_) | (with_reducible refine below_drewN ?_ _) | (with_reducible refine Below.setCell ?_ ?_ _) | go_size))) kk0 kk1 hrm).mono ?_); rintro e w5 ⟨rfl, hb⟩; rw [HZ.out]; have HV5 := Lib.hid (HVr.out.up hb); clear hb)
            go_roundw
            case rel => exact ⟨r + 1, _, by omega, by go_num, by go_num, HNX.out.symm, HV5.out⟩
            case measure => simp [intOf]; omega
        · rw [if_neg (fun h => hz1 h.1)] at hnx
          have HNX := Lib.hid hnx
          clear hnx
          go_wp2_with (go_at_call 17; (with_reducible refine (CO.out kk r _ (HQ.out.up (by repeat' (first | (with_reducible exact Below.refl _ _) | (with_reducible exact HBr.out) | (with_reducible refine below_over ?_ _ _) | (with_reducible refine Lw.below_alloc ?_ _) | (with_reducible refine Below.drew ?_) | (with_reducible refine below_drewN ?_ _) | (with_reducible refine Below.setCell ?_ ?_ _) | go_size))) kk0 kk1 hrm).mono ?_); rintro e w5 ⟨rfl, hb⟩; rw [HZ.out]; have HV5 := Lib.hid (HVr.out.up hb); clear hb)
          go_roundw
          case rel => exact ⟨r + 1, _, by omega, by go_num, by go_num, HNX.out.symm, HV5.out⟩
          case measure => simp [intOf]; omega
      · have e : r = m := by omega
        subst e
        have hrc : ¬ (r : Int) < c.rw := by rw [HRW.out]; omega
        have hta : (othR c l kk us).take r = othR c l kk us := List.take_of_length_le (by rw [othR_len, HM.out]; exact Nat.le_refl _)
        have hcn := HCN.out
        rw [hta] at hcn
        have HMN : Hid (c.rw < 2 * (C : Int) → hasK kk us - T ≤ ptVal c l (cells c l us) kk ∧ ptVal c l (cells c l us) kk ≤ hasK kk us + T) := Lib.hid (fun h => HNEAR.out kk T kk0 kk1 (by rw [HNT.out, ← hcn, HM.out, ← HRW.out]; exact h))
        obtain ⟨z0, hz0⟩ : ∃ z0, hasK kk us = z0 := ⟨_, rfl⟩
        have HZ0 := Lib.hid hz0
        have hzb := HHB.out kk
        obtain ⟨V, hV⟩ : ∃ V, ptVal c l (cells c l us) kk = V := ⟨_, rfl⟩
        rw [hz0, hV] at HMN
        rw [hz0] at hzb
        have CPT : Hid (∀ w', SK w' p F c l (cells c l us) → Calls Try.prog 19 #[.pointer (some p), .int .u64 kk] w' fun e w2 => e = .returned (.tuple #[.int .i64 V, .int .i64 0]) ∧ Below w'.heap.size w' w2) := Lib.hid (fun w' h => by
          have C := spoint_any p F c l (cells c l us) kk w' h kk0 (by omega)
          rw [pt_ok (by rw [HKK.out]; exact kk1), hV] at C
          exact C)
        obtain ⟨LO, hLO⟩ : ∃ LO, z0 - T = LO := ⟨_, rfl⟩
        obtain ⟨HI, hHI⟩ : ∃ HI, z0 + T = HI := ⟨_, rfl⟩
        obtain ⟨D2, hD2⟩ : ∃ D2, 2 * (C : Int) = D2 := ⟨_, rfl⟩
        have w1 : IntKind.i64.wrap (z0 - T) = LO := by rw [hLO]; exact IntWalk.i64_in _ ⟨by omega, by omega⟩
        have w2 : IntKind.i64.wrap (z0 + T) = HI := by rw [hHI]; exact IntWalk.i64_in _ ⟨by omega, by omega⟩
        have w3 : IntKind.i64.wrap (2 * (C : Int)) = D2 := by rw [hD2]; exact IntWalk.i64_in _ ⟨by omega, by omega⟩
        have w4 : wrap64 (z0 - T) = LO := by rw [hLO]; exact IntWalk.wrap64_in _ ⟨by omega, by omega⟩
        have w5 : wrap64 (z0 + T) = HI := by rw [hHI]; exact IntWalk.wrap64_in _ ⟨by omega, by omega⟩
        have w6 : wrap64 (2 * (C : Int)) = D2 := by rw [hD2]; exact IntWalk.wrap64_in _ ⟨by omega, by omega⟩
        rw [hD2, hLO, hHI] at HMN
        clear hz0 hrm hV hLO hHI hD2 hcn hta
        by_cases h2 : D2 ≤ c.rw
        · go_wp2_with (first
            | (go_at_call 19; (with_reducible refine (CPT.out _ (skI HVr.out.i1)).mono ?_); rintro e w6 ⟨rfl, hb⟩; have HV6 := Lib.hid (HVr.out.up hb); have HB6 := Lib.hid HV6.out.below; clear hb x0 x1 x2 x3 x4 x5 c0 e1 e2 e3 e4 e5; obtain ⟨x0, x1, x2, x3, x4, x5, c0⟩ := box7 HV6.out.i2; obtain ⟨e1, e2, e3, e4, e5⟩ := box5 HV6.out.i0)
            | (go_at_call 18; (with_reducible refine (CH.out kk _ (HQ.out.up HB6.out)).mono ?_); rintro e w7 ⟨rfl, hb⟩; rw [HZ0.out]; have HV7 := Lib.hid (HV6.out.up hb); clear hb x0 x1 x2 x3 x4 x5 c0 e1 e2 e3 e4 e5; obtain ⟨x0, x1, x2, x3, x4, x5, c0⟩ := box7 HV7.out.i2; obtain ⟨e1, e2, e3, e4, e5⟩ := box5 HV7.out.i0))
          go_ret
          exact ⟨ret_bs (by first | rfl | (simp [*]; done)), HV7.out.below⟩
        · obtain ⟨g1, g2⟩ := HMN.out (Int.not_le.mp h2)
          go_wp2_with (first
            | (go_at_call 19; (with_reducible refine (CPT.out _ (skI HVr.out.i1)).mono ?_); rintro e w6 ⟨rfl, hb⟩; have HV6 := Lib.hid (HVr.out.up hb); have HB6 := Lib.hid HV6.out.below; clear hb x0 x1 x2 x3 x4 x5 c0 e1 e2 e3 e4 e5; obtain ⟨x0, x1, x2, x3, x4, x5, c0⟩ := box7 HV6.out.i2; obtain ⟨e1, e2, e3, e4, e5⟩ := box5 HV6.out.i0)
            | (go_at_call 18; (with_reducible refine (CH.out kk _ (HQ.out.up HB6.out)).mono ?_); rintro e w7 ⟨rfl, hb⟩; rw [HZ0.out]; have HV7 := Lib.hid (HV6.out.up hb); clear hb x0 x1 x2 x3 x4 x5 c0 e1 e2 e3 e4 e5; obtain ⟨x0, x1, x2, x3, x4, x5, c0⟩ := box7 HV7.out.i2; obtain ⟨e1, e2, e3, e4, e5⟩ := box5 HV7.out.i0))
          go_ret
          exact ⟨ret_bs (by first | rfl | (simp [*]; done)), HV7.out.below⟩
  have hn0b : (0 : Int) < (n0 : Int) := by omega
  rcases (show Int.tmod R 2 = 0 ∨ Int.tmod R 2 = 1 by rw [Int.tmod_eq_emod_of_nonneg r2]; omega) with hev | hev
  · obtain ⟨q9, hq9⟩ : ∃ q, qs[0]? = some q := ⟨_, List.getElem?_eq_getElem (by rw [HL.out]; omega)⟩
    obtain ⟨a9, g9, o9, rfl, hadd9, d9w, -, kb9, -⟩ := HQ.out.at hq9
    obtain ⟨qk9, qd9⟩ := q9
    simp only at d9w kb9
    have had9 : a9 = ⟨g9, o9, none⟩ := by rw [← hadd9]; cases a9 with | mk b o s => cases s <;> simp [Addr.add]
    subst had9
    obtain ⟨s1, s2, s3⟩ := rem_key qk9 K kb9.1 kb9.2 hkeys
    obtain ⟨kk, hkk⟩ : ∃ kk, qk9 % K = kk := ⟨_, rfl⟩
    have kk1 : kk < K := by rw [← hkk]; exact Int.emod_lt_of_pos _ (by omega)
    rw [hkk] at s1 s2 s3
    have kk0 := s2
    clear hn0 hkk hq9 hadd9
    skip
    go_enter Try.func5, Try.ntmps5
    go_wp2_with (first
      | (go_at_call 16; (with_reducible refine (CK.out _).mono ?_); rintro e w3 ⟨rfl, hb⟩; have HV9 := (HV.out.up (by repeat' (first | (with_reducible exact Below.refl _ _) | (with_reducible assumption) | (with_reducible refine below_over ?_ _ _) | (with_reducible refine Lw.below_alloc ?_ _) | (with_reducible refine Below.drew ?_) | (with_reducible refine below_drewN ?_ _) | (with_reducible refine Below.setCell ?_ ?_ _) | go_size))).up hb; clear HV HBW x0 x1 x2 x3 x4 x5 c0 e1 e2 e3 e4 e5 hb; have HV := Lib.hid HV9; clear HV9; have HBW := Lib.hid HV.out.below; obtain ⟨x0, x1, x2, x3, x4, x5, c0⟩ := box7 HV.out.i2; obtain ⟨e1, e2, e3, e4, e5⟩ := box5 HV.out.i0)
      | (go_at_call 11; (with_reducible refine (D.out _ (HQ.out.up HBW1.out)).mono ?_); rintro e w2 ⟨p, F, rfl, hv⟩; have HV2 := HV1.out.join hv; simp only [List.cons_append, List.nil_append] at HV2; have HV := Lib.hid (HV2.push (boxT w2.heap.size 24 #[.int .i64 c.bt, .int .i64 c.rw, .int .i64 c.wd, .int .i64 c.md, .int .u64 c.sd]) (Lw.below_alloc (Below.refl _ _) _) (heap_alloc_new w2 _) (fun k hk => Nat.le_of_eq hk.symm)); have HBW := Lib.hid HV.out.below; clear hv HV2 x0 x1 x2 x3 x4 x5 c0; obtain ⟨x0, x1, x2, x3, x4, x5, c0⟩ := box7 HV.out.i2; obtain ⟨e1, e2, e3, e4, e5⟩ := box5 HV.out.i0)
      | (go_at_call 10; (with_reducible refine (shown_any _).mono ?_); rintro e w1 ⟨rfl, hb⟩; have HV1 := Lib.hid (HBX.out.up hb); have HBW1 := Lib.hid HV1.out.below; obtain ⟨x0, x1, x2, x3, x4, x5, c0⟩ := box7 HV1.out.i0; clear hb))
    obtain ⟨gc, hgc⟩ : ∃ gc, w2.heap.size = gc := ⟨_, rfl⟩
    rw [hgc] at HV e1 e2 e3 e4 e5 ⊢
    clear hgc
    have d9 := cell_up d9w HBW.out
    go_region_held3 (fun w' => w'.cell? ⟨w.heap.size, 6, none⟩ = some (.slice (some ⟨g9, o9, none⟩) n0 k0) ∧ w'.cell? ⟨gc, 0, none⟩ = some (.int .i64 c.bt) ∧ w'.cell? ⟨gc, 1, none⟩ = some (.int .i64 c.rw) ∧ w'.cell? ⟨gc, 2, none⟩ = some (.int .i64 c.wd) ∧ w'.cell? ⟨gc, 3, none⟩ = some (.int .i64 c.md) ∧ w'.cell? ⟨gc, 4, none⟩ = some (.int .u64 c.sd) ∧ w'.cell? ⟨g9, o9, none⟩ = some (.int .u64 qk9)) (first | (refine ⟨?_, ?_, ?_, ?_, ?_, ?_, ?_⟩ <;> (first | (with_reducible assumption) | (with_reducible refine cell_up c0 ?_) | (with_reducible refine cell_up e1 ?_) | (with_reducible refine cell_up e2 ?_) | (with_reducible refine cell_up e3 ?_) | (with_reducible refine cell_up e4 ?_) | (with_reducible refine cell_up e5 ?_) | (with_reducible refine cell_up d9 ?_)) <;> (repeat' (first | (with_reducible exact Below.refl _ _) | (with_reducible assumption) | (with_reducible refine below_over ?_ _ _) | (with_reducible refine Lw.below_alloc ?_ _) | (with_reducible refine Below.drew ?_) | (with_reducible refine below_drewN ?_ _) | (with_reducible refine Below.setCell ?_ ?_ _) | go_size)))) (first | (go_at_call 16; (with_reducible refine (CK.out _).mono ?_); rintro e w3 ⟨rfl, hb⟩; have HV9 := (HV.out.up (by repeat' (first | (with_reducible exact Below.refl _ _) | (with_reducible assumption) | (with_reducible refine below_over ?_ _ _) | (with_reducible refine Lw.below_alloc ?_ _) | (with_reducible refine Below.drew ?_) | (with_reducible refine below_drewN ?_ _) | (with_reducible refine Below.setCell ?_ ?_ _) | go_size))).up hb; clear HV HBW x0 x1 x2 x3 x4 x5 c0 e1 e2 e3 e4 e5 hb; have HV := Lib.hid HV9; clear HV9; have HBW := Lib.hid HV.out.below; obtain ⟨x0, x1, x2, x3, x4, x5, c0⟩ := box7 HV.out.i2; obtain ⟨e1, e2, e3, e4, e5⟩ := box5 HV.out.i0; clear d9; have d9 := cell_up d9w HBW.out))
    go_wp2_with (first
      | (go_at_call 16; (with_reducible refine (CK.out _).mono ?_); rintro e w3 ⟨rfl, hb⟩; have HV9 := (HV.out.up (by repeat' (first | (with_reducible exact Below.refl _ _) | (with_reducible assumption) | (with_reducible refine below_over ?_ _ _) | (with_reducible refine Lw.below_alloc ?_ _) | (with_reducible refine Below.drew ?_) | (with_reducible refine below_drewN ?_ _) | (with_reducible refine Below.setCell ?_ ?_ _) | go_size))).up hb; clear HV HBW x0 x1 x2 x3 x4 x5 c0 e1 e2 e3 e4 e5 hb; have HV := Lib.hid HV9; clear HV9; have HBW := Lib.hid HV.out.below; obtain ⟨x0, x1, x2, x3, x4, x5, c0⟩ := box7 HV.out.i2; obtain ⟨e1, e2, e3, e4, e5⟩ := box5 HV.out.i0)
      | (go_at_call 11; (with_reducible refine (D.out _ (HQ.out.up HBW1.out)).mono ?_); rintro e w2 ⟨p, F, rfl, hv⟩; have HV2 := HV1.out.join hv; simp only [List.cons_append, List.nil_append] at HV2; have HV := Lib.hid (HV2.push (boxT w2.heap.size 24 #[.int .i64 c.bt, .int .i64 c.rw, .int .i64 c.wd, .int .i64 c.md, .int .u64 c.sd]) (Lw.below_alloc (Below.refl _ _) _) (heap_alloc_new w2 _) (fun k hk => Nat.le_of_eq hk.symm)); have HBW := Lib.hid HV.out.below; clear hv HV2 x0 x1 x2 x3 x4 x5 c0; obtain ⟨x0, x1, x2, x3, x4, x5, c0⟩ := box7 HV.out.i2; obtain ⟨e1, e2, e3, e4, e5⟩ := box5 HV.out.i0)
      | (go_at_call 10; (with_reducible refine (shown_any _).mono ?_); rintro e w1 ⟨rfl, hb⟩; have HV1 := Lib.hid (HBX.out.up hb); have HBW1 := Lib.hid HV1.out.below; obtain ⟨x0, x1, x2, x3, x4, x5, c0⟩ := box7 HV1.out.i0; clear hb))
    clear d9
    obtain ⟨a9, ha9⟩ : ∃ a9, (⟨g9, o9, none⟩ : Addr) = a9 := ⟨_, rfl⟩
    rw [ha9] at HQ CO CO0 CH HV c0 ⊢
    clear ha9
    go_loopw [11, 12] (fun cv rv wr => ∃ (r C : Nat), r ≤ m ∧ rv = .int .i64 r ∧ cv = .int .i64 C ∧ C = Ord.near ((othR c l kk us).take r) NT T ∧ Have w wr [boxT gc 24 #[.int .i64 c.bt, .int .i64 c.rw, .int .i64 c.wd, .int .i64 c.md, .int .u64 c.sd], skT p F c l (cells c l us), boxT w.heap.size 27 #[.int .i64 x.bt, .int .i64 x.rw, .int .i64 x.wd, .int .i64 x.md, .int .u64 x.sd, .int .i64 lv, .slice (some a9) n0 k0]]) (fun _ rv _ => m - (intOf rv).toNat)
    case atStart => exact ⟨0, 0, Nat.zero_le _, rfl, rfl, rfl, HV.out⟩
    case round =>
      clear x0 x1 x2 x3 x4 x5 c0 e1 e2 e3 e4 e5
      obtain ⟨r, C, hr, rfl, rfl, hC, hv⟩ := hrel
      have HVr := Lib.hid hv
      have HCN := Lib.hid hC
      have HBr := Lib.hid hv.below
      have hCr : C ≤ r := by rw [hC]; exact Ord.near_len _ _ _ _
      clear hv hC
      obtain ⟨x0, x1, x2, x3, x4, x5, c0⟩ := box7 HVr.out.i2
      obtain ⟨e1, e2, e3, e4, e5⟩ := box5 HVr.out.i0
      by_cases hrm : r < m
      · have hrc : (r : Int) < c.rw := by rw [HRW.out]; omega
        obtain ⟨z, hz⟩ : ∃ z, othK c l kk r us = z := ⟨_, rfl⟩
        have HZ := Lib.hid hz
        have hnx := Ord.near_next (othR c l kk us) NT T r z (by rw [← hz]; exact othR_get (by rw [HM.out]; exact hrm))
        rw [← HCN.out] at hnx
        clear hz
        by_cases hz1 : NT ≤ z
        · by_cases hz2 : z ≤ T
          · rw [if_pos ⟨hz1, hz2⟩] at hnx
            have HNX := Lib.hid hnx
            clear hnx
            go_wp2_with (go_at_call 17; (with_reducible refine (CO.out kk r _ (HQ.out.up (by repeat' (first | (with_reducible exact Below.refl _ _) | (with_reducible exact HBr.out) | (with_reducible refine below_over ?_ _ _) | (with_reducible refine Lw.below_alloc ?_ _) | (with_reducible refine Below.drew ?_) | (with_reducible refine below_drewN ?_ _) | (with_reducible refine Below.setCell ?_ ?_ _) | go_size))) kk0 kk1 hrm).mono ?_); rintro e w5 ⟨rfl, hb⟩; rw [HZ.out]; have HV5 := Lib.hid (HVr.out.up hb); clear hb)
            go_roundw
            case rel => exact ⟨r + 1, _, by omega, by go_num, by go_num, HNX.out.symm, HV5.out⟩
            case measure => simp [intOf]; omega
          · rw [if_neg (fun h => hz2 h.2)] at hnx
            have HNX := Lib.hid hnx
            clear hnx
            go_wp2_with (go_at_call 17; (with_reducible refine (CO.out kk r _ (HQ.out.up (by repeat' (first | (with_reducible exact Below.refl _ _) | (with_reducible exact HBr.out) | (with_reducible refine below_over ?_ _ _) | (with_reducible refine Lw.below_alloc ?_ _) | (with_reducible refine Below.drew ?_) | (with_reducible refine below_drewN ?_ _) | (with_reducible refine Below.setCell ?_ ?_ _) | go_size))) kk0 kk1 hrm).mono ?_); rintro e w5 ⟨rfl, hb⟩; rw [HZ.out]; have HV5 := Lib.hid (HVr.out.up hb); clear hb)
            go_roundw
            case rel => exact ⟨r + 1, _, by omega, by go_num, by go_num, HNX.out.symm, HV5.out⟩
            case measure => simp [intOf]; omega
        · rw [if_neg (fun h => hz1 h.1)] at hnx
          have HNX := Lib.hid hnx
          clear hnx
          go_wp2_with (go_at_call 17; (with_reducible refine (CO.out kk r _ (HQ.out.up (by repeat' (first | (with_reducible exact Below.refl _ _) | (with_reducible exact HBr.out) | (with_reducible refine below_over ?_ _ _) | (with_reducible refine Lw.below_alloc ?_ _) | (with_reducible refine Below.drew ?_) | (with_reducible refine below_drewN ?_ _) | (with_reducible refine Below.setCell ?_ ?_ _) | go_size))) kk0 kk1 hrm).mono ?_); rintro e w5 ⟨rfl, hb⟩; rw [HZ.out]; have HV5 := Lib.hid (HVr.out.up hb); clear hb)
          go_roundw
          case rel => exact ⟨r + 1, _, by omega, by go_num, by go_num, HNX.out.symm, HV5.out⟩
          case measure => simp [intOf]; omega
      · have e : r = m := by omega
        subst e
        have hrc : ¬ (r : Int) < c.rw := by rw [HRW.out]; omega
        have hta : (othR c l kk us).take r = othR c l kk us := List.take_of_length_le (by rw [othR_len, HM.out]; exact Nat.le_refl _)
        have hcn := HCN.out
        rw [hta] at hcn
        have HMN : Hid (c.rw < 2 * (C : Int) → hasK kk us - T ≤ ptVal c l (cells c l us) kk ∧ ptVal c l (cells c l us) kk ≤ hasK kk us + T) := Lib.hid (fun h => HNEAR.out kk T kk0 kk1 (by rw [HNT.out, ← hcn, HM.out, ← HRW.out]; exact h))
        obtain ⟨z0, hz0⟩ : ∃ z0, hasK kk us = z0 := ⟨_, rfl⟩
        have HZ0 := Lib.hid hz0
        have hzb := HHB.out kk
        obtain ⟨V, hV⟩ : ∃ V, ptVal c l (cells c l us) kk = V := ⟨_, rfl⟩
        rw [hz0, hV] at HMN
        rw [hz0] at hzb
        have CPT : Hid (∀ w', SK w' p F c l (cells c l us) → Calls Try.prog 19 #[.pointer (some p), .int .u64 kk] w' fun e w2 => e = .returned (.tuple #[.int .i64 V, .int .i64 0]) ∧ Below w'.heap.size w' w2) := Lib.hid (fun w' h => by
          have C := spoint_any p F c l (cells c l us) kk w' h kk0 (by omega)
          rw [pt_ok (by rw [HKK.out]; exact kk1), hV] at C
          exact C)
        obtain ⟨LO, hLO⟩ : ∃ LO, z0 - T = LO := ⟨_, rfl⟩
        obtain ⟨HI, hHI⟩ : ∃ HI, z0 + T = HI := ⟨_, rfl⟩
        obtain ⟨D2, hD2⟩ : ∃ D2, 2 * (C : Int) = D2 := ⟨_, rfl⟩
        have w1 : IntKind.i64.wrap (z0 - T) = LO := by rw [hLO]; exact IntWalk.i64_in _ ⟨by omega, by omega⟩
        have w2 : IntKind.i64.wrap (z0 + T) = HI := by rw [hHI]; exact IntWalk.i64_in _ ⟨by omega, by omega⟩
        have w3 : IntKind.i64.wrap (2 * (C : Int)) = D2 := by rw [hD2]; exact IntWalk.i64_in _ ⟨by omega, by omega⟩
        have w4 : wrap64 (z0 - T) = LO := by rw [hLO]; exact IntWalk.wrap64_in _ ⟨by omega, by omega⟩
        have w5 : wrap64 (z0 + T) = HI := by rw [hHI]; exact IntWalk.wrap64_in _ ⟨by omega, by omega⟩
        have w6 : wrap64 (2 * (C : Int)) = D2 := by rw [hD2]; exact IntWalk.wrap64_in _ ⟨by omega, by omega⟩
        rw [hD2, hLO, hHI] at HMN
        clear hz0 hrm hV hLO hHI hD2 hcn hta
        by_cases h2 : D2 ≤ c.rw
        · go_wp2_with (first
            | (go_at_call 19; (with_reducible refine (CPT.out _ (skI HVr.out.i1)).mono ?_); rintro e w6 ⟨rfl, hb⟩; have HV6 := Lib.hid (HVr.out.up hb); have HB6 := Lib.hid HV6.out.below; clear hb x0 x1 x2 x3 x4 x5 c0 e1 e2 e3 e4 e5; obtain ⟨x0, x1, x2, x3, x4, x5, c0⟩ := box7 HV6.out.i2; obtain ⟨e1, e2, e3, e4, e5⟩ := box5 HV6.out.i0)
            | (go_at_call 18; (with_reducible refine (CH.out kk _ (HQ.out.up HB6.out)).mono ?_); rintro e w7 ⟨rfl, hb⟩; rw [HZ0.out]; have HV7 := Lib.hid (HV6.out.up hb); clear hb x0 x1 x2 x3 x4 x5 c0 e1 e2 e3 e4 e5; obtain ⟨x0, x1, x2, x3, x4, x5, c0⟩ := box7 HV7.out.i2; obtain ⟨e1, e2, e3, e4, e5⟩ := box5 HV7.out.i0))
          go_ret
          exact ⟨ret_bs (by first | rfl | (simp [*]; done)), HV7.out.below⟩
        · obtain ⟨g1, g2⟩ := HMN.out (Int.not_le.mp h2)
          go_wp2_with (first
            | (go_at_call 19; (with_reducible refine (CPT.out _ (skI HVr.out.i1)).mono ?_); rintro e w6 ⟨rfl, hb⟩; have HV6 := Lib.hid (HVr.out.up hb); have HB6 := Lib.hid HV6.out.below; clear hb x0 x1 x2 x3 x4 x5 c0 e1 e2 e3 e4 e5; obtain ⟨x0, x1, x2, x3, x4, x5, c0⟩ := box7 HV6.out.i2; obtain ⟨e1, e2, e3, e4, e5⟩ := box5 HV6.out.i0)
            | (go_at_call 18; (with_reducible refine (CH.out kk _ (HQ.out.up HB6.out)).mono ?_); rintro e w7 ⟨rfl, hb⟩; rw [HZ0.out]; have HV7 := Lib.hid (HV6.out.up hb); clear hb x0 x1 x2 x3 x4 x5 c0 e1 e2 e3 e4 e5; obtain ⟨x0, x1, x2, x3, x4, x5, c0⟩ := box7 HV7.out.i2; obtain ⟨e1, e2, e3, e4, e5⟩ := box5 HV7.out.i0))
          go_ret
          exact ⟨ret_bs (by first | rfl | (simp [*]; done)), HV7.out.below⟩
  · obtain ⟨q9, hq9⟩ : ∃ q, qs[0]? = some q := ⟨_, List.getElem?_eq_getElem (by rw [HL.out]; omega)⟩
    obtain ⟨a9, -, -, rfl, -⟩ := HQ.out.at hq9
    skip
    clear hn0 hq9
    go_enter Try.func5, Try.ntmps5
    obtain ⟨kk, hkk⟩ : ∃ kk, R = kk := ⟨_, rfl⟩
    rw [hkk] at r1 r2 hRK hev
    have kk0 := r2
    have kk1 := hRK
    go_wp2_with (first
      | (go_at_call 16; (with_reducible refine (CK.out _).mono ?_); rintro e w3 ⟨rfl, hb⟩; have HV9 := (HV.out.up (by repeat' (first | (with_reducible exact Below.refl _ _) | (with_reducible assumption) | (with_reducible refine below_over ?_ _ _) | (with_reducible refine Lw.below_alloc ?_ _) | (with_reducible refine Below.drew ?_) | (with_reducible refine below_drewN ?_ _) | (with_reducible refine Below.setCell ?_ ?_ _) | go_size))).up hb; clear HV HBW x0 x1 x2 x3 x4 x5 c0 e1 e2 e3 e4 e5 hb; have HV := Lib.hid HV9; clear HV9; have HBW := Lib.hid HV.out.below; obtain ⟨x0, x1, x2, x3, x4, x5, c0⟩ := box7 HV.out.i2; obtain ⟨e1, e2, e3, e4, e5⟩ := box5 HV.out.i0)
      | (go_at_call 11; (with_reducible refine (D.out _ (HQ.out.up HBW1.out)).mono ?_); rintro e w2 ⟨p, F, rfl, hv⟩; have HV2 := HV1.out.join hv; simp only [List.cons_append, List.nil_append] at HV2; have HV := Lib.hid (HV2.push (boxT w2.heap.size 24 #[.int .i64 c.bt, .int .i64 c.rw, .int .i64 c.wd, .int .i64 c.md, .int .u64 c.sd]) (Lw.below_alloc (Below.refl _ _) _) (heap_alloc_new w2 _) (fun k hk => Nat.le_of_eq hk.symm)); have HBW := Lib.hid HV.out.below; clear hv HV2 x0 x1 x2 x3 x4 x5 c0; obtain ⟨x0, x1, x2, x3, x4, x5, c0⟩ := box7 HV.out.i2; obtain ⟨e1, e2, e3, e4, e5⟩ := box5 HV.out.i0)
      | (go_at_call 10; (with_reducible refine (shown_any _).mono ?_); rintro e w1 ⟨rfl, hb⟩; have HV1 := Lib.hid (HBX.out.up hb); have HBW1 := Lib.hid HV1.out.below; obtain ⟨x0, x1, x2, x3, x4, x5, c0⟩ := box7 HV1.out.i0; clear hb))
    obtain ⟨gc, hgc⟩ : ∃ gc, w2.heap.size = gc := ⟨_, rfl⟩
    rw [hgc] at HV e1 e2 e3 e4 e5 ⊢
    clear hgc
    go_loopw [11, 12] (fun cv rv wr => ∃ (r C : Nat), r ≤ m ∧ rv = .int .i64 r ∧ cv = .int .i64 C ∧ C = Ord.near ((othR c l kk us).take r) NT T ∧ Have w wr [boxT gc 24 #[.int .i64 c.bt, .int .i64 c.rw, .int .i64 c.wd, .int .i64 c.md, .int .u64 c.sd], skT p F c l (cells c l us), boxT w.heap.size 27 #[.int .i64 x.bt, .int .i64 x.rw, .int .i64 x.wd, .int .i64 x.md, .int .u64 x.sd, .int .i64 lv, .slice (some a9) n0 k0]]) (fun _ rv _ => m - (intOf rv).toNat)
    case atStart => exact ⟨0, 0, Nat.zero_le _, rfl, rfl, rfl, HV.out⟩
    case round =>
      clear x0 x1 x2 x3 x4 x5 c0 e1 e2 e3 e4 e5
      obtain ⟨r, C, hr, rfl, rfl, hC, hv⟩ := hrel
      have HVr := Lib.hid hv
      have HCN := Lib.hid hC
      have HBr := Lib.hid hv.below
      have hCr : C ≤ r := by rw [hC]; exact Ord.near_len _ _ _ _
      clear hv hC
      obtain ⟨x0, x1, x2, x3, x4, x5, c0⟩ := box7 HVr.out.i2
      obtain ⟨e1, e2, e3, e4, e5⟩ := box5 HVr.out.i0
      by_cases hrm : r < m
      · have hrc : (r : Int) < c.rw := by rw [HRW.out]; omega
        obtain ⟨z, hz⟩ : ∃ z, othK c l kk r us = z := ⟨_, rfl⟩
        have HZ := Lib.hid hz
        have hnx := Ord.near_next (othR c l kk us) NT T r z (by rw [← hz]; exact othR_get (by rw [HM.out]; exact hrm))
        rw [← HCN.out] at hnx
        clear hz
        by_cases hz1 : NT ≤ z
        · by_cases hz2 : z ≤ T
          · rw [if_pos ⟨hz1, hz2⟩] at hnx
            have HNX := Lib.hid hnx
            clear hnx
            go_wp2_with (go_at_call 17; (with_reducible refine (CO.out kk r _ (HQ.out.up (by repeat' (first | (with_reducible exact Below.refl _ _) | (with_reducible exact HBr.out) | (with_reducible refine below_over ?_ _ _) | (with_reducible refine Lw.below_alloc ?_ _) | (with_reducible refine Below.drew ?_) | (with_reducible refine below_drewN ?_ _) | (with_reducible refine Below.setCell ?_ ?_ _) | go_size))) kk0 kk1 hrm).mono ?_); rintro e w5 ⟨rfl, hb⟩; rw [HZ.out]; have HV5 := Lib.hid (HVr.out.up hb); clear hb)
            go_roundw
            case rel => exact ⟨r + 1, _, by omega, by go_num, by go_num, HNX.out.symm, HV5.out⟩
            case measure => simp [intOf]; omega
          · rw [if_neg (fun h => hz2 h.2)] at hnx
            have HNX := Lib.hid hnx
            clear hnx
            go_wp2_with (go_at_call 17; (with_reducible refine (CO.out kk r _ (HQ.out.up (by repeat' (first | (with_reducible exact Below.refl _ _) | (with_reducible exact HBr.out) | (with_reducible refine below_over ?_ _ _) | (with_reducible refine Lw.below_alloc ?_ _) | (with_reducible refine Below.drew ?_) | (with_reducible refine below_drewN ?_ _) | (with_reducible refine Below.setCell ?_ ?_ _) | go_size))) kk0 kk1 hrm).mono ?_); rintro e w5 ⟨rfl, hb⟩; rw [HZ.out]; have HV5 := Lib.hid (HVr.out.up hb); clear hb)
            go_roundw
            case rel => exact ⟨r + 1, _, by omega, by go_num, by go_num, HNX.out.symm, HV5.out⟩
            case measure => simp [intOf]; omega
        · rw [if_neg (fun h => hz1 h.1)] at hnx
          have HNX := Lib.hid hnx
          clear hnx
          go_wp2_with (go_at_call 17; (with_reducible refine (CO.out kk r _ (HQ.out.up (by repeat' (first | (with_reducible exact Below.refl _ _) | (with_reducible exact HBr.out) | (with_reducible refine below_over ?_ _ _) | (with_reducible refine Lw.below_alloc ?_ _) | (with_reducible refine Below.drew ?_) | (with_reducible refine below_drewN ?_ _) | (with_reducible refine Below.setCell ?_ ?_ _) | go_size))) kk0 kk1 hrm).mono ?_); rintro e w5 ⟨rfl, hb⟩; rw [HZ.out]; have HV5 := Lib.hid (HVr.out.up hb); clear hb)
          go_roundw
          case rel => exact ⟨r + 1, _, by omega, by go_num, by go_num, HNX.out.symm, HV5.out⟩
          case measure => simp [intOf]; omega
      · have e : r = m := by omega
        subst e
        have hrc : ¬ (r : Int) < c.rw := by rw [HRW.out]; omega
        have hta : (othR c l kk us).take r = othR c l kk us := List.take_of_length_le (by rw [othR_len, HM.out]; exact Nat.le_refl _)
        have hcn := HCN.out
        rw [hta] at hcn
        have HMN : Hid (c.rw < 2 * (C : Int) → hasK kk us - T ≤ ptVal c l (cells c l us) kk ∧ ptVal c l (cells c l us) kk ≤ hasK kk us + T) := Lib.hid (fun h => HNEAR.out kk T kk0 kk1 (by rw [HNT.out, ← hcn, HM.out, ← HRW.out]; exact h))
        obtain ⟨z0, hz0⟩ : ∃ z0, hasK kk us = z0 := ⟨_, rfl⟩
        have HZ0 := Lib.hid hz0
        have hzb := HHB.out kk
        obtain ⟨V, hV⟩ : ∃ V, ptVal c l (cells c l us) kk = V := ⟨_, rfl⟩
        rw [hz0, hV] at HMN
        rw [hz0] at hzb
        have CPT : Hid (∀ w', SK w' p F c l (cells c l us) → Calls Try.prog 19 #[.pointer (some p), .int .u64 kk] w' fun e w2 => e = .returned (.tuple #[.int .i64 V, .int .i64 0]) ∧ Below w'.heap.size w' w2) := Lib.hid (fun w' h => by
          have C := spoint_any p F c l (cells c l us) kk w' h kk0 (by omega)
          rw [pt_ok (by rw [HKK.out]; exact kk1), hV] at C
          exact C)
        obtain ⟨LO, hLO⟩ : ∃ LO, z0 - T = LO := ⟨_, rfl⟩
        obtain ⟨HI, hHI⟩ : ∃ HI, z0 + T = HI := ⟨_, rfl⟩
        obtain ⟨D2, hD2⟩ : ∃ D2, 2 * (C : Int) = D2 := ⟨_, rfl⟩
        have w1 : IntKind.i64.wrap (z0 - T) = LO := by rw [hLO]; exact IntWalk.i64_in _ ⟨by omega, by omega⟩
        have w2 : IntKind.i64.wrap (z0 + T) = HI := by rw [hHI]; exact IntWalk.i64_in _ ⟨by omega, by omega⟩
        have w3 : IntKind.i64.wrap (2 * (C : Int)) = D2 := by rw [hD2]; exact IntWalk.i64_in _ ⟨by omega, by omega⟩
        have w4 : wrap64 (z0 - T) = LO := by rw [hLO]; exact IntWalk.wrap64_in _ ⟨by omega, by omega⟩
        have w5 : wrap64 (z0 + T) = HI := by rw [hHI]; exact IntWalk.wrap64_in _ ⟨by omega, by omega⟩
        have w6 : wrap64 (2 * (C : Int)) = D2 := by rw [hD2]; exact IntWalk.wrap64_in _ ⟨by omega, by omega⟩
        rw [hD2, hLO, hHI] at HMN
        clear hz0 hrm hV hLO hHI hD2 hcn hta
        by_cases h2 : D2 ≤ c.rw
        · go_wp2_with (first
            | (go_at_call 19; (with_reducible refine (CPT.out _ (skI HVr.out.i1)).mono ?_); rintro e w6 ⟨rfl, hb⟩; have HV6 := Lib.hid (HVr.out.up hb); have HB6 := Lib.hid HV6.out.below; clear hb x0 x1 x2 x3 x4 x5 c0 e1 e2 e3 e4 e5; obtain ⟨x0, x1, x2, x3, x4, x5, c0⟩ := box7 HV6.out.i2; obtain ⟨e1, e2, e3, e4, e5⟩ := box5 HV6.out.i0)
            | (go_at_call 18; (with_reducible refine (CH.out kk _ (HQ.out.up HB6.out)).mono ?_); rintro e w7 ⟨rfl, hb⟩; rw [HZ0.out]; have HV7 := Lib.hid (HV6.out.up hb); clear hb x0 x1 x2 x3 x4 x5 c0 e1 e2 e3 e4 e5; obtain ⟨x0, x1, x2, x3, x4, x5, c0⟩ := box7 HV7.out.i2; obtain ⟨e1, e2, e3, e4, e5⟩ := box5 HV7.out.i0))
          go_ret
          exact ⟨ret_bs (by first | rfl | (simp [*]; done)), HV7.out.below⟩
        · obtain ⟨g1, g2⟩ := HMN.out (Int.not_le.mp h2)
          go_wp2_with (first
            | (go_at_call 19; (with_reducible refine (CPT.out _ (skI HVr.out.i1)).mono ?_); rintro e w6 ⟨rfl, hb⟩; have HV6 := Lib.hid (HVr.out.up hb); have HB6 := Lib.hid HV6.out.below; clear hb x0 x1 x2 x3 x4 x5 c0 e1 e2 e3 e4 e5; obtain ⟨x0, x1, x2, x3, x4, x5, c0⟩ := box7 HV6.out.i2; obtain ⟨e1, e2, e3, e4, e5⟩ := box5 HV6.out.i0)
            | (go_at_call 18; (with_reducible refine (CH.out kk _ (HQ.out.up HB6.out)).mono ?_); rintro e w7 ⟨rfl, hb⟩; rw [HZ0.out]; have HV7 := Lib.hid (HV6.out.up hb); clear hb x0 x1 x2 x3 x4 x5 c0 e1 e2 e3 e4 e5; obtain ⟨x0, x1, x2, x3, x4, x5, c0⟩ := box7 HV7.out.i2; obtain ⟨e1, e2, e3, e4, e5⟩ := box5 HV7.out.i0))
          go_ret
          exact ⟨ret_bs (by first | rfl | (simp [*]; done)), HV7.out.below⟩
set_option maxRecDepth 100000 in
set_option maxHeartbeats 8000000 in
theorem median_pos (x : Cfg) (lv : Int) (A : Option Addr) (n0 k0 : Nat) (qs : Ups) (key far : Int) (w : World) (hx : x.Ok) (hlv : -9223372036854775808 ≤ lv ∧ lv ≤ 9223372036854775807) (hq : UpdV w A n0 k0 qs) (key0 : 0 ≤ key) (key1 : key ≤ 18446744073709551615) (t T NT N1 : Int) (ht : Int.tmod far 1099511627776 = t) (hlt : ¬ t < N1) (hT : T = t) (hT0 : 0 ≤ T) (hT1 : T < 1099511627776) (hNT : NT = -T) (hN1 : -t = N1) :
    Calls Try.prog 5 #[.agg #[.int .i64 x.bt, .int .i64 x.rw, .int .i64 x.wd, .int .i64 x.md, .int .u64 x.sd, .int .i64 lv, .slice A n0 k0], .int .u64 key, .int .i64 far] w fun e w' => e = .returned (.bool true) ∧ Below w.heap.size w w' := by
  obtain ⟨c, hC⟩ : ∃ c, cfgP x 3 = c := ⟨_, rfl⟩
  obtain ⟨l, hl⟩ : ∃ l, lv % 65536 % (c.bt + 1) = l := ⟨_, rfl⟩
  have hr := cfgP_right x 3 (by omega) (by omega)
  have hco := cfgP_ok x hx 3 (by omega) (by omega)
  have hmd : c.md = 3 := by rw [← hC]; rfl
  rw [hC] at hr hco
  have hlb : 0 ≤ l ∧ l ≤ c.bt := by
    have h1 := hr.1.1
    have h2 := Int.emod_nonneg (lv % 65536) (show c.bt + 1 ≠ 0 by omega)
    have h3 := Int.emod_lt_of_pos (lv % 65536) (show 0 < c.bt + 1 by omega)
    omega
  have hbt8 := hr.2
  have hkeys : 1 ≤ keys c l := keys_pos.2 ⟨hr.1, hlb.1, hlb.2⟩
  have hkb := keys_bd c l
  obtain ⟨m, hm⟩ : ∃ m, rws c = m := ⟨_, rfl⟩
  have hm8 : 1 ≤ m ∧ m ≤ 8 := by have := rws_bd hr.1; rw [hm] at this; exact ⟨this.1, this.2.1⟩
  have HRW : Hid (c.rw = (m : Int)) := Lib.hid (by have := rws_bd hr.1; rw [hm] at this; exact this.2.2.symm)
  have HQ := Lib.hid hq
  have HL := Lib.hid hq.len
  have hnc := hq.nc
  have hcm := hq.cm
  unfold maxLen at hcm
  have D := Lib.hid (fun w hq => fed_any x lv A n0 k0 qs 3 0 60 0 60 c l w hx hlv hq (by omega) (by omega) rfl rfl (by omega) (by omega) hC hl)
  rw [← upsA_R] at D
  have CO := Lib.hid (fun kk r w hq h0 h1 (h2 : r < m) => others_any x lv A n0 k0 qs c l kk r m w hq hco (by omega) (by omega) h0 h1 hm h2)
  have CO0 := Lib.hid (fun kk w hq h0 h1 => others0 x lv A n0 k0 qs c l kk m w hq hco (by omega) (by omega) h0 h1 hm (by omega))
  have CH := Lib.hid (fun kk w hq => has_any x lv A n0 k0 qs c l kk w hq hco (by omega) (by omega) hkeys)
  have CCU := Lib.hid (fun w k d h0 h1 h2 h3 => cut_any c l k d w hco (by omega) (by omega) h0 h1 h2 h3 hkeys)
  have CK := Lib.hid (fun w => rkeys_any c l w hco (by omega) (by omega))
  have hlen : (upsA c l qs).length ≤ 60 := by rw [upsA_R]; exact upsR_len _ _ _ _ _
  have hin := upsR_in hkeys qs 0 60
  rw [← upsA_R] at hin
  have HOB : Hid (∀ kk r, -65970697666560 ≤ othK c l kk r (upsA c l qs) ∧ othK c l kk r (upsA c l qs) ≤ 65970697666560) := Lib.hid (fun kk r => by
    have h := othK_bd (c := c) (l := l) (k := kk) (r := r) (b := 1099511627776) (by omega) (us := upsA c l qs) (fun u hu => (hin.1 u hu).2.2)
    omega)
  have HHB : Hid (∀ kk, -65970697666560 ≤ hasK kk (upsA c l qs) ∧ hasK kk (upsA c l qs) ≤ 65970697666560) := Lib.hid (fun kk => by
    have h := hasK_bd (k := kk) (b := 1099511627776) (by omega) (us := upsA c l qs) (fun u hu => (hin.1 u hu).2.2)
    omega)
  have HNEAR : Hid (∀ kk far, 0 ≤ kk → kk < keys c l → (rws c : Int) < 2 * (Ord.near (othR c l kk (upsA c l qs)) (-far) far : Int) → hasK kk (upsA c l qs) - far ≤ ptVal c l (cells c l (upsA c l qs)) kk ∧ ptVal c l (cells c l (upsA c l qs)) kk ≤ hasK kk (upsA c l qs) + far) := Lib.hid (fun kk far h0 h1 h2 => median_near hr.1 hin.1 h0 h1 hmd h2)
  have HM := Lib.hid hm
  have HMD := Lib.hid hmd
  have HKY := Lib.hid hkeys
  obtain ⟨us, hus⟩ : ∃ us, upsA c l qs = us := ⟨_, rfl⟩
  rw [hus] at D CO CO0 CH HHB HNEAR hlen
  obtain ⟨K, hKK⟩ : ∃ K, keys c l = K := ⟨_, rfl⟩
  rw [hKK] at CK CO HNEAR hkeys hkb
  have HKK := Lib.hid hKK
  obtain ⟨r1, r2, r3⟩ := rem_key key K key0 key1 hkeys
  obtain ⟨R, hR⟩ : ∃ R, key % K = R := ⟨_, rfl⟩
  have hRK : R < K := by rw [← hR]; exact Int.emod_lt_of_pos _ (by omega)
  rw [hR] at r1 r2 r3
  have hKn : ¬ K = 0 := by omega
  have HBX : Hid (Have w (w.alloc (.cells #[.int .i64 x.bt, .int .i64 x.rw, .int .i64 x.wd, .int .i64 x.md, .int .u64 x.sd, .int .i64 lv, .slice A n0 k0] 27)) [boxT w.heap.size 27 #[.int .i64 x.bt, .int .i64 x.rw, .int .i64 x.wd, .int .i64 x.md, .int .u64 x.sd, .int .i64 lv, .slice A n0 k0]]) := Lib.hid (box_new w _ _)
  have HNT : Hid (-T = NT) := Lib.hid hNT.symm
  have u1 : IntKind.i64.wrap (-t) = N1 := by rw [hN1]; exact IntWalk.i64_in _ ⟨by omega, by omega⟩
  have u2 : wrap64 (-t) = N1 := by rw [hN1]; exact IntWalk.wrap64_in _ ⟨by omega, by omega⟩
  have u3 : IntKind.i64.wrap (-T) = NT := by rw [← hNT]; exact IntWalk.i64_in _ ⟨by omega, by omega⟩
  have u4 : wrap64 (-T) = NT := by rw [← hNT]; exact IntWalk.wrap64_in _ ⟨by omega, by omega⟩
  subst hT
  clear hC hl hr hco hmd hq hx hm hus hKK hR hin hNT hN1
  by_cases hn0 : n0 = 0
  · have hn0b : ¬ (0 : Int) < (n0 : Int) := by omega
    skip
    clear hn0
    go_enter Try.func5, Try.ntmps5
    obtain ⟨kk, hkk⟩ : ∃ kk, R = kk := ⟨_, rfl⟩
    rw [hkk] at r1 r2 hRK
    have kk0 := r2
    have kk1 := hRK
    go_wp2_with (first
      | (go_at_call 16; (with_reducible refine (CK.out _).mono ?_); rintro e w3 ⟨rfl, hb⟩; have HV9 := (HV.out.up (by repeat' (first | (with_reducible exact Below.refl _ _) | (with_reducible assumption) | (with_reducible refine below_over ?_ _ _) | (with_reducible refine Lw.below_alloc ?_ _) | (with_reducible refine Below.drew ?_) | (with_reducible refine below_drewN ?_ _) | (with_reducible refine Below.setCell ?_ ?_ _) | go_size))).up hb; clear HV HBW x0 x1 x2 x3 x4 x5 c0 e1 e2 e3 e4 e5 hb; have HV := Lib.hid HV9; clear HV9; have HBW := Lib.hid HV.out.below; obtain ⟨x0, x1, x2, x3, x4, x5, c0⟩ := box7 HV.out.i2; obtain ⟨e1, e2, e3, e4, e5⟩ := box5 HV.out.i0)
      | (go_at_call 11; (with_reducible refine (D.out _ (HQ.out.up HBW1.out)).mono ?_); rintro e w2 ⟨p, F, rfl, hv⟩; have HV2 := HV1.out.join hv; simp only [List.cons_append, List.nil_append] at HV2; have HV := Lib.hid (HV2.push (boxT w2.heap.size 24 #[.int .i64 c.bt, .int .i64 c.rw, .int .i64 c.wd, .int .i64 c.md, .int .u64 c.sd]) (Lw.below_alloc (Below.refl _ _) _) (heap_alloc_new w2 _) (fun k hk => Nat.le_of_eq hk.symm)); have HBW := Lib.hid HV.out.below; clear hv HV2 x0 x1 x2 x3 x4 x5 c0; obtain ⟨x0, x1, x2, x3, x4, x5, c0⟩ := box7 HV.out.i2; obtain ⟨e1, e2, e3, e4, e5⟩ := box5 HV.out.i0)
      | (go_at_call 10; (with_reducible refine (shown_any _).mono ?_); rintro e w1 ⟨rfl, hb⟩; have HV1 := Lib.hid (HBX.out.up hb); have HBW1 := Lib.hid HV1.out.below; obtain ⟨x0, x1, x2, x3, x4, x5, c0⟩ := box7 HV1.out.i0; clear hb))
    obtain ⟨gc, hgc⟩ : ∃ gc, w2.heap.size = gc := ⟨_, rfl⟩
    rw [hgc] at HV e1 e2 e3 e4 e5 ⊢
    clear hgc
    go_loopw [11, 12] (fun cv rv wr => ∃ (r C : Nat), r ≤ m ∧ rv = .int .i64 r ∧ cv = .int .i64 C ∧ C = Ord.near ((othR c l kk us).take r) NT T ∧ Have w wr [boxT gc 24 #[.int .i64 c.bt, .int .i64 c.rw, .int .i64 c.wd, .int .i64 c.md, .int .u64 c.sd], skT p F c l (cells c l us), boxT w.heap.size 27 #[.int .i64 x.bt, .int .i64 x.rw, .int .i64 x.wd, .int .i64 x.md, .int .u64 x.sd, .int .i64 lv, .slice A n0 k0]]) (fun _ rv _ => m - (intOf rv).toNat)
    case atStart => exact ⟨0, 0, Nat.zero_le _, rfl, rfl, rfl, HV.out⟩
    case round =>
      clear x0 x1 x2 x3 x4 x5 c0 e1 e2 e3 e4 e5
      obtain ⟨r, C, hr, rfl, rfl, hC, hv⟩ := hrel
      have HVr := Lib.hid hv
      have HCN := Lib.hid hC
      have HBr := Lib.hid hv.below
      have hCr : C ≤ r := by rw [hC]; exact Ord.near_len _ _ _ _
      clear hv hC
      obtain ⟨x0, x1, x2, x3, x4, x5, c0⟩ := box7 HVr.out.i2
      obtain ⟨e1, e2, e3, e4, e5⟩ := box5 HVr.out.i0
      by_cases hrm : r < m
      · have hrc : (r : Int) < c.rw := by rw [HRW.out]; omega
        obtain ⟨z, hz⟩ : ∃ z, othK c l kk r us = z := ⟨_, rfl⟩
        have HZ := Lib.hid hz
        have hnx := Ord.near_next (othR c l kk us) NT T r z (by rw [← hz]; exact othR_get (by rw [HM.out]; exact hrm))
        rw [← HCN.out] at hnx
        clear hz
        by_cases hz1 : NT ≤ z
        · by_cases hz2 : z ≤ T
          · rw [if_pos ⟨hz1, hz2⟩] at hnx
            have HNX := Lib.hid hnx
            clear hnx
            go_wp2_with (go_at_call 17; (with_reducible refine (CO.out kk r _ (HQ.out.up (by repeat' (first | (with_reducible exact Below.refl _ _) | (with_reducible exact HBr.out) | (with_reducible refine below_over ?_ _ _) | (with_reducible refine Lw.below_alloc ?_ _) | (with_reducible refine Below.drew ?_) | (with_reducible refine below_drewN ?_ _) | (with_reducible refine Below.setCell ?_ ?_ _) | go_size))) kk0 kk1 hrm).mono ?_); rintro e w5 ⟨rfl, hb⟩; rw [HZ.out]; have HV5 := Lib.hid (HVr.out.up hb); clear hb)
            go_roundw
            case rel => exact ⟨r + 1, _, by omega, by go_num, by go_num, HNX.out.symm, HV5.out⟩
            case measure => simp [intOf]; omega
          · rw [if_neg (fun h => hz2 h.2)] at hnx
            have HNX := Lib.hid hnx
            clear hnx
            go_wp2_with (go_at_call 17; (with_reducible refine (CO.out kk r _ (HQ.out.up (by repeat' (first | (with_reducible exact Below.refl _ _) | (with_reducible exact HBr.out) | (with_reducible refine below_over ?_ _ _) | (with_reducible refine Lw.below_alloc ?_ _) | (with_reducible refine Below.drew ?_) | (with_reducible refine below_drewN ?_ _) | (with_reducible refine Below.setCell ?_ ?_ _) | go_size))) kk0 kk1 hrm).mono ?_); rintro e w5 ⟨rfl, hb⟩; rw [HZ.out]; have HV5 := Lib.hid (HVr.out.up hb); clear hb)
            go_roundw
            case rel => exact ⟨r + 1, _, by omega, by go_num, by go_num, HNX.out.symm, HV5.out⟩
            case measure => simp [intOf]; omega
        · rw [if_neg (fun h => hz1 h.1)] at hnx
          have HNX := Lib.hid hnx
          clear hnx
          go_wp2_with (go_at_call 17; (with_reducible refine (CO.out kk r _ (HQ.out.up (by repeat' (first | (with_reducible exact Below.refl _ _) | (with_reducible exact HBr.out) | (with_reducible refine below_over ?_ _ _) | (with_reducible refine Lw.below_alloc ?_ _) | (with_reducible refine Below.drew ?_) | (with_reducible refine below_drewN ?_ _) | (with_reducible refine Below.setCell ?_ ?_ _) | go_size))) kk0 kk1 hrm).mono ?_); rintro e w5 ⟨rfl, hb⟩; rw [HZ.out]; have HV5 := Lib.hid (HVr.out.up hb); clear hb)
          go_roundw
          case rel => exact ⟨r + 1, _, by omega, by go_num, by go_num, HNX.out.symm, HV5.out⟩
          case measure => simp [intOf]; omega
      · have e : r = m := by omega
        subst e
        have hrc : ¬ (r : Int) < c.rw := by rw [HRW.out]; omega
        have hta : (othR c l kk us).take r = othR c l kk us := List.take_of_length_le (by rw [othR_len, HM.out]; exact Nat.le_refl _)
        have hcn := HCN.out
        rw [hta] at hcn
        have HMN : Hid (c.rw < 2 * (C : Int) → hasK kk us - T ≤ ptVal c l (cells c l us) kk ∧ ptVal c l (cells c l us) kk ≤ hasK kk us + T) := Lib.hid (fun h => HNEAR.out kk T kk0 kk1 (by rw [HNT.out, ← hcn, HM.out, ← HRW.out]; exact h))
        obtain ⟨z0, hz0⟩ : ∃ z0, hasK kk us = z0 := ⟨_, rfl⟩
        have HZ0 := Lib.hid hz0
        have hzb := HHB.out kk
        obtain ⟨V, hV⟩ : ∃ V, ptVal c l (cells c l us) kk = V := ⟨_, rfl⟩
        rw [hz0, hV] at HMN
        rw [hz0] at hzb
        have CPT : Hid (∀ w', SK w' p F c l (cells c l us) → Calls Try.prog 19 #[.pointer (some p), .int .u64 kk] w' fun e w2 => e = .returned (.tuple #[.int .i64 V, .int .i64 0]) ∧ Below w'.heap.size w' w2) := Lib.hid (fun w' h => by
          have C := spoint_any p F c l (cells c l us) kk w' h kk0 (by omega)
          rw [pt_ok (by rw [HKK.out]; exact kk1), hV] at C
          exact C)
        obtain ⟨LO, hLO⟩ : ∃ LO, z0 - T = LO := ⟨_, rfl⟩
        obtain ⟨HI, hHI⟩ : ∃ HI, z0 + T = HI := ⟨_, rfl⟩
        obtain ⟨D2, hD2⟩ : ∃ D2, 2 * (C : Int) = D2 := ⟨_, rfl⟩
        have w1 : IntKind.i64.wrap (z0 - T) = LO := by rw [hLO]; exact IntWalk.i64_in _ ⟨by omega, by omega⟩
        have w2 : IntKind.i64.wrap (z0 + T) = HI := by rw [hHI]; exact IntWalk.i64_in _ ⟨by omega, by omega⟩
        have w3 : IntKind.i64.wrap (2 * (C : Int)) = D2 := by rw [hD2]; exact IntWalk.i64_in _ ⟨by omega, by omega⟩
        have w4 : wrap64 (z0 - T) = LO := by rw [hLO]; exact IntWalk.wrap64_in _ ⟨by omega, by omega⟩
        have w5 : wrap64 (z0 + T) = HI := by rw [hHI]; exact IntWalk.wrap64_in _ ⟨by omega, by omega⟩
        have w6 : wrap64 (2 * (C : Int)) = D2 := by rw [hD2]; exact IntWalk.wrap64_in _ ⟨by omega, by omega⟩
        rw [hD2, hLO, hHI] at HMN
        clear hz0 hrm hV hLO hHI hD2 hcn hta
        by_cases h2 : D2 ≤ c.rw
        · go_wp2_with (first
            | (go_at_call 19; (with_reducible refine (CPT.out _ (skI HVr.out.i1)).mono ?_); rintro e w6 ⟨rfl, hb⟩; have HV6 := Lib.hid (HVr.out.up hb); have HB6 := Lib.hid HV6.out.below; clear hb x0 x1 x2 x3 x4 x5 c0 e1 e2 e3 e4 e5; obtain ⟨x0, x1, x2, x3, x4, x5, c0⟩ := box7 HV6.out.i2; obtain ⟨e1, e2, e3, e4, e5⟩ := box5 HV6.out.i0)
            | (go_at_call 18; (with_reducible refine (CH.out kk _ (HQ.out.up HB6.out)).mono ?_); rintro e w7 ⟨rfl, hb⟩; rw [HZ0.out]; have HV7 := Lib.hid (HV6.out.up hb); clear hb x0 x1 x2 x3 x4 x5 c0 e1 e2 e3 e4 e5; obtain ⟨x0, x1, x2, x3, x4, x5, c0⟩ := box7 HV7.out.i2; obtain ⟨e1, e2, e3, e4, e5⟩ := box5 HV7.out.i0))
          go_ret
          exact ⟨ret_bs (by first | rfl | (simp [*]; done)), HV7.out.below⟩
        · obtain ⟨g1, g2⟩ := HMN.out (Int.not_le.mp h2)
          go_wp2_with (first
            | (go_at_call 19; (with_reducible refine (CPT.out _ (skI HVr.out.i1)).mono ?_); rintro e w6 ⟨rfl, hb⟩; have HV6 := Lib.hid (HVr.out.up hb); have HB6 := Lib.hid HV6.out.below; clear hb x0 x1 x2 x3 x4 x5 c0 e1 e2 e3 e4 e5; obtain ⟨x0, x1, x2, x3, x4, x5, c0⟩ := box7 HV6.out.i2; obtain ⟨e1, e2, e3, e4, e5⟩ := box5 HV6.out.i0)
            | (go_at_call 18; (with_reducible refine (CH.out kk _ (HQ.out.up HB6.out)).mono ?_); rintro e w7 ⟨rfl, hb⟩; rw [HZ0.out]; have HV7 := Lib.hid (HV6.out.up hb); clear hb x0 x1 x2 x3 x4 x5 c0 e1 e2 e3 e4 e5; obtain ⟨x0, x1, x2, x3, x4, x5, c0⟩ := box7 HV7.out.i2; obtain ⟨e1, e2, e3, e4, e5⟩ := box5 HV7.out.i0))
          go_ret
          exact ⟨ret_bs (by first | rfl | (simp [*]; done)), HV7.out.below⟩
  have hn0b : (0 : Int) < (n0 : Int) := by omega
  rcases (show Int.tmod R 2 = 0 ∨ Int.tmod R 2 = 1 by rw [Int.tmod_eq_emod_of_nonneg r2]; omega) with hev | hev
  · obtain ⟨q9, hq9⟩ : ∃ q, qs[0]? = some q := ⟨_, List.getElem?_eq_getElem (by rw [HL.out]; omega)⟩
    obtain ⟨a9, g9, o9, rfl, hadd9, d9w, -, kb9, -⟩ := HQ.out.at hq9
    obtain ⟨qk9, qd9⟩ := q9
    simp only at d9w kb9
    have had9 : a9 = ⟨g9, o9, none⟩ := by rw [← hadd9]; cases a9 with | mk b o s => cases s <;> simp [Addr.add]
    subst had9
    obtain ⟨s1, s2, s3⟩ := rem_key qk9 K kb9.1 kb9.2 hkeys
    obtain ⟨kk, hkk⟩ : ∃ kk, qk9 % K = kk := ⟨_, rfl⟩
    have kk1 : kk < K := by rw [← hkk]; exact Int.emod_lt_of_pos _ (by omega)
    rw [hkk] at s1 s2 s3
    have kk0 := s2
    clear hn0 hkk hq9 hadd9
    skip
    go_enter Try.func5, Try.ntmps5
    go_wp2_with (first
      | (go_at_call 16; (with_reducible refine (CK.out _).mono ?_); rintro e w3 ⟨rfl, hb⟩; have HV9 := (HV.out.up (by repeat' (first | (with_reducible exact Below.refl _ _) | (with_reducible assumption) | (with_reducible refine below_over ?_ _ _) | (with_reducible refine Lw.below_alloc ?_ _) | (with_reducible refine Below.drew ?_) | (with_reducible refine below_drewN ?_ _) | (with_reducible refine Below.setCell ?_ ?_ _) | go_size))).up hb; clear HV HBW x0 x1 x2 x3 x4 x5 c0 e1 e2 e3 e4 e5 hb; have HV := Lib.hid HV9; clear HV9; have HBW := Lib.hid HV.out.below; obtain ⟨x0, x1, x2, x3, x4, x5, c0⟩ := box7 HV.out.i2; obtain ⟨e1, e2, e3, e4, e5⟩ := box5 HV.out.i0)
      | (go_at_call 11; (with_reducible refine (D.out _ (HQ.out.up HBW1.out)).mono ?_); rintro e w2 ⟨p, F, rfl, hv⟩; have HV2 := HV1.out.join hv; simp only [List.cons_append, List.nil_append] at HV2; have HV := Lib.hid (HV2.push (boxT w2.heap.size 24 #[.int .i64 c.bt, .int .i64 c.rw, .int .i64 c.wd, .int .i64 c.md, .int .u64 c.sd]) (Lw.below_alloc (Below.refl _ _) _) (heap_alloc_new w2 _) (fun k hk => Nat.le_of_eq hk.symm)); have HBW := Lib.hid HV.out.below; clear hv HV2 x0 x1 x2 x3 x4 x5 c0; obtain ⟨x0, x1, x2, x3, x4, x5, c0⟩ := box7 HV.out.i2; obtain ⟨e1, e2, e3, e4, e5⟩ := box5 HV.out.i0)
      | (go_at_call 10; (with_reducible refine (shown_any _).mono ?_); rintro e w1 ⟨rfl, hb⟩; have HV1 := Lib.hid (HBX.out.up hb); have HBW1 := Lib.hid HV1.out.below; obtain ⟨x0, x1, x2, x3, x4, x5, c0⟩ := box7 HV1.out.i0; clear hb))
    obtain ⟨gc, hgc⟩ : ∃ gc, w2.heap.size = gc := ⟨_, rfl⟩
    rw [hgc] at HV e1 e2 e3 e4 e5 ⊢
    clear hgc
    have d9 := cell_up d9w HBW.out
    go_region_held3 (fun w' => w'.cell? ⟨w.heap.size, 6, none⟩ = some (.slice (some ⟨g9, o9, none⟩) n0 k0) ∧ w'.cell? ⟨gc, 0, none⟩ = some (.int .i64 c.bt) ∧ w'.cell? ⟨gc, 1, none⟩ = some (.int .i64 c.rw) ∧ w'.cell? ⟨gc, 2, none⟩ = some (.int .i64 c.wd) ∧ w'.cell? ⟨gc, 3, none⟩ = some (.int .i64 c.md) ∧ w'.cell? ⟨gc, 4, none⟩ = some (.int .u64 c.sd) ∧ w'.cell? ⟨g9, o9, none⟩ = some (.int .u64 qk9)) (first | (refine ⟨?_, ?_, ?_, ?_, ?_, ?_, ?_⟩ <;> (first | (with_reducible assumption) | (with_reducible refine cell_up c0 ?_) | (with_reducible refine cell_up e1 ?_) | (with_reducible refine cell_up e2 ?_) | (with_reducible refine cell_up e3 ?_) | (with_reducible refine cell_up e4 ?_) | (with_reducible refine cell_up e5 ?_) | (with_reducible refine cell_up d9 ?_)) <;> (repeat' (first | (with_reducible exact Below.refl _ _) | (with_reducible assumption) | (with_reducible refine below_over ?_ _ _) | (with_reducible refine Lw.below_alloc ?_ _) | (with_reducible refine Below.drew ?_) | (with_reducible refine below_drewN ?_ _) | (with_reducible refine Below.setCell ?_ ?_ _) | go_size)))) (first | (go_at_call 16; (with_reducible refine (CK.out _).mono ?_); rintro e w3 ⟨rfl, hb⟩; have HV9 := (HV.out.up (by repeat' (first | (with_reducible exact Below.refl _ _) | (with_reducible assumption) | (with_reducible refine below_over ?_ _ _) | (with_reducible refine Lw.below_alloc ?_ _) | (with_reducible refine Below.drew ?_) | (with_reducible refine below_drewN ?_ _) | (with_reducible refine Below.setCell ?_ ?_ _) | go_size))).up hb; clear HV HBW x0 x1 x2 x3 x4 x5 c0 e1 e2 e3 e4 e5 hb; have HV := Lib.hid HV9; clear HV9; have HBW := Lib.hid HV.out.below; obtain ⟨x0, x1, x2, x3, x4, x5, c0⟩ := box7 HV.out.i2; obtain ⟨e1, e2, e3, e4, e5⟩ := box5 HV.out.i0; clear d9; have d9 := cell_up d9w HBW.out))
    go_wp2_with (first
      | (go_at_call 16; (with_reducible refine (CK.out _).mono ?_); rintro e w3 ⟨rfl, hb⟩; have HV9 := (HV.out.up (by repeat' (first | (with_reducible exact Below.refl _ _) | (with_reducible assumption) | (with_reducible refine below_over ?_ _ _) | (with_reducible refine Lw.below_alloc ?_ _) | (with_reducible refine Below.drew ?_) | (with_reducible refine below_drewN ?_ _) | (with_reducible refine Below.setCell ?_ ?_ _) | go_size))).up hb; clear HV HBW x0 x1 x2 x3 x4 x5 c0 e1 e2 e3 e4 e5 hb; have HV := Lib.hid HV9; clear HV9; have HBW := Lib.hid HV.out.below; obtain ⟨x0, x1, x2, x3, x4, x5, c0⟩ := box7 HV.out.i2; obtain ⟨e1, e2, e3, e4, e5⟩ := box5 HV.out.i0)
      | (go_at_call 11; (with_reducible refine (D.out _ (HQ.out.up HBW1.out)).mono ?_); rintro e w2 ⟨p, F, rfl, hv⟩; have HV2 := HV1.out.join hv; simp only [List.cons_append, List.nil_append] at HV2; have HV := Lib.hid (HV2.push (boxT w2.heap.size 24 #[.int .i64 c.bt, .int .i64 c.rw, .int .i64 c.wd, .int .i64 c.md, .int .u64 c.sd]) (Lw.below_alloc (Below.refl _ _) _) (heap_alloc_new w2 _) (fun k hk => Nat.le_of_eq hk.symm)); have HBW := Lib.hid HV.out.below; clear hv HV2 x0 x1 x2 x3 x4 x5 c0; obtain ⟨x0, x1, x2, x3, x4, x5, c0⟩ := box7 HV.out.i2; obtain ⟨e1, e2, e3, e4, e5⟩ := box5 HV.out.i0)
      | (go_at_call 10; (with_reducible refine (shown_any _).mono ?_); rintro e w1 ⟨rfl, hb⟩; have HV1 := Lib.hid (HBX.out.up hb); have HBW1 := Lib.hid HV1.out.below; obtain ⟨x0, x1, x2, x3, x4, x5, c0⟩ := box7 HV1.out.i0; clear hb))
    clear d9
    obtain ⟨a9, ha9⟩ : ∃ a9, (⟨g9, o9, none⟩ : Addr) = a9 := ⟨_, rfl⟩
    rw [ha9] at HQ CO CO0 CH HV c0 ⊢
    clear ha9
    go_loopw [11, 12] (fun cv rv wr => ∃ (r C : Nat), r ≤ m ∧ rv = .int .i64 r ∧ cv = .int .i64 C ∧ C = Ord.near ((othR c l kk us).take r) NT T ∧ Have w wr [boxT gc 24 #[.int .i64 c.bt, .int .i64 c.rw, .int .i64 c.wd, .int .i64 c.md, .int .u64 c.sd], skT p F c l (cells c l us), boxT w.heap.size 27 #[.int .i64 x.bt, .int .i64 x.rw, .int .i64 x.wd, .int .i64 x.md, .int .u64 x.sd, .int .i64 lv, .slice (some a9) n0 k0]]) (fun _ rv _ => m - (intOf rv).toNat)
    case atStart => exact ⟨0, 0, Nat.zero_le _, rfl, rfl, rfl, HV.out⟩
    case round =>
      clear x0 x1 x2 x3 x4 x5 c0 e1 e2 e3 e4 e5
      obtain ⟨r, C, hr, rfl, rfl, hC, hv⟩ := hrel
      have HVr := Lib.hid hv
      have HCN := Lib.hid hC
      have HBr := Lib.hid hv.below
      have hCr : C ≤ r := by rw [hC]; exact Ord.near_len _ _ _ _
      clear hv hC
      obtain ⟨x0, x1, x2, x3, x4, x5, c0⟩ := box7 HVr.out.i2
      obtain ⟨e1, e2, e3, e4, e5⟩ := box5 HVr.out.i0
      by_cases hrm : r < m
      · have hrc : (r : Int) < c.rw := by rw [HRW.out]; omega
        obtain ⟨z, hz⟩ : ∃ z, othK c l kk r us = z := ⟨_, rfl⟩
        have HZ := Lib.hid hz
        have hnx := Ord.near_next (othR c l kk us) NT T r z (by rw [← hz]; exact othR_get (by rw [HM.out]; exact hrm))
        rw [← HCN.out] at hnx
        clear hz
        by_cases hz1 : NT ≤ z
        · by_cases hz2 : z ≤ T
          · rw [if_pos ⟨hz1, hz2⟩] at hnx
            have HNX := Lib.hid hnx
            clear hnx
            go_wp2_with (go_at_call 17; (with_reducible refine (CO.out kk r _ (HQ.out.up (by repeat' (first | (with_reducible exact Below.refl _ _) | (with_reducible exact HBr.out) | (with_reducible refine below_over ?_ _ _) | (with_reducible refine Lw.below_alloc ?_ _) | (with_reducible refine Below.drew ?_) | (with_reducible refine below_drewN ?_ _) | (with_reducible refine Below.setCell ?_ ?_ _) | go_size))) kk0 kk1 hrm).mono ?_); rintro e w5 ⟨rfl, hb⟩; rw [HZ.out]; have HV5 := Lib.hid (HVr.out.up hb); clear hb)
            go_roundw
            case rel => exact ⟨r + 1, _, by omega, by go_num, by go_num, HNX.out.symm, HV5.out⟩
            case measure => simp [intOf]; omega
          · rw [if_neg (fun h => hz2 h.2)] at hnx
            have HNX := Lib.hid hnx
            clear hnx
            go_wp2_with (go_at_call 17; (with_reducible refine (CO.out kk r _ (HQ.out.up (by repeat' (first | (with_reducible exact Below.refl _ _) | (with_reducible exact HBr.out) | (with_reducible refine below_over ?_ _ _) | (with_reducible refine Lw.below_alloc ?_ _) | (with_reducible refine Below.drew ?_) | (with_reducible refine below_drewN ?_ _) | (with_reducible refine Below.setCell ?_ ?_ _) | go_size))) kk0 kk1 hrm).mono ?_); rintro e w5 ⟨rfl, hb⟩; rw [HZ.out]; have HV5 := Lib.hid (HVr.out.up hb); clear hb)
            go_roundw
            case rel => exact ⟨r + 1, _, by omega, by go_num, by go_num, HNX.out.symm, HV5.out⟩
            case measure => simp [intOf]; omega
        · rw [if_neg (fun h => hz1 h.1)] at hnx
          have HNX := Lib.hid hnx
          clear hnx
          go_wp2_with (go_at_call 17; (with_reducible refine (CO.out kk r _ (HQ.out.up (by repeat' (first | (with_reducible exact Below.refl _ _) | (with_reducible exact HBr.out) | (with_reducible refine below_over ?_ _ _) | (with_reducible refine Lw.below_alloc ?_ _) | (with_reducible refine Below.drew ?_) | (with_reducible refine below_drewN ?_ _) | (with_reducible refine Below.setCell ?_ ?_ _) | go_size))) kk0 kk1 hrm).mono ?_); rintro e w5 ⟨rfl, hb⟩; rw [HZ.out]; have HV5 := Lib.hid (HVr.out.up hb); clear hb)
          go_roundw
          case rel => exact ⟨r + 1, _, by omega, by go_num, by go_num, HNX.out.symm, HV5.out⟩
          case measure => simp [intOf]; omega
      · have e : r = m := by omega
        subst e
        have hrc : ¬ (r : Int) < c.rw := by rw [HRW.out]; omega
        have hta : (othR c l kk us).take r = othR c l kk us := List.take_of_length_le (by rw [othR_len, HM.out]; exact Nat.le_refl _)
        have hcn := HCN.out
        rw [hta] at hcn
        have HMN : Hid (c.rw < 2 * (C : Int) → hasK kk us - T ≤ ptVal c l (cells c l us) kk ∧ ptVal c l (cells c l us) kk ≤ hasK kk us + T) := Lib.hid (fun h => HNEAR.out kk T kk0 kk1 (by rw [HNT.out, ← hcn, HM.out, ← HRW.out]; exact h))
        obtain ⟨z0, hz0⟩ : ∃ z0, hasK kk us = z0 := ⟨_, rfl⟩
        have HZ0 := Lib.hid hz0
        have hzb := HHB.out kk
        obtain ⟨V, hV⟩ : ∃ V, ptVal c l (cells c l us) kk = V := ⟨_, rfl⟩
        rw [hz0, hV] at HMN
        rw [hz0] at hzb
        have CPT : Hid (∀ w', SK w' p F c l (cells c l us) → Calls Try.prog 19 #[.pointer (some p), .int .u64 kk] w' fun e w2 => e = .returned (.tuple #[.int .i64 V, .int .i64 0]) ∧ Below w'.heap.size w' w2) := Lib.hid (fun w' h => by
          have C := spoint_any p F c l (cells c l us) kk w' h kk0 (by omega)
          rw [pt_ok (by rw [HKK.out]; exact kk1), hV] at C
          exact C)
        obtain ⟨LO, hLO⟩ : ∃ LO, z0 - T = LO := ⟨_, rfl⟩
        obtain ⟨HI, hHI⟩ : ∃ HI, z0 + T = HI := ⟨_, rfl⟩
        obtain ⟨D2, hD2⟩ : ∃ D2, 2 * (C : Int) = D2 := ⟨_, rfl⟩
        have w1 : IntKind.i64.wrap (z0 - T) = LO := by rw [hLO]; exact IntWalk.i64_in _ ⟨by omega, by omega⟩
        have w2 : IntKind.i64.wrap (z0 + T) = HI := by rw [hHI]; exact IntWalk.i64_in _ ⟨by omega, by omega⟩
        have w3 : IntKind.i64.wrap (2 * (C : Int)) = D2 := by rw [hD2]; exact IntWalk.i64_in _ ⟨by omega, by omega⟩
        have w4 : wrap64 (z0 - T) = LO := by rw [hLO]; exact IntWalk.wrap64_in _ ⟨by omega, by omega⟩
        have w5 : wrap64 (z0 + T) = HI := by rw [hHI]; exact IntWalk.wrap64_in _ ⟨by omega, by omega⟩
        have w6 : wrap64 (2 * (C : Int)) = D2 := by rw [hD2]; exact IntWalk.wrap64_in _ ⟨by omega, by omega⟩
        rw [hD2, hLO, hHI] at HMN
        clear hz0 hrm hV hLO hHI hD2 hcn hta
        by_cases h2 : D2 ≤ c.rw
        · go_wp2_with (first
            | (go_at_call 19; (with_reducible refine (CPT.out _ (skI HVr.out.i1)).mono ?_); rintro e w6 ⟨rfl, hb⟩; have HV6 := Lib.hid (HVr.out.up hb); have HB6 := Lib.hid HV6.out.below; clear hb x0 x1 x2 x3 x4 x5 c0 e1 e2 e3 e4 e5; obtain ⟨x0, x1, x2, x3, x4, x5, c0⟩ := box7 HV6.out.i2; obtain ⟨e1, e2, e3, e4, e5⟩ := box5 HV6.out.i0)
            | (go_at_call 18; (with_reducible refine (CH.out kk _ (HQ.out.up HB6.out)).mono ?_); rintro e w7 ⟨rfl, hb⟩; rw [HZ0.out]; have HV7 := Lib.hid (HV6.out.up hb); clear hb x0 x1 x2 x3 x4 x5 c0 e1 e2 e3 e4 e5; obtain ⟨x0, x1, x2, x3, x4, x5, c0⟩ := box7 HV7.out.i2; obtain ⟨e1, e2, e3, e4, e5⟩ := box5 HV7.out.i0))
          go_ret
          exact ⟨ret_bs (by first | rfl | (simp [*]; done)), HV7.out.below⟩
        · obtain ⟨g1, g2⟩ := HMN.out (Int.not_le.mp h2)
          go_wp2_with (first
            | (go_at_call 19; (with_reducible refine (CPT.out _ (skI HVr.out.i1)).mono ?_); rintro e w6 ⟨rfl, hb⟩; have HV6 := Lib.hid (HVr.out.up hb); have HB6 := Lib.hid HV6.out.below; clear hb x0 x1 x2 x3 x4 x5 c0 e1 e2 e3 e4 e5; obtain ⟨x0, x1, x2, x3, x4, x5, c0⟩ := box7 HV6.out.i2; obtain ⟨e1, e2, e3, e4, e5⟩ := box5 HV6.out.i0)
            | (go_at_call 18; (with_reducible refine (CH.out kk _ (HQ.out.up HB6.out)).mono ?_); rintro e w7 ⟨rfl, hb⟩; rw [HZ0.out]; have HV7 := Lib.hid (HV6.out.up hb); clear hb x0 x1 x2 x3 x4 x5 c0 e1 e2 e3 e4 e5; obtain ⟨x0, x1, x2, x3, x4, x5, c0⟩ := box7 HV7.out.i2; obtain ⟨e1, e2, e3, e4, e5⟩ := box5 HV7.out.i0))
          go_ret
          exact ⟨ret_bs (by first | rfl | (simp [*]; done)), HV7.out.below⟩
  · obtain ⟨q9, hq9⟩ : ∃ q, qs[0]? = some q := ⟨_, List.getElem?_eq_getElem (by rw [HL.out]; omega)⟩
    obtain ⟨a9, -, -, rfl, -⟩ := HQ.out.at hq9
    skip
    clear hn0 hq9
    go_enter Try.func5, Try.ntmps5
    obtain ⟨kk, hkk⟩ : ∃ kk, R = kk := ⟨_, rfl⟩
    rw [hkk] at r1 r2 hRK hev
    have kk0 := r2
    have kk1 := hRK
    go_wp2_with (first
      | (go_at_call 16; (with_reducible refine (CK.out _).mono ?_); rintro e w3 ⟨rfl, hb⟩; have HV9 := (HV.out.up (by repeat' (first | (with_reducible exact Below.refl _ _) | (with_reducible assumption) | (with_reducible refine below_over ?_ _ _) | (with_reducible refine Lw.below_alloc ?_ _) | (with_reducible refine Below.drew ?_) | (with_reducible refine below_drewN ?_ _) | (with_reducible refine Below.setCell ?_ ?_ _) | go_size))).up hb; clear HV HBW x0 x1 x2 x3 x4 x5 c0 e1 e2 e3 e4 e5 hb; have HV := Lib.hid HV9; clear HV9; have HBW := Lib.hid HV.out.below; obtain ⟨x0, x1, x2, x3, x4, x5, c0⟩ := box7 HV.out.i2; obtain ⟨e1, e2, e3, e4, e5⟩ := box5 HV.out.i0)
      | (go_at_call 11; (with_reducible refine (D.out _ (HQ.out.up HBW1.out)).mono ?_); rintro e w2 ⟨p, F, rfl, hv⟩; have HV2 := HV1.out.join hv; simp only [List.cons_append, List.nil_append] at HV2; have HV := Lib.hid (HV2.push (boxT w2.heap.size 24 #[.int .i64 c.bt, .int .i64 c.rw, .int .i64 c.wd, .int .i64 c.md, .int .u64 c.sd]) (Lw.below_alloc (Below.refl _ _) _) (heap_alloc_new w2 _) (fun k hk => Nat.le_of_eq hk.symm)); have HBW := Lib.hid HV.out.below; clear hv HV2 x0 x1 x2 x3 x4 x5 c0; obtain ⟨x0, x1, x2, x3, x4, x5, c0⟩ := box7 HV.out.i2; obtain ⟨e1, e2, e3, e4, e5⟩ := box5 HV.out.i0)
      | (go_at_call 10; (with_reducible refine (shown_any _).mono ?_); rintro e w1 ⟨rfl, hb⟩; have HV1 := Lib.hid (HBX.out.up hb); have HBW1 := Lib.hid HV1.out.below; obtain ⟨x0, x1, x2, x3, x4, x5, c0⟩ := box7 HV1.out.i0; clear hb))
    obtain ⟨gc, hgc⟩ : ∃ gc, w2.heap.size = gc := ⟨_, rfl⟩
    rw [hgc] at HV e1 e2 e3 e4 e5 ⊢
    clear hgc
    go_loopw [11, 12] (fun cv rv wr => ∃ (r C : Nat), r ≤ m ∧ rv = .int .i64 r ∧ cv = .int .i64 C ∧ C = Ord.near ((othR c l kk us).take r) NT T ∧ Have w wr [boxT gc 24 #[.int .i64 c.bt, .int .i64 c.rw, .int .i64 c.wd, .int .i64 c.md, .int .u64 c.sd], skT p F c l (cells c l us), boxT w.heap.size 27 #[.int .i64 x.bt, .int .i64 x.rw, .int .i64 x.wd, .int .i64 x.md, .int .u64 x.sd, .int .i64 lv, .slice (some a9) n0 k0]]) (fun _ rv _ => m - (intOf rv).toNat)
    case atStart => exact ⟨0, 0, Nat.zero_le _, rfl, rfl, rfl, HV.out⟩
    case round =>
      clear x0 x1 x2 x3 x4 x5 c0 e1 e2 e3 e4 e5
      obtain ⟨r, C, hr, rfl, rfl, hC, hv⟩ := hrel
      have HVr := Lib.hid hv
      have HCN := Lib.hid hC
      have HBr := Lib.hid hv.below
      have hCr : C ≤ r := by rw [hC]; exact Ord.near_len _ _ _ _
      clear hv hC
      obtain ⟨x0, x1, x2, x3, x4, x5, c0⟩ := box7 HVr.out.i2
      obtain ⟨e1, e2, e3, e4, e5⟩ := box5 HVr.out.i0
      by_cases hrm : r < m
      · have hrc : (r : Int) < c.rw := by rw [HRW.out]; omega
        obtain ⟨z, hz⟩ : ∃ z, othK c l kk r us = z := ⟨_, rfl⟩
        have HZ := Lib.hid hz
        have hnx := Ord.near_next (othR c l kk us) NT T r z (by rw [← hz]; exact othR_get (by rw [HM.out]; exact hrm))
        rw [← HCN.out] at hnx
        clear hz
        by_cases hz1 : NT ≤ z
        · by_cases hz2 : z ≤ T
          · rw [if_pos ⟨hz1, hz2⟩] at hnx
            have HNX := Lib.hid hnx
            clear hnx
            go_wp2_with (go_at_call 17; (with_reducible refine (CO.out kk r _ (HQ.out.up (by repeat' (first | (with_reducible exact Below.refl _ _) | (with_reducible exact HBr.out) | (with_reducible refine below_over ?_ _ _) | (with_reducible refine Lw.below_alloc ?_ _) | (with_reducible refine Below.drew ?_) | (with_reducible refine below_drewN ?_ _) | (with_reducible refine Below.setCell ?_ ?_ _) | go_size))) kk0 kk1 hrm).mono ?_); rintro e w5 ⟨rfl, hb⟩; rw [HZ.out]; have HV5 := Lib.hid (HVr.out.up hb); clear hb)
            go_roundw
            case rel => exact ⟨r + 1, _, by omega, by go_num, by go_num, HNX.out.symm, HV5.out⟩
            case measure => simp [intOf]; omega
          · rw [if_neg (fun h => hz2 h.2)] at hnx
            have HNX := Lib.hid hnx
            clear hnx
            go_wp2_with (go_at_call 17; (with_reducible refine (CO.out kk r _ (HQ.out.up (by repeat' (first | (with_reducible exact Below.refl _ _) | (with_reducible exact HBr.out) | (with_reducible refine below_over ?_ _ _) | (with_reducible refine Lw.below_alloc ?_ _) | (with_reducible refine Below.drew ?_) | (with_reducible refine below_drewN ?_ _) | (with_reducible refine Below.setCell ?_ ?_ _) | go_size))) kk0 kk1 hrm).mono ?_); rintro e w5 ⟨rfl, hb⟩; rw [HZ.out]; have HV5 := Lib.hid (HVr.out.up hb); clear hb)
            go_roundw
            case rel => exact ⟨r + 1, _, by omega, by go_num, by go_num, HNX.out.symm, HV5.out⟩
            case measure => simp [intOf]; omega
        · rw [if_neg (fun h => hz1 h.1)] at hnx
          have HNX := Lib.hid hnx
          clear hnx
          go_wp2_with (go_at_call 17; (with_reducible refine (CO.out kk r _ (HQ.out.up (by repeat' (first | (with_reducible exact Below.refl _ _) | (with_reducible exact HBr.out) | (with_reducible refine below_over ?_ _ _) | (with_reducible refine Lw.below_alloc ?_ _) | (with_reducible refine Below.drew ?_) | (with_reducible refine below_drewN ?_ _) | (with_reducible refine Below.setCell ?_ ?_ _) | go_size))) kk0 kk1 hrm).mono ?_); rintro e w5 ⟨rfl, hb⟩; rw [HZ.out]; have HV5 := Lib.hid (HVr.out.up hb); clear hb)
          go_roundw
          case rel => exact ⟨r + 1, _, by omega, by go_num, by go_num, HNX.out.symm, HV5.out⟩
          case measure => simp [intOf]; omega
      · have e : r = m := by omega
        subst e
        have hrc : ¬ (r : Int) < c.rw := by rw [HRW.out]; omega
        have hta : (othR c l kk us).take r = othR c l kk us := List.take_of_length_le (by rw [othR_len, HM.out]; exact Nat.le_refl _)
        have hcn := HCN.out
        rw [hta] at hcn
        have HMN : Hid (c.rw < 2 * (C : Int) → hasK kk us - T ≤ ptVal c l (cells c l us) kk ∧ ptVal c l (cells c l us) kk ≤ hasK kk us + T) := Lib.hid (fun h => HNEAR.out kk T kk0 kk1 (by rw [HNT.out, ← hcn, HM.out, ← HRW.out]; exact h))
        obtain ⟨z0, hz0⟩ : ∃ z0, hasK kk us = z0 := ⟨_, rfl⟩
        have HZ0 := Lib.hid hz0
        have hzb := HHB.out kk
        obtain ⟨V, hV⟩ : ∃ V, ptVal c l (cells c l us) kk = V := ⟨_, rfl⟩
        rw [hz0, hV] at HMN
        rw [hz0] at hzb
        have CPT : Hid (∀ w', SK w' p F c l (cells c l us) → Calls Try.prog 19 #[.pointer (some p), .int .u64 kk] w' fun e w2 => e = .returned (.tuple #[.int .i64 V, .int .i64 0]) ∧ Below w'.heap.size w' w2) := Lib.hid (fun w' h => by
          have C := spoint_any p F c l (cells c l us) kk w' h kk0 (by omega)
          rw [pt_ok (by rw [HKK.out]; exact kk1), hV] at C
          exact C)
        obtain ⟨LO, hLO⟩ : ∃ LO, z0 - T = LO := ⟨_, rfl⟩
        obtain ⟨HI, hHI⟩ : ∃ HI, z0 + T = HI := ⟨_, rfl⟩
        obtain ⟨D2, hD2⟩ : ∃ D2, 2 * (C : Int) = D2 := ⟨_, rfl⟩
        have w1 : IntKind.i64.wrap (z0 - T) = LO := by rw [hLO]; exact IntWalk.i64_in _ ⟨by omega, by omega⟩
        have w2 : IntKind.i64.wrap (z0 + T) = HI := by rw [hHI]; exact IntWalk.i64_in _ ⟨by omega, by omega⟩
        have w3 : IntKind.i64.wrap (2 * (C : Int)) = D2 := by rw [hD2]; exact IntWalk.i64_in _ ⟨by omega, by omega⟩
        have w4 : wrap64 (z0 - T) = LO := by rw [hLO]; exact IntWalk.wrap64_in _ ⟨by omega, by omega⟩
        have w5 : wrap64 (z0 + T) = HI := by rw [hHI]; exact IntWalk.wrap64_in _ ⟨by omega, by omega⟩
        have w6 : wrap64 (2 * (C : Int)) = D2 := by rw [hD2]; exact IntWalk.wrap64_in _ ⟨by omega, by omega⟩
        rw [hD2, hLO, hHI] at HMN
        clear hz0 hrm hV hLO hHI hD2 hcn hta
        by_cases h2 : D2 ≤ c.rw
        · go_wp2_with (first
            | (go_at_call 19; (with_reducible refine (CPT.out _ (skI HVr.out.i1)).mono ?_); rintro e w6 ⟨rfl, hb⟩; have HV6 := Lib.hid (HVr.out.up hb); have HB6 := Lib.hid HV6.out.below; clear hb x0 x1 x2 x3 x4 x5 c0 e1 e2 e3 e4 e5; obtain ⟨x0, x1, x2, x3, x4, x5, c0⟩ := box7 HV6.out.i2; obtain ⟨e1, e2, e3, e4, e5⟩ := box5 HV6.out.i0)
            | (go_at_call 18; (with_reducible refine (CH.out kk _ (HQ.out.up HB6.out)).mono ?_); rintro e w7 ⟨rfl, hb⟩; rw [HZ0.out]; have HV7 := Lib.hid (HV6.out.up hb); clear hb x0 x1 x2 x3 x4 x5 c0 e1 e2 e3 e4 e5; obtain ⟨x0, x1, x2, x3, x4, x5, c0⟩ := box7 HV7.out.i2; obtain ⟨e1, e2, e3, e4, e5⟩ := box5 HV7.out.i0))
          go_ret
          exact ⟨ret_bs (by first | rfl | (simp [*]; done)), HV7.out.below⟩
        · obtain ⟨g1, g2⟩ := HMN.out (Int.not_le.mp h2)
          go_wp2_with (first
            | (go_at_call 19; (with_reducible refine (CPT.out _ (skI HVr.out.i1)).mono ?_); rintro e w6 ⟨rfl, hb⟩; have HV6 := Lib.hid (HVr.out.up hb); have HB6 := Lib.hid HV6.out.below; clear hb x0 x1 x2 x3 x4 x5 c0 e1 e2 e3 e4 e5; obtain ⟨x0, x1, x2, x3, x4, x5, c0⟩ := box7 HV6.out.i2; obtain ⟨e1, e2, e3, e4, e5⟩ := box5 HV6.out.i0)
            | (go_at_call 18; (with_reducible refine (CH.out kk _ (HQ.out.up HB6.out)).mono ?_); rintro e w7 ⟨rfl, hb⟩; rw [HZ0.out]; have HV7 := Lib.hid (HV6.out.up hb); clear hb x0 x1 x2 x3 x4 x5 c0 e1 e2 e3 e4 e5; obtain ⟨x0, x1, x2, x3, x4, x5, c0⟩ := box7 HV7.out.i2; obtain ⟨e1, e2, e3, e4, e5⟩ := box5 HV7.out.i0))
          go_ret
          exact ⟨ret_bs (by first | rfl | (simp [*]; done)), HV7.out.below⟩
theorem median_law (x : Cfg) (lv : Int) (A : Option Addr) (n0 k0 : Nat) (qs : Ups) (key far : Int) (w : World) (hx : x.Ok) (hlv : -9223372036854775808 ≤ lv ∧ lv ≤ 9223372036854775807) (hq : UpdV w A n0 k0 qs) (key0 : 0 ≤ key) (key1 : key ≤ 18446744073709551615) :
    Calls Try.prog 5 #[.agg #[.int .i64 x.bt, .int .i64 x.rw, .int .i64 x.wd, .int .i64 x.md, .int .u64 x.sd, .int .i64 lv, .slice A n0 k0], .int .u64 key, .int .i64 far] w fun e w' => e = .returned (.bool true) ∧ Below w.heap.size w w' := by
  have hb := tmod_bd far
  by_cases h : Int.tmod far 1099511627776 < -Int.tmod far 1099511627776
  · exact median_neg x lv A n0 k0 qs key far w hx hlv hq key0 key1 _ _ _ _ rfl h rfl (by omega) (by omega) rfl rfl
  · exact median_pos x lv A n0 k0 qs key far w hx hlv hq key0 key1 _ _ _ _ rfl h rfl (by omega) (by omega) rfl rfl
namespace sketchMedian
open Go.ChangeShapes Go.WideShapes Go.ChangeAt Go.Joins
set_option maxRecDepth 100000 in
theorem lifted (os : Os) (started : os.Started) (H : Type) (enc : TypeId × Value → H) :
    ReturnsInHanded {} Try.checked os 5 .any (Rows.sketchMedianSpec.pre6 enc Try.prog Try.f5 Rows.sketchMedianRow.domain false) (Rows.sketchMedianSpec.post enc Try.prog Try.f5 false true false false) := by
  refine Lw.lifted (C := Try.checked) (B := 4) (by kernel_rfl) os started (by kernel_rfl) Try.func5
    (ChangeSpec.witness6 (enc := enc) (C := Try.checked) false ⟨#[], #[.agg #[.int .i64 0, .int .i64 0, .int .i64 0, .int .i64 0, .int .u64 0, .int .i64 0, .slice none 0 0], .int .u64 0, .int .i64 0], []⟩ 8 (by kernel_rfl) (by kernel_rfl) (by kernel_rfl) (by kernel_rfl)) rfl Try.underlying4 (by kernel_rfl) (by kernel_rfl) (by kernel_rfl) ?_ ?_
  · intro ds h
    rw [Try.params5] at h
    match ds, h with
    | [_, _, _], _ => rfl
  · intro W base args ds p hval hA
    rw [Try.params5] at hA hval
    obtain ⟨v0, vs0, d0, ds0, p0, q0, hargs, rfl, rfl, h0, r0⟩ := trodAll_cons hA
    obtain ⟨v1, vs1, d1, ds1, p1, q1, rfl, rfl, rfl, h1, r1⟩ := trodAll_cons r0
    obtain ⟨v2, vs2, d2, ds2, p2, q2, rfl, rfl, rfl, h2, r2⟩ := trodAll_cons r1
    obtain ⟨rfl, rfl, rfl⟩ := trodAll_nil r2
    obtain rfl : args = #[v0, v1, v2] := by cases args; simp_all
    obtain ⟨x0, lv0, A0, n0, k0, qs0, rfl, hx0, hlv0, hq0⟩ := open_playS (hval 0 27 v0 rfl rfl) h0
    obtain ⟨a1, rfl, rfl, rfl, w1⟩ := open_int Try.underlying22 (hval 1 22 v1 rfl rfl) h1
    have b1 := Lw.wf_u64 w1
    obtain ⟨a2, rfl, rfl, rfl, w2⟩ := open_int Try.underlying2 (hval 2 2 v2 rfl rfl) h2
    have b2 := Lw.wf_i64 w2
    exact median_law x0 lv0 A0 n0 k0 qs0 a1 a2 W hx0 hlv0 hq0 b1.1 b1.2
theorem over : Rows.sketchMedianRow.holds Try.pinned (OpenSpec.ofChange Rows.sketchMedianSpec) :=
  OpenClaim.holds_of_wide 5 Try.f5 rfl rfl rfl rfl rfl rfl rfl ⟨rfl, rfl, rfl, rfl, rfl⟩ rfl rfl rfl rfl rfl (by kernel_rfl) Try.func5 (by kernel_rfl)
    (of_decide_eq_true (by kernel_rfl)) (by unfold Func.isWrapper; first | (rw [if_pos (by decide +kernel)]; kernel_rfl) | (rw [if_neg (by decide +kernel)]; exact ⟨rfl, rfl⟩))
    (fun os started H enc _ => lifted os started H enc)
theorem proved : Rows.SketchMedianSaid :=
  over
#print axioms proved
end sketchMedian
end Go.Proofs.Ytahgkiceifblmaa.Sk
