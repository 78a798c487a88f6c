/- The statement InnerTells of layer 11 holds: the product of two sketches is what the document says, for any config (cut to six bits and nine columns), level, and updates of both (forty each), raw, those that are refused left out. Printed by wip/gen/inntells.py. -/
import Derived.Test.YthecgkgnngpikaaMi
import Derived.Deep.LoopGhost
import Derived.Deep.RegionHeld3
import Derived.Deep.DeepCutAuto
import Derived.Deep.QuietTactic
import Derived.BigQuiet
namespace Go.Proofs.Ythecgkgnngpikaa.Inn
open Go Go.RowKit Lw Grd Lin Con Shp Sk
set_option linter.unusedVariables false
set_option linter.unusedSimpArgs false
def fedR (c : Cfg) (l : Int) (L : List (List Int)) (us : Ups) : List (List Int) := us.foldl (fun L u => upRes c l L u.1 u.2) L
theorem fedR_next (c : Cfg) (l : Int) (L : List (List Int)) {us : Ups} {k : Nat} {u : Int × Int} (h : us[k]? = some u) : fedR c l L (us.take (k + 1)) = upRes c l (fedR c l L (us.take k)) u.1 u.2 := by
  obtain ⟨h1, h2⟩ := List.getElem?_eq_some_iff.1 h
  unfold fedR
  rw [List.take_succ_eq_append_getElem h1, h2, List.foldl_append]
  rfl
theorem take_end {us : Ups} {k t : Nat} (h : k = t ∨ (us.length ≤ k ∧ k ≤ t)) : us.take k = us.take t := by
  rcases h with rfl | h
  · rfl
  · rw [List.take_of_length_le h.1, List.take_of_length_le (by omega)]
theorem ds_len {w : World} {p : Addr} {F : Nat → Prop} {c : Cfg} {l : Int} {L : List (List Int)} (h : DS w p F c l L) : L.length = rws c := by
  obtain ⟨_, _, _, _, _, _, _, _, _, d1, _⟩ := h
  exact d1.dims.len
theorem rinner_any (p : Addr) (F : Nat → Prop) (c : Cfg) (l : Int) (L : List (List Int)) (q : Addr) (G : Nat → Prop) (M : List (List Int)) (w : World) (h : DS w p F c l L) (g : DS w q G c l M) :
    Calls Try.prog 19 #[.pointer (some p), .pointer (some q)] w fun e w' => e = .returned (.tuple #[.agg #[.int .i64 (Wid.fh (inVal c c l l L M)), .int .u64 (Wid.fl (inVal c c l l L M))], .int .i64 (inCode c c l l L M)]) ∧ Below w.heap.size w w' := by
  by_cases hm : c.md = 1
  · exact rinner_lin p F c l L q G M w h g (ds_len h) (ds_len g) hm
  · have hi := in_mode (l := l) (L := L) (M := M) hm
    rw [hi.1, hi.2, (show Wid.fh 0 = 0 by decide), (show Wid.fl 0 = 0 by decide)]
    exact rinner_mode p F c l L q G M w h g hm
set_option maxRecDepth 100000 in
set_option maxHeartbeats 8000000 in
theorem tells_law (x : Cfg) (lv : Int) (A : Option Addr) (n0 k0 : Nat) (qs : Ups) (B : Option Addr) (n1 k1 : Nat) (ps : Ups) (w : World) (hx : x.Ok) (hlv : -9223372036854775808 ≤ lv ∧ lv ≤ 9223372036854775807) (hq : UpdV w A n0 k0 qs) (hp : UpdV w B n1 k1 ps) :
    Calls Try.prog 4 #[.agg #[.int .i64 x.bt, .int .i64 x.rw, .int .i64 x.wd, .int .i64 x.md, .int .u64 x.sd, .int .i64 lv, .slice A n0 k0, .slice B n1 k1]] w fun e w' => e = .returned (.bool true) ∧ Below w.heap.size w w' := by
  obtain ⟨c, hC⟩ : ∃ c, anyC x 6 9 = c := ⟨_, rfl⟩
  have hr := any_right x 6 9 (by omega) (by omega) (by omega) (by omega)
  have hco := any_ok x hx 6 9 (by omega) (by omega) (by omega) (by omega)
  rw [hC] at hr hco
  have CA := Lib.hid (fun w => rany_at x 6 9 c w hx (by omega) (by omega) (by omega) (by omega) hC)
  have hbt := hr.1
  have hbt6 := hr.2.1
  obtain ⟨X, l, a1, b1, c1, dd1, ee1, ff1⟩ := level_of lv (c.bt + 1) (by omega) (by omega)
  have hkeys : 1 ≤ keys c l := keys_pos.2 ⟨hr, by omega, by omega⟩
  have CNW := Lib.hid (fun w => snew_yes c l w hco (by omega) (by omega) hkeys)
  have CRN := Lib.hid (fun w => rsnew_any c l w hco hr (by omega) (by omega))
  have hnc := hq.nc
  have hcm := hq.cm
  have hnc1 := hp.nc
  have hcm1 := hp.cm
  unfold maxLen at hcm hcm1
  have HQ := Lib.hid hq
  have HL := Lib.hid hq.len
  have HQ1 := Lib.hid hp
  have HL1 := Lib.hid hp.len
  have CI1 := Lib.hid (fun p F q G w h g => inner_any p F c l (fedR c l (zerosL (rws c) (wds c)) (qs.take 40)) q G c l (fedR c l (zerosL (rws c) (wds c)) (ps.take 40)) w h g)
  have CI2 := Lib.hid (fun p F q G w h g => rinner_any p F c l (fedR c l (zerosL (rws c) (wds c)) (qs.take 40)) q G (fedR c l (zerosL (rws c) (wds c)) (ps.take 40)) w h g)
  obtain ⟨P, hP⟩ : ∃ P, Wid.fh (inVal c c l l (fedR c l (zerosL (rws c) (wds c)) (qs.take 40)) (fedR c l (zerosL (rws c) (wds c)) (ps.take 40))) = P := ⟨_, rfl⟩
  obtain ⟨Q, hQ⟩ : ∃ Q, Wid.fl (inVal c c l l (fedR c l (zerosL (rws c) (wds c)) (qs.take 40)) (fedR c l (zerosL (rws c) (wds c)) (ps.take 40))) = Q := ⟨_, rfl⟩
  obtain ⟨E, hE⟩ : ∃ E, inCode c c l l (fedR c l (zerosL (rws c) (wds c)) (qs.take 40)) (fedR c l (zerosL (rws c) (wds c)) (ps.take 40)) = E := ⟨_, rfl⟩
  rw [hP, hQ, hE] at CI1 CI2
  have HBX : Hid (Have w (w.alloc (.cells #[.int .i64 x.bt, .int .i64 x.rw, .int .i64 x.wd, .int .i64 x.md, .int .u64 x.sd, .int .i64 lv, .slice A n0 k0, .slice B n1 k1] 34)) [boxT w.heap.size 34 #[.int .i64 x.bt, .int .i64 x.rw, .int .i64 x.wd, .int .i64 x.md, .int .u64 x.sd, .int .i64 lv, .slice A n0 k0, .slice B n1 k1]]) := Lib.hid (box_new w _ _)
  have hw1 : IntKind.i64.wrap (c.bt + 1) = c.bt + 1 := IntWalk.i64_in _ ⟨by omega, by omega⟩
  have hw2 : wrap64 (c.bt + 1) = c.bt + 1 := IntWalk.wrap64_in _ ⟨by omega, by omega⟩
  have hbn : ¬ c.bt + 1 = 0 := by omega
  clear hC hq hp hr hkeys hco hx hP hQ hE
  go_enter Try.func4, Try.ntmps4
  go_wp2_with (first
    | (go_at_call 15; (with_reducible refine (CRN.out _).mono ?_); rintro e w6 ⟨s, S0, rfl, h1, h2, hb⟩; have HV6 := Lib.hid (HV5.out.push (dsT s S0 c l ((zerosL (rws c) (wds c)))) hb h1 h2); clear h1 h2 hb)
    | (go_at_call 15; (with_reducible refine (CRN.out _).mono ?_); rintro e w5 ⟨r, R0, rfl, h1, h2, hb⟩; have HV5 := Lib.hid (HV4.out.push (dsT r R0 c l ((zerosL (rws c) (wds c)))) hb h1 h2); clear h1 h2 hb; clear x5 x6 x7 x0 x1 x2 x3 x4 c0 c1 c2 c3 c4; obtain ⟨x5, x6, x7, x0, x1, x2, x3, x4⟩ := box8 HV5.out.i4; obtain ⟨c0, c1, c2, c3, c4⟩ := box5 HV5.out.i3)
    | (go_at_call 14; (with_reducible refine (CNW.out _).mono ?_); rintro e w4 ⟨q, G0, rfl, h1, h2, hb⟩; have HV4 := Lib.hid (HV3.out.push (skT q G0 c l ((zerosL (rws c) (wds c)))) hb h1 h2); clear h1 h2 hb; clear x5 x6 x7 x0 x1 x2 x3 x4 c0 c1 c2 c3 c4; obtain ⟨x5, x6, x7, x0, x1, x2, x3, x4⟩ := box8 HV4.out.i3; obtain ⟨c0, c1, c2, c3, c4⟩ := box5 HV4.out.i2)
    | (go_at_call 14; (with_reducible refine (CNW.out _).mono ?_); rintro e w3 ⟨p, F0, rfl, h1, h2, hb⟩; have HV3 := Lib.hid (HV2.out.push (skT p F0 c l ((zerosL (rws c) (wds c)))) hb h1 h2); clear h1 h2 hb; clear x5 x6 x7 x0 x1 x2 x3 x4 c0 c1 c2 c3 c4; obtain ⟨x5, x6, x7, x0, x1, x2, x3, x4⟩ := box8 HV3.out.i2; obtain ⟨c0, c1, c2, c3, c4⟩ := box5 HV3.out.i1)
    | (go_at_call 13; (with_reducible refine (CA.out _).mono ?_); rintro e w2 ⟨rfl, hb⟩; have HV2 := Lib.hid ((HV1.out.up hb).push (boxT w2.heap.size 31 #[.int .i64 c.bt, .int .i64 c.rw, .int .i64 c.wd, .int .i64 c.md, .int .u64 c.sd]) (Lw.below_alloc (Below.refl _ _) _) (heap_alloc_new w2 _) (fun k hk => Nat.le_of_eq hk.symm)); clear hb; clear x5 x6 x7 x0 x1 x2 x3 x4; obtain ⟨x5, x6, x7, x0, x1, x2, x3, x4⟩ := box8 HV2.out.i1; obtain ⟨c0, c1, c2, c3, c4⟩ := box5 HV2.out.i0)
    | (go_at_call 10; (with_reducible refine (shown_any _).mono ?_); rintro e w1 ⟨rfl, hb⟩; have HV1 := Lib.hid (HBX.out.up hb); clear hb; obtain ⟨x5, x6, x7, x0, x1, x2, x3, x4⟩ := box8 HV1.out.i0))
  obtain ⟨gc, hgc⟩ : ∃ gc, w2.heap.size = gc := ⟨_, rfl⟩
  rw [hgc] at HV6 ⊢
  clear hgc HV5 HV4 HV3 HV2 HV1 x5 x6 x7 x0 x1 x2 x3 x4 c0 c1 c2 c3 c4
  go_loopw [12] (fun iv wr => ∃ (k : Nat) (F R : Nat → Prop), k ≤ 40 ∧ (k ≤ n0 ∨ k = 0) ∧ iv = .int .i64 k ∧ Have w wr [dsT s S0 c l ((zerosL (rws c) (wds c))), dsT r R c l (fedR c l (zerosL (rws c) (wds c)) (qs.take k)), skT q G0 c l ((zerosL (rws c) (wds c))), skT p F c l (fedR c l (zerosL (rws c) (wds c)) (qs.take k)), boxT gc 31 #[.int .i64 c.bt, .int .i64 c.rw, .int .i64 c.wd, .int .i64 c.md, .int .u64 c.sd], boxT w.heap.size 34 #[.int .i64 x.bt, .int .i64 x.rw, .int .i64 x.wd, .int .i64 x.md, .int .u64 x.sd, .int .i64 lv, .slice A n0 k0, .slice B n1 k1]]) (fun iv _ => 40 - (intOf iv).toNat)
  case atStart => exact ⟨0, F0, R0, by omega, .inr rfl, rfl, HV6.out⟩
  case round =>
    obtain ⟨k, F, R, hk1, hk2, rfl, hv⟩ := hrel
    have HVr := Lib.hid hv
    have hwb := hv.below
    clear hv
    have s0 := box_cell (i := 6) HVr.out.i5 rfl
    by_cases hlt : k < n0 ∧ k < 40
    · obtain ⟨hj1, hj2⟩ := hlt
      obtain ⟨u, hu1⟩ : ∃ u, qs[k]? = some u := ⟨_, List.getElem?_eq_getElem (by rw [HL.out]; omega)⟩
      have hnx := fedR_next c l (zerosL (rws c) (wds c)) hu1
      obtain ⟨ad, g, o, rfl, hadd, d1w, d2w, kb, db⟩ := HQ.out.at hu1
      obtain ⟨uk, ud⟩ := u
      simp only at d1w d2w kb db hnx
      have d1 := cell_up d1w hwb
      have d2 := cell_up d2w hwb
      obtain ⟨L0, hL0⟩ : ∃ L0, fedR c l (zerosL (rws c) (wds c)) (qs.take k) = L0 := ⟨_, rfl⟩
      rw [hL0] at HVr hnx
      obtain ⟨L1, hL1⟩ : ∃ L1, upRes c l L0 uk ud = L1 := ⟨_, rfl⟩
      have HNX : Hid (fedR c l (zerosL (rws c) (wds c)) (qs.take (k + 1)) = L1) := Lib.hid (by rw [hnx, hL1])
      have HD1 := Lib.hid d1w
      have HD2 := Lib.hid d2w
      clear hu1 hnx d1w d2w hwb hL0
      go_upto_region 13 with fail
      go_region_held3 (fun w' => w'.cell? ⟨w.heap.size, 6, none⟩ = some (.slice (some ad) n0 k0) ∧ w'.cell? ⟨g, o, none⟩ = some (.int .u64 uk) ∧ w'.cell? ⟨g, o + 1, none⟩ = some (.int .i64 ud)) (first | (refine ⟨?_, ?_, ?_⟩ <;> (first | (with_reducible assumption) | (with_reducible refine cell_up s0 ?_) | (with_reducible refine cell_up d1 ?_) | (with_reducible refine cell_up d2 ?_)) <;> repeat' (first | (with_reducible exact Below.refl _ _) | (with_reducible assumption) | (with_reducible refine below_over ?_ _ _) | (with_reducible refine Lw.below_alloc ?_ _) | (with_reducible refine Below.drew ?_) | (with_reducible refine below_drewN ?_ _) | (with_reducible refine Below.setCell ?_ ?_ _) | go_size))) (first
        | (go_at_call 16; (with_reducible refine (supd_any p F c l L0 uk ud _ (skI (HVr.out.up (by repeat' (first | (with_reducible exact Below.refl _ _) | (with_reducible assumption) | (with_reducible refine below_over ?_ _ _) | (with_reducible refine Lw.below_alloc ?_ _) | (with_reducible refine Below.drew ?_) | (with_reducible refine below_drewN ?_ _) | (with_reducible refine Below.setCell ?_ ?_ _) | go_size))).i3) kb.1 kb.2 db.1 db.2).mono ?_); rintro e w8 ⟨rfl, F8, hnp, hnk, hnf⟩; rw [hL1] at hnp; have HV8 := Lib.hid ((HVr.out.up (by repeat' (first | (with_reducible exact Below.refl _ _) | (with_reducible assumption) | (with_reducible refine below_over ?_ _ _) | (with_reducible refine Lw.below_alloc ?_ _) | (with_reducible refine Below.drew ?_) | (with_reducible refine below_drewN ?_ _) | (with_reducible refine Below.setCell ?_ ?_ _) | go_size))).turn_3 (skT p F8 c l (L1)) hnp hnk hnf); clear hnp hnk hnf; clear s0 d1 d2; have s0 := box_cell (i := 6) HV8.out.i5 rfl; have d1 := cell_up HD1.out HV8.out.below; have d2 := cell_up HD2.out HV8.out.below))
      all_goals go_upto_region 14 with fail
      all_goals go_region_held3 (fun w' => w'.cell? ⟨w.heap.size, 6, none⟩ = some (.slice (some ad) n0 k0) ∧ w'.cell? ⟨g, o, none⟩ = some (.int .u64 uk) ∧ w'.cell? ⟨g, o + 1, none⟩ = some (.int .i64 ud)) (first | (refine ⟨?_, ?_, ?_⟩ <;> (first | (with_reducible assumption) | (with_reducible refine cell_up s0 ?_) | (with_reducible refine cell_up d1 ?_) | (with_reducible refine cell_up d2 ?_)) <;> repeat' (first | (with_reducible exact Below.refl _ _) | (with_reducible assumption) | (with_reducible refine below_over ?_ _ _) | (with_reducible refine Lw.below_alloc ?_ _) | (with_reducible refine Below.drew ?_) | (with_reducible refine below_drewN ?_ _) | (with_reducible refine Below.setCell ?_ ?_ _) | go_size))) (first
        | (go_at_call 17; (with_reducible refine (rsupd_any r R c l L0 uk ud _ (dsI (HV8.out.up (by repeat' (first | (with_reducible exact Below.refl _ _) | (with_reducible assumption) | (with_reducible refine below_over ?_ _ _) | (with_reducible refine Lw.below_alloc ?_ _) | (with_reducible refine Below.drew ?_) | (with_reducible refine below_drewN ?_ _) | (with_reducible refine Below.setCell ?_ ?_ _) | go_size))).i1) kb.1 kb.2 db.1 db.2).mono ?_); rintro e w9 ⟨rfl, R9, hnp, hnk, hnf⟩; rw [hL1] at hnp; have HV9 := Lib.hid ((HV8.out.up (by repeat' (first | (with_reducible exact Below.refl _ _) | (with_reducible assumption) | (with_reducible refine below_over ?_ _ _) | (with_reducible refine Lw.below_alloc ?_ _) | (with_reducible refine Below.drew ?_) | (with_reducible refine below_drewN ?_ _) | (with_reducible refine Below.setCell ?_ ?_ _) | go_size))).turn_1 (dsT r R9 c l (L1)) hnp hnk hnf); clear hnp hnk hnf; clear s0 d1 d2; have s0 := box_cell (i := 6) HV9.out.i5 rfl; have d1 := cell_up HD1.out HV9.out.below; have d2 := cell_up HD2.out HV9.out.below))
      all_goals go_wp2
      all_goals go_roundw
      all_goals first
        | exact ⟨k + 1, F8, R9, by omega, .inl (by omega), by go_num, by rw [HNX.out]; first | exact HV9.out | exact HV9.out.up (by repeat' (first | (with_reducible exact Below.refl _ _) | (with_reducible assumption) | (with_reducible refine below_over ?_ _ _) | (with_reducible refine Lw.below_alloc ?_ _) | (with_reducible refine Below.drew ?_) | (with_reducible refine below_drewN ?_ _) | (with_reducible refine Below.setCell ?_ ?_ _) | go_size))⟩
        | (simp [intOf]; omega)
    · have hend : qs.take k = qs.take 40 := by
        rcases hk2 with h9 | h9
        · exact take_end (by rw [HL.out]; omega)
        · subst h9
          exact take_end (by rw [HL.out]; omega)
      rw [hend] at HVr
      have hcases : ((k : Int) < n0 ∧ ¬ (k : Int) < 40) ∨ ¬ (k : Int) < n0 := by omega
      clear hend hk2 hlt s0
      have s0 := box_cell (i := 6) HVr.out.i5 rfl
      rcases hcases with ⟨hc1, hc2⟩ | hc1
      · go_wp2
        obtain ⟨wo, rfl⟩ : ∃ wo, wo = wr := ⟨_, rfl⟩
        obtain ⟨ko, rfl⟩ : ∃ ko, ko = k := ⟨_, rfl⟩
        obtain ⟨Fo, rfl⟩ : ∃ Fo, Fo = F := ⟨_, rfl⟩
        obtain ⟨Ro, rfl⟩ : ∃ Ro, Ro = R := ⟨_, rfl⟩
        have HVS2 := HVr
        clear HVr hk1 s0
        go_loopw [13] (fun iv wr => ∃ (k : Nat) (F R : Nat → Prop), k ≤ 40 ∧ (k ≤ n1 ∨ k = 0) ∧ iv = .int .i64 k ∧ Have w wr [dsT s R c l (fedR c l (zerosL (rws c) (wds c)) (ps.take k)), dsT r Ro c l ((fedR c l (zerosL (rws c) (wds c)) (qs.take 40))), skT q F c l (fedR c l (zerosL (rws c) (wds c)) (ps.take k)), skT p Fo c l ((fedR c l (zerosL (rws c) (wds c)) (qs.take 40))), boxT gc 31 #[.int .i64 c.bt, .int .i64 c.rw, .int .i64 c.wd, .int .i64 c.md, .int .u64 c.sd], boxT w.heap.size 34 #[.int .i64 x.bt, .int .i64 x.rw, .int .i64 x.wd, .int .i64 x.md, .int .u64 x.sd, .int .i64 lv, .slice A n0 k0, .slice B n1 k1]]) (fun iv _ => 40 - (intOf iv).toNat)
        case atStart => exact ⟨0, G0, S0, by omega, .inr rfl, rfl, HVS2.out⟩
        case round =>
          obtain ⟨k, F, R, hk1, hk2, rfl, hv⟩ := hrel
          have HVr := Lib.hid hv
          have hwb := hv.below
          clear hv
          have s0 := box_cell (i := 7) HVr.out.i5 rfl
          by_cases hlt : k < n1 ∧ k < 40
          · obtain ⟨hj1, hj2⟩ := hlt
            obtain ⟨u, hu1⟩ : ∃ u, ps[k]? = some u := ⟨_, List.getElem?_eq_getElem (by rw [HL1.out]; omega)⟩
            have hnx := fedR_next c l (zerosL (rws c) (wds c)) hu1
            obtain ⟨ad, g, o, rfl, hadd, d1w, d2w, kb, db⟩ := HQ1.out.at hu1
            obtain ⟨uk, ud⟩ := u
            simp only at d1w d2w kb db hnx
            have d1 := cell_up d1w hwb
            have d2 := cell_up d2w hwb
            obtain ⟨L0, hL0⟩ : ∃ L0, fedR c l (zerosL (rws c) (wds c)) (ps.take k) = L0 := ⟨_, rfl⟩
            rw [hL0] at HVr hnx
            obtain ⟨L1, hL1⟩ : ∃ L1, upRes c l L0 uk ud = L1 := ⟨_, rfl⟩
            have HNX : Hid (fedR c l (zerosL (rws c) (wds c)) (ps.take (k + 1)) = L1) := Lib.hid (by rw [hnx, hL1])
            have HD1 := Lib.hid d1w
            have HD2 := Lib.hid d2w
            clear hu1 hnx d1w d2w hwb hL0
            go_upto_region 18 with fail
            go_region_held3 (fun w' => w'.cell? ⟨w.heap.size, 7, none⟩ = some (.slice (some ad) n1 k1) ∧ w'.cell? ⟨g, o, none⟩ = some (.int .u64 uk) ∧ w'.cell? ⟨g, o + 1, none⟩ = some (.int .i64 ud)) (first | (refine ⟨?_, ?_, ?_⟩ <;> (first | (with_reducible assumption) | (with_reducible refine cell_up s0 ?_) | (with_reducible refine cell_up d1 ?_) | (with_reducible refine cell_up d2 ?_)) <;> repeat' (first | (with_reducible exact Below.refl _ _) | (with_reducible assumption) | (with_reducible refine below_over ?_ _ _) | (with_reducible refine Lw.below_alloc ?_ _) | (with_reducible refine Below.drew ?_) | (with_reducible refine below_drewN ?_ _) | (with_reducible refine Below.setCell ?_ ?_ _) | go_size))) (first
              | (go_at_call 16; (with_reducible refine (supd_any q F c l L0 uk ud _ (skI (HVr.out.up (by repeat' (first | (with_reducible exact Below.refl _ _) | (with_reducible assumption) | (with_reducible refine below_over ?_ _ _) | (with_reducible refine Lw.below_alloc ?_ _) | (with_reducible refine Below.drew ?_) | (with_reducible refine below_drewN ?_ _) | (with_reducible refine Below.setCell ?_ ?_ _) | go_size))).i2) kb.1 kb.2 db.1 db.2).mono ?_); rintro e w8 ⟨rfl, F8, hnp, hnk, hnf⟩; rw [hL1] at hnp; have HV8 := Lib.hid ((HVr.out.up (by repeat' (first | (with_reducible exact Below.refl _ _) | (with_reducible assumption) | (with_reducible refine below_over ?_ _ _) | (with_reducible refine Lw.below_alloc ?_ _) | (with_reducible refine Below.drew ?_) | (with_reducible refine below_drewN ?_ _) | (with_reducible refine Below.setCell ?_ ?_ _) | go_size))).turn_2 (skT q F8 c l (L1)) hnp hnk hnf); clear hnp hnk hnf; clear s0 d1 d2; have s0 := box_cell (i := 7) HV8.out.i5 rfl; have d1 := cell_up HD1.out HV8.out.below; have d2 := cell_up HD2.out HV8.out.below))
            all_goals go_upto_region 19 with fail
            all_goals go_region_held3 (fun w' => w'.cell? ⟨w.heap.size, 7, none⟩ = some (.slice (some ad) n1 k1) ∧ w'.cell? ⟨g, o, none⟩ = some (.int .u64 uk) ∧ w'.cell? ⟨g, o + 1, none⟩ = some (.int .i64 ud)) (first | (refine ⟨?_, ?_, ?_⟩ <;> (first | (with_reducible assumption) | (with_reducible refine cell_up s0 ?_) | (with_reducible refine cell_up d1 ?_) | (with_reducible refine cell_up d2 ?_)) <;> repeat' (first | (with_reducible exact Below.refl _ _) | (with_reducible assumption) | (with_reducible refine below_over ?_ _ _) | (with_reducible refine Lw.below_alloc ?_ _) | (with_reducible refine Below.drew ?_) | (with_reducible refine below_drewN ?_ _) | (with_reducible refine Below.setCell ?_ ?_ _) | go_size))) (first
              | (go_at_call 17; (with_reducible refine (rsupd_any s R c l L0 uk ud _ (dsI (HV8.out.up (by repeat' (first | (with_reducible exact Below.refl _ _) | (with_reducible assumption) | (with_reducible refine below_over ?_ _ _) | (with_reducible refine Lw.below_alloc ?_ _) | (with_reducible refine Below.drew ?_) | (with_reducible refine below_drewN ?_ _) | (with_reducible refine Below.setCell ?_ ?_ _) | go_size))).i0) kb.1 kb.2 db.1 db.2).mono ?_); rintro e w9 ⟨rfl, R9, hnp, hnk, hnf⟩; rw [hL1] at hnp; have HV9 := Lib.hid ((HV8.out.up (by repeat' (first | (with_reducible exact Below.refl _ _) | (with_reducible assumption) | (with_reducible refine below_over ?_ _ _) | (with_reducible refine Lw.below_alloc ?_ _) | (with_reducible refine Below.drew ?_) | (with_reducible refine below_drewN ?_ _) | (with_reducible refine Below.setCell ?_ ?_ _) | go_size))).turn_0 (dsT s R9 c l (L1)) hnp hnk hnf); clear hnp hnk hnf; clear s0 d1 d2; have s0 := box_cell (i := 7) HV9.out.i5 rfl; have d1 := cell_up HD1.out HV9.out.below; have d2 := cell_up HD2.out HV9.out.below))
            all_goals go_wp2
            all_goals go_roundw
            all_goals first
              | exact ⟨k + 1, F8, R9, by omega, .inl (by omega), by go_num, by rw [HNX.out]; first | exact HV9.out | exact HV9.out.up (by repeat' (first | (with_reducible exact Below.refl _ _) | (with_reducible assumption) | (with_reducible refine below_over ?_ _ _) | (with_reducible refine Lw.below_alloc ?_ _) | (with_reducible refine Below.drew ?_) | (with_reducible refine below_drewN ?_ _) | (with_reducible refine Below.setCell ?_ ?_ _) | go_size))⟩
              | (simp [intOf]; omega)
          · have hend : ps.take k = ps.take 40 := by
              rcases hk2 with h9 | h9
              · exact take_end (by rw [HL1.out]; omega)
              · subst h9
                exact take_end (by rw [HL1.out]; omega)
            rw [hend] at HVr
            have hcases : ((k : Int) < n1 ∧ ¬ (k : Int) < 40) ∨ ¬ (k : Int) < n1 := by omega
            clear hend hk2 hlt s0
            have s0 := box_cell (i := 7) HVr.out.i5 rfl
            rcases hcases with ⟨hc1, hc2⟩ | hc1
            · skip
              go_wp2_with (first
                | (go_at_call 18; (with_reducible refine (CI1.out p Fo q F _ (skI HVr.out.i3) (skI HVr.out.i2)).mono ?_); rintro e wa ⟨rfl, hb⟩; have HVa := Lib.hid ((HVr.out.up hb).push (boxT wa.heap.size 26 #[.int .i64 P, .int .u64 Q]) (Lw.below_alloc (Below.refl _ _) _) (heap_alloc_new wa _) (fun k hk => Nat.le_of_eq hk.symm)); clear hb s0)
                | (go_at_call 19; (with_reducible refine (CI2.out r Ro s R _ (dsI HVa.out.i2) (dsI HVa.out.i1)).mono ?_); rintro e wb ⟨rfl, hb⟩; have HVb := Lib.hid ((HVa.out.up hb).push (boxT wb.heap.size 26 #[.int .i64 P, .int .u64 Q]) (Lw.below_alloc (Below.refl _ _) _) (heap_alloc_new wb _) (fun k hk => Nat.le_of_eq hk.symm)); clear hb; obtain ⟨u0, u1⟩ := box2 HVb.out.i1; obtain ⟨u2, u3⟩ := box2 HVb.out.i0))
              all_goals go_ret
              all_goals exact ⟨ret_bs (by first | rfl | (simp [*]; done)), (HVb.out.up (by repeat' (first | (with_reducible exact Below.refl _ _) | (with_reducible assumption) | (with_reducible refine below_over ?_ _ _) | (with_reducible refine Lw.below_alloc ?_ _) | (with_reducible refine Below.drew ?_) | (with_reducible refine below_drewN ?_ _) | (with_reducible refine Below.setCell ?_ ?_ _) | go_size))).below⟩
            · skip
              go_wp2_with (first
                | (go_at_call 18; (with_reducible refine (CI1.out p Fo q F _ (skI HVr.out.i3) (skI HVr.out.i2)).mono ?_); rintro e wa ⟨rfl, hb⟩; have HVa := Lib.hid ((HVr.out.up hb).push (boxT wa.heap.size 26 #[.int .i64 P, .int .u64 Q]) (Lw.below_alloc (Below.refl _ _) _) (heap_alloc_new wa _) (fun k hk => Nat.le_of_eq hk.symm)); clear hb s0)
                | (go_at_call 19; (with_reducible refine (CI2.out r Ro s R _ (dsI HVa.out.i2) (dsI HVa.out.i1)).mono ?_); rintro e wb ⟨rfl, hb⟩; have HVb := Lib.hid ((HVa.out.up hb).push (boxT wb.heap.size 26 #[.int .i64 P, .int .u64 Q]) (Lw.below_alloc (Below.refl _ _) _) (heap_alloc_new wb _) (fun k hk => Nat.le_of_eq hk.symm)); clear hb; obtain ⟨u0, u1⟩ := box2 HVb.out.i1; obtain ⟨u2, u3⟩ := box2 HVb.out.i0))
              all_goals go_ret
              all_goals exact ⟨ret_bs (by first | rfl | (simp [*]; done)), (HVb.out.up (by repeat' (first | (with_reducible exact Below.refl _ _) | (with_reducible assumption) | (with_reducible refine below_over ?_ _ _) | (with_reducible refine Lw.below_alloc ?_ _) | (with_reducible refine Below.drew ?_) | (with_reducible refine below_drewN ?_ _) | (with_reducible refine Below.setCell ?_ ?_ _) | go_size))).below⟩
      · go_wp2
        obtain ⟨wo, rfl⟩ : ∃ wo, wo = wr := ⟨_, rfl⟩
        obtain ⟨ko, rfl⟩ : ∃ ko, ko = k := ⟨_, rfl⟩
        obtain ⟨Fo, rfl⟩ : ∃ Fo, Fo = F := ⟨_, rfl⟩
        obtain ⟨Ro, rfl⟩ : ∃ Ro, Ro = R := ⟨_, rfl⟩
        have HVS2 := HVr
        clear HVr hk1 s0
        go_loopw [13] (fun iv wr => ∃ (k : Nat) (F R : Nat → Prop), k ≤ 40 ∧ (k ≤ n1 ∨ k = 0) ∧ iv = .int .i64 k ∧ Have w wr [dsT s R c l (fedR c l (zerosL (rws c) (wds c)) (ps.take k)), dsT r Ro c l ((fedR c l (zerosL (rws c) (wds c)) (qs.take 40))), skT q F c l (fedR c l (zerosL (rws c) (wds c)) (ps.take k)), skT p Fo c l ((fedR c l (zerosL (rws c) (wds c)) (qs.take 40))), boxT gc 31 #[.int .i64 c.bt, .int .i64 c.rw, .int .i64 c.wd, .int .i64 c.md, .int .u64 c.sd], boxT w.heap.size 34 #[.int .i64 x.bt, .int .i64 x.rw, .int .i64 x.wd, .int .i64 x.md, .int .u64 x.sd, .int .i64 lv, .slice A n0 k0, .slice B n1 k1]]) (fun iv _ => 40 - (intOf iv).toNat)
        case atStart => exact ⟨0, G0, S0, by omega, .inr rfl, rfl, HVS2.out⟩
        case round =>
          obtain ⟨k, F, R, hk1, hk2, rfl, hv⟩ := hrel
          have HVr := Lib.hid hv
          have hwb := hv.below
          clear hv
          have s0 := box_cell (i := 7) HVr.out.i5 rfl
          by_cases hlt : k < n1 ∧ k < 40
          · obtain ⟨hj1, hj2⟩ := hlt
            obtain ⟨u, hu1⟩ : ∃ u, ps[k]? = some u := ⟨_, List.getElem?_eq_getElem (by rw [HL1.out]; omega)⟩
            have hnx := fedR_next c l (zerosL (rws c) (wds c)) hu1
            obtain ⟨ad, g, o, rfl, hadd, d1w, d2w, kb, db⟩ := HQ1.out.at hu1
            obtain ⟨uk, ud⟩ := u
            simp only at d1w d2w kb db hnx
            have d1 := cell_up d1w hwb
            have d2 := cell_up d2w hwb
            obtain ⟨L0, hL0⟩ : ∃ L0, fedR c l (zerosL (rws c) (wds c)) (ps.take k) = L0 := ⟨_, rfl⟩
            rw [hL0] at HVr hnx
            obtain ⟨L1, hL1⟩ : ∃ L1, upRes c l L0 uk ud = L1 := ⟨_, rfl⟩
            have HNX : Hid (fedR c l (zerosL (rws c) (wds c)) (ps.take (k + 1)) = L1) := Lib.hid (by rw [hnx, hL1])
            have HD1 := Lib.hid d1w
            have HD2 := Lib.hid d2w
            clear hu1 hnx d1w d2w hwb hL0
            go_upto_region 18 with fail
            go_region_held3 (fun w' => w'.cell? ⟨w.heap.size, 7, none⟩ = some (.slice (some ad) n1 k1) ∧ w'.cell? ⟨g, o, none⟩ = some (.int .u64 uk) ∧ w'.cell? ⟨g, o + 1, none⟩ = some (.int .i64 ud)) (first | (refine ⟨?_, ?_, ?_⟩ <;> (first | (with_reducible assumption) | (with_reducible refine cell_up s0 ?_) | (with_reducible refine cell_up d1 ?_) | (with_reducible refine cell_up d2 ?_)) <;> repeat' (first | (with_reducible exact Below.refl _ _) | (with_reducible assumption) | (with_reducible refine below_over ?_ _ _) | (with_reducible refine Lw.below_alloc ?_ _) | (with_reducible refine Below.drew ?_) | (with_reducible refine below_drewN ?_ _) | (with_reducible refine Below.setCell ?_ ?_ _) | go_size))) (first
              | (go_at_call 16; (with_reducible refine (supd_any q F c l L0 uk ud _ (skI (HVr.out.up (by repeat' (first | (with_reducible exact Below.refl _ _) | (with_reducible assumption) | (with_reducible refine below_over ?_ _ _) | (with_reducible refine Lw.below_alloc ?_ _) | (with_reducible refine Below.drew ?_) | (with_reducible refine below_drewN ?_ _) | (with_reducible refine Below.setCell ?_ ?_ _) | go_size))).i2) kb.1 kb.2 db.1 db.2).mono ?_); rintro e w8 ⟨rfl, F8, hnp, hnk, hnf⟩; rw [hL1] at hnp; have HV8 := Lib.hid ((HVr.out.up (by repeat' (first | (with_reducible exact Below.refl _ _) | (with_reducible assumption) | (with_reducible refine below_over ?_ _ _) | (with_reducible refine Lw.below_alloc ?_ _) | (with_reducible refine Below.drew ?_) | (with_reducible refine below_drewN ?_ _) | (with_reducible refine Below.setCell ?_ ?_ _) | go_size))).turn_2 (skT q F8 c l (L1)) hnp hnk hnf); clear hnp hnk hnf; clear s0 d1 d2; have s0 := box_cell (i := 7) HV8.out.i5 rfl; have d1 := cell_up HD1.out HV8.out.below; have d2 := cell_up HD2.out HV8.out.below))
            all_goals go_upto_region 19 with fail
            all_goals go_region_held3 (fun w' => w'.cell? ⟨w.heap.size, 7, none⟩ = some (.slice (some ad) n1 k1) ∧ w'.cell? ⟨g, o, none⟩ = some (.int .u64 uk) ∧ w'.cell? ⟨g, o + 1, none⟩ = some (.int .i64 ud)) (first | (refine ⟨?_, ?_, ?_⟩ <;> (first | (with_reducible assumption) | (with_reducible refine cell_up s0 ?_) | (with_reducible refine cell_up d1 ?_) | (with_reducible refine cell_up d2 ?_)) <;> repeat' (first | (with_reducible exact Below.refl _ _) | (with_reducible assumption) | (with_reducible refine below_over ?_ _ _) | (with_reducible refine Lw.below_alloc ?_ _) | (with_reducible refine Below.drew ?_) | (with_reducible refine below_drewN ?_ _) | (with_reducible refine Below.setCell ?_ ?_ _) | go_size))) (first
              | (go_at_call 17; (with_reducible refine (rsupd_any s R c l L0 uk ud _ (dsI (HV8.out.up (by repeat' (first | (with_reducible exact Below.refl _ _) | (with_reducible assumption) | (with_reducible refine below_over ?_ _ _) | (with_reducible refine Lw.below_alloc ?_ _) | (with_reducible refine Below.drew ?_) | (with_reducible refine below_drewN ?_ _) | (with_reducible refine Below.setCell ?_ ?_ _) | go_size))).i0) kb.1 kb.2 db.1 db.2).mono ?_); rintro e w9 ⟨rfl, R9, hnp, hnk, hnf⟩; rw [hL1] at hnp; have HV9 := Lib.hid ((HV8.out.up (by repeat' (first | (with_reducible exact Below.refl _ _) | (with_reducible assumption) | (with_reducible refine below_over ?_ _ _) | (with_reducible refine Lw.below_alloc ?_ _) | (with_reducible refine Below.drew ?_) | (with_reducible refine below_drewN ?_ _) | (with_reducible refine Below.setCell ?_ ?_ _) | go_size))).turn_0 (dsT s R9 c l (L1)) hnp hnk hnf); clear hnp hnk hnf; clear s0 d1 d2; have s0 := box_cell (i := 7) HV9.out.i5 rfl; have d1 := cell_up HD1.out HV9.out.below; have d2 := cell_up HD2.out HV9.out.below))
            all_goals go_wp2
            all_goals go_roundw
            all_goals first
              | exact ⟨k + 1, F8, R9, by omega, .inl (by omega), by go_num, by rw [HNX.out]; first | exact HV9.out | exact HV9.out.up (by repeat' (first | (with_reducible exact Below.refl _ _) | (with_reducible assumption) | (with_reducible refine below_over ?_ _ _) | (with_reducible refine Lw.below_alloc ?_ _) | (with_reducible refine Below.drew ?_) | (with_reducible refine below_drewN ?_ _) | (with_reducible refine Below.setCell ?_ ?_ _) | go_size))⟩
              | (simp [intOf]; omega)
          · have hend : ps.take k = ps.take 40 := by
              rcases hk2 with h9 | h9
              · exact take_end (by rw [HL1.out]; omega)
              · subst h9
                exact take_end (by rw [HL1.out]; omega)
            rw [hend] at HVr
            have hcases : ((k : Int) < n1 ∧ ¬ (k : Int) < 40) ∨ ¬ (k : Int) < n1 := by omega
            clear hend hk2 hlt s0
            have s0 := box_cell (i := 7) HVr.out.i5 rfl
            rcases hcases with ⟨hc1, hc2⟩ | hc1
            · skip
              go_wp2_with (first
                | (go_at_call 18; (with_reducible refine (CI1.out p Fo q F _ (skI HVr.out.i3) (skI HVr.out.i2)).mono ?_); rintro e wa ⟨rfl, hb⟩; have HVa := Lib.hid ((HVr.out.up hb).push (boxT wa.heap.size 26 #[.int .i64 P, .int .u64 Q]) (Lw.below_alloc (Below.refl _ _) _) (heap_alloc_new wa _) (fun k hk => Nat.le_of_eq hk.symm)); clear hb s0)
                | (go_at_call 19; (with_reducible refine (CI2.out r Ro s R _ (dsI HVa.out.i2) (dsI HVa.out.i1)).mono ?_); rintro e wb ⟨rfl, hb⟩; have HVb := Lib.hid ((HVa.out.up hb).push (boxT wb.heap.size 26 #[.int .i64 P, .int .u64 Q]) (Lw.below_alloc (Below.refl _ _) _) (heap_alloc_new wb _) (fun k hk => Nat.le_of_eq hk.symm)); clear hb; obtain ⟨u0, u1⟩ := box2 HVb.out.i1; obtain ⟨u2, u3⟩ := box2 HVb.out.i0))
              all_goals go_ret
              all_goals exact ⟨ret_bs (by first | rfl | (simp [*]; done)), (HVb.out.up (by repeat' (first | (with_reducible exact Below.refl _ _) | (with_reducible assumption) | (with_reducible refine below_over ?_ _ _) | (with_reducible refine Lw.below_alloc ?_ _) | (with_reducible refine Below.drew ?_) | (with_reducible refine below_drewN ?_ _) | (with_reducible refine Below.setCell ?_ ?_ _) | go_size))).below⟩
            · skip
              go_wp2_with (first
                | (go_at_call 18; (with_reducible refine (CI1.out p Fo q F _ (skI HVr.out.i3) (skI HVr.out.i2)).mono ?_); rintro e wa ⟨rfl, hb⟩; have HVa := Lib.hid ((HVr.out.up hb).push (boxT wa.heap.size 26 #[.int .i64 P, .int .u64 Q]) (Lw.below_alloc (Below.refl _ _) _) (heap_alloc_new wa _) (fun k hk => Nat.le_of_eq hk.symm)); clear hb s0)
                | (go_at_call 19; (with_reducible refine (CI2.out r Ro s R _ (dsI HVa.out.i2) (dsI HVa.out.i1)).mono ?_); rintro e wb ⟨rfl, hb⟩; have HVb := Lib.hid ((HVa.out.up hb).push (boxT wb.heap.size 26 #[.int .i64 P, .int .u64 Q]) (Lw.below_alloc (Below.refl _ _) _) (heap_alloc_new wb _) (fun k hk => Nat.le_of_eq hk.symm)); clear hb; obtain ⟨u0, u1⟩ := box2 HVb.out.i1; obtain ⟨u2, u3⟩ := box2 HVb.out.i0))
              all_goals go_ret
              all_goals exact ⟨ret_bs (by first | rfl | (simp [*]; done)), (HVb.out.up (by repeat' (first | (with_reducible exact Below.refl _ _) | (with_reducible assumption) | (with_reducible refine below_over ?_ _ _) | (with_reducible refine Lw.below_alloc ?_ _) | (with_reducible refine Below.drew ?_) | (with_reducible refine below_drewN ?_ _) | (with_reducible refine Below.setCell ?_ ?_ _) | go_size))).below⟩
namespace innerTells
open Go.ChangeShapes Go.WideShapes Go.ChangeAt Go.Joins
set_option maxRecDepth 100000 in
theorem lifted (os : Os) (started : os.Started) (H : Type) (enc : TypeId × Value → H) :
    ReturnsInHanded {} Try.checked os 4 .any (Rows.innerTellsSpec.pre6 enc Try.prog Try.f4 Rows.innerTellsRow.domain false) (Rows.innerTellsSpec.post enc Try.prog Try.f4 false true false false) := by
  refine Lw.lifted (C := Try.checked) (B := 4) (by kernel_rfl) os started (by kernel_rfl) Try.func4
    (ChangeSpec.witness6 (enc := enc) (C := Try.checked) false ⟨#[], #[.agg #[.int .i64 0, .int .i64 0, .int .i64 0, .int .i64 0, .int .u64 0, .int .i64 0, .slice none 0 0, .slice none 0 0]], []⟩ 8 (by kernel_rfl) (by kernel_rfl) (by kernel_rfl) (by kernel_rfl)) rfl Try.underlying4 (by kernel_rfl) (by kernel_rfl) (by kernel_rfl) ?_ ?_
  · intro ds h
    rw [Try.params4] at h
    match ds, h with
    | [_], _ => rfl
  · intro W base args ds p hval hA
    rw [Try.params4] at hA hval
    obtain ⟨v0, vs0, d0, ds0, p0, q0, hargs, rfl, rfl, h0, r0⟩ := trodAll_cons hA
    obtain ⟨rfl, rfl, rfl⟩ := trodAll_nil r0
    obtain rfl : args = #[v0] := by cases args; simp_all
    obtain ⟨x0, lv0, A0, n0, k0, qs0, B0, m0, j0, ps0, rfl, ok0, lb0, hq0, hp0⟩ := open_two (hval 0 34 v0 rfl rfl) h0
    exact tells_law x0 lv0 A0 n0 k0 qs0 B0 m0 j0 ps0 W ok0 lb0 hq0 hp0
theorem over : Rows.innerTellsRow.holds Try.pinned (OpenSpec.ofChange Rows.innerTellsSpec) :=
  OpenClaim.holds_of_wide 4 Try.f4 rfl rfl rfl rfl rfl rfl rfl ⟨rfl, rfl, rfl, rfl, rfl⟩ rfl rfl rfl rfl rfl (by kernel_rfl) Try.func4 (by kernel_rfl)
    (of_decide_eq_true (by kernel_rfl)) (by unfold Func.isWrapper; first | (rw [if_pos (by decide +kernel)]; kernel_rfl) | (rw [if_neg (by decide +kernel)]; exact ⟨rfl, rfl⟩))
    (fun os started H enc _ => lifted os started H enc)
theorem proved : Rows.InnerTellsSaid :=
  over
#print axioms proved
end innerTells
end Go.Proofs.Ythecgkgnngpikaa.Inn
