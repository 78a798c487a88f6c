/- The statement QuantLoaded of layer 17 holds. Printed by wip/gen/qnt7.py. -/
import Derived.Test.YtiblpdjehknbcaaGreatMe
import Derived.Test.YtiblpdjehknbcaaGreatMi
import Derived.Test.YtiblpdjehknbcaaGreatQl
import Derived.Test.YtiblpdjehknbcaaGreatQm
import Derived.Test.YtiblpdjehknbcaaGreatQn
import Derived.Test.YtiblpdjehknbcaaGreatQo
import Derived.Deep.LoopGhost
import Derived.Deep.RegionHeld3
import Derived.Deep.DeepCutAuto
import Derived.Deep.QuietTactic
import Derived.BigQuiet
namespace Go.Proofs.YtiblpdjehknbcaaGreat.Qnt
open Go Go.RowKit Lw Grd Lin Con Shp Sk Exa Lev Stk Pcs Spn Go.Shelf
set_option linter.unusedVariables false
set_option linter.unusedSimpArgs false
theorem top_len {w : World} {p : Addr} {F : Nat → Prop} {c : Cfg} {sts : List LS} (h : ST w p F c sts) {n : Nat} (hn : (n : Int) = c.bt) {st : LS} (hs : sts[n]? = some st) : st.fl.length = 1 := by
  obtain ⟨v, Q, hE⟩ := st_lvl h hs
  have hr := h.right.1
  have h1 := hE.1
  rw [hn, Shp.exact_top hr] at h1
  cases st with
  | A L =>
    obtain ⟨q, e, h2⟩ := hE.2
    have h3 := h2.size.1
    rw [hn, keys_top hr] at h3
    show L.length = 1
    omega
  | S L => exact absurd h1.symm (by simp [LS.ar])
theorem dk_lvl9 {w : World} {b0 : Nat} {F : Nat → Prop} {c : Cfg} {sts : List LS} (h : DK w ⟨b0, 0, none⟩ F c sts) {n : Nat} {st : LS} (hs : sts[n]? = some st) : ∃ (g0 N cap0 : Nat) (p0 : Addr) (Q0 : Nat → Prop), w.cell? ⟨b0, 5, none⟩ = some (.slice (some ⟨g0, 0, none⟩) N cap0) ∧ n < N ∧ w.cell? ⟨g0, n, none⟩ = some (.pointer (some p0)) ∧ DLV w p0 Q0 c (n : Int) st ∧ (∀ k, Q0 k → F k) ∧ (¬ Q0 b0 ∧ ¬ Q0 g0) ∧
    (∀ (w' : World) (Q' : Nat → Prop) (st' : LS), DLV w' p0 Q' c (n : Int) st' → Kept Q0 w w' → (∀ k, Q' k → Q0 k ∨ w.heap.size ≤ k) → ∃ F', DK w' ⟨b0, 0, none⟩ F' c (sts.set n st') ∧ Kept F w w' ∧ (∀ q, F' q → F q ∨ w.heap.size ≤ q)) := by
  obtain ⟨hr, hc, hl, b1, B0, hdr0, vals0, ts0, e0, hrow0, hI, rfl⟩ := h
  injection e0 with e0
  subst e0
  have hH := Hold.start hI
  obtain ⟨g0, cap0, rfl, hcs⟩ := ownD_cell (hH.i (t := ownT B0 49 hdr0 vals0) (by simp)) (by have := hrow0.lv; omega)
  obtain ⟨p0, Q0, e1, e2, e3⟩ := dk_at hrow0 hH hs
  have hn := (List.getElem?_eq_some_iff.1 hs).1
  have hm3 : dlT (.pointer (some p0)) Q0 c (n : Int) st ∈ ts0 := List.mem_of_getElem? e3
  refine ⟨g0, vals0.length, cap0, p0, Q0, box_cell (hH.i (t := dkB b0 c (.slice (some ⟨g0, 0, none⟩) vals0.length cap0)) (by simp)) (i := 5) rfl, by rw [hrow0.lv]; exact hn, hcs n _ e1, e2, fun k hk => ⟨dlT (.pointer (some p0)) Q0 c (n : Int) st, List.mem_cons_of_mem _ (List.mem_cons_of_mem _ hm3), hk⟩, ⟨fun h1 => hI.2.1 _ (List.mem_cons_of_mem _ hm3) b0 rfl h1, fun h1 => hI.2.2.1 _ hm3 g0 rfl h1⟩, fun w' Q' st' h1 h2 h3 => ?_⟩
  have h4 := Hold.set (pre := [dkB b0 c (.slice (some ⟨g0, 0, none⟩) vals0.length cap0), ownT B0 49 (.slice (some ⟨g0, 0, none⟩) vals0.length cap0) vals0]) (post := []) (by simpa using hH) e3 (dlT (.pointer (some p0)) Q' c (n : Int) st') ⟨p0, rfl, h1⟩ h2 h3
  have h5 := dk_of hr hc (by rw [List.length_set]; exact hl) (hrow0.put e1 Q' st') (by simpa using h4)
  exact ⟨_, h5.1, h5.2.1, h5.2.2⟩
set_option maxRecDepth 100000 in
set_option maxHeartbeats 40000000 in
theorem loaded_law (x : Cfg) (A : Option Addr) (n0 k0 : Nat) (zs : List Int) (a : Int) (w : World) (hx : x.Ok) (hA : A = none → n0 = 0 ∧ k0 = 0) (hnc : n0 ≤ k0) (hcm : k0 ≤ maxLen) (hrd : Rd .i64 w A zs) (hlz : zs.length = n0) (hz : In64 zs) (ka : -9223372036854775808 ≤ a) (kb9 : a ≤ 9223372036854775807) :
    Calls Tryz.prog 4 #[.agg #[.int .i64 x.bt, .int .i64 x.rw, .int .i64 x.wd, .int .i64 x.md, .int .u64 x.sd], .slice A n0 k0, .int .i64 a] w fun e w' => e = .returned (.bool true) ∧ Below w.heap.size w w' := by
  obtain ⟨c, hC⟩ : ∃ c, anyC x 4 5 = c := ⟨_, rfl⟩
  have hr := any_right x 4 5 (by omega) (by omega) (by omega) (by omega)
  have hco := any_ok x hx 4 5 (by omega) (by omega) (by omega) (by omega)
  have CA := Lib.hid (fun w => rany_at x 4 5 c w hx (by omega) (by omega) (by omega) (by omega) hC)
  rw [hC] at hr hco
  have CNW := Lib.hid (fun w => cs_new c w hco hr)
  have CND := Lib.hid (fun w => dk_new c w hco hr)
  have HR := Lib.hid hr
  have hbt := hr.1
  have hbt2 := hr.2.1
  obtain ⟨BB, hBB⟩ : ∃ B : Nat, (B : Int) = c.bt := ⟨c.bt.toNat, by omega⟩
  have HBB := Lib.hid hBB
  have hb59 : BB ≤ 59 := by omega
  have HRD := Lib.hid hrd
  have HLZ := Lib.hid hlz
  have HZ := Lib.hid hz
  have HNC := Lib.hid hnc
  have HCM := Lib.hid hcm
  have HAN := Lib.hid hA
  unfold maxLen at hcm
  have HN64 : Hid ((n0 : Int) ≤ 9223372036854775807) := Lib.hid (by omega)
  have HBX : Hid (Have w (w.alloc (.cells #[.int .i64 x.bt, .int .i64 x.rw, .int .i64 x.wd, .int .i64 x.md, .int .u64 x.sd] 24)) [boxT w.heap.size 24 #[.int .i64 x.bt, .int .i64 x.rw, .int .i64 x.wd, .int .i64 x.md, .int .u64 x.sd]]) := Lib.hid (box_new w _ _)
  clear hr hco hx hC hbt hbt2 hBB hrd hlz hz hnc hcm hA
  go_enter Tryz.func4, Tryz.ntmps4
  go_wp2_with (first
    | (go_at_call 10; (with_reducible refine (CND.out _).mono ?_); rintro e w5 ⟨r, R0, rfl, hsk, hfr, hb⟩; have HV5 := Lib.hid (HV4.out.push (dkT r R0 c (stsOf c [])) hb hsk hfr); clear hsk hfr hb)
    | (go_at_call 9; (with_reducible refine (CNW.out _).mono ?_); rintro e w4 ⟨p, F0, rfl, hsk, hfr, hb⟩; have HV4 := Lib.hid (HV3.out.push (stT p F0 c (stsOf c [])) hb hsk hfr); clear hsk hfr hb; obtain ⟨y0, y1, y2, y3, y4⟩ := box5 HV4.out.i1)
    | (go_at_call 8; (with_reducible refine (CA.out _).mono ?_); rintro e w2 ⟨rfl, hb⟩; have HV2 := Lib.hid (HV1.out.up hb); clear x0 x1 x2 x3 x4; have HV3 := Lib.hid (HV2.out.push (boxT w2.heap.size 24 #[.int .i64 c.bt, .int .i64 c.rw, .int .i64 c.wd, .int .i64 c.md, .int .u64 c.sd]) (Lw.below_alloc (Below.refl _ _) _) (heap_alloc_new w2 _) (fun k hk => Nat.le_of_eq hk.symm)); clear hb; obtain ⟨y0, y1, y2, y3, y4⟩ := box5 HV3.out.i0)
    | (go_at_call 7; (with_reducible refine (shown_any _).mono ?_); rintro e w1 ⟨rfl, hb⟩; have HV1 := Lib.hid (HBX.out.up hb); clear hb; obtain ⟨x0, x1, x2, x3, x4⟩ := box5 HV1.out.i0))
  obtain ⟨gc, hgc⟩ : ∃ g1, w2.heap.size = g1 := ⟨_, rfl⟩
  rw [hgc] at HV5 ⊢
  obtain ⟨b0, rfl⟩ := dk_ptr (dkI HV5.out.i0)
  have HVS : Hid (Have w w5 [stT p F0 c (stsOf c []), dkT ⟨b0, 0, none⟩ R0 c (stsOf c []), boxT gc 24 #[.int .i64 c.bt, .int .i64 c.rw, .int .i64 c.wd, .int .i64 c.md, .int .u64 c.sd], boxT w.heap.size 24 #[.int .i64 x.bt, .int .i64 x.rw, .int .i64 x.wd, .int .i64 x.md, .int .u64 x.sd]]) := Lib.hid (Have.perm (List.Perm.swap _ _ _) HV5.out)
  clear hgc y0 y1 y2 y3 y4 HV1 HV2 HV3 HV4 HV5
  go_loopw [12, 13] (fun av lv wr => ∃ (n at0 : Nat) (F R : Nat → Prop) (sts : List LS), n ≤ BB + 1 ∧ at0 ≤ n * 1152 ∧ av = .int .i64 (at0 : Int) ∧ lv = .int .i64 (n : Int) ∧ Have w wr [stT p F c sts, dkT ⟨b0, 0, none⟩ R c sts, boxT gc 24 #[.int .i64 c.bt, .int .i64 c.rw, .int .i64 c.wd, .int .i64 c.md, .int .u64 c.sd], boxT w.heap.size 24 #[.int .i64 x.bt, .int .i64 x.rw, .int .i64 x.wd, .int .i64 x.md, .int .u64 x.sd]]) (fun _ lv _ => BB + 1 - (intOf lv).toNat)
  case atStart => exact ⟨0, 0, F0, R0, _, Nat.zero_le _, Nat.zero_le _, rfl, rfl, HVS.out⟩
  case round =>
    obtain ⟨n, at0, F, R, sts, hn1, hat, rfl, rfl, hv⟩ := hrel
    have HVr := Lib.hid hv
    clear hv
    have hbx := box_cell (i := 0) (v := .int .i64 c.bt) HVr.out.i2 rfl
    have hrt := (stI HVr.out.i0).right
    have HAT := Lib.hid hat
    by_cases hlt : n ≤ BB
    · have hle : (n : Int) ≤ c.bt := by have := HBB.out; omega
      obtain ⟨st, hst⟩ : ∃ st, sts[n]? = some st := ⟨_, List.getElem?_eq_getElem (by have := hrt.2.2; omega)⟩
      obtain ⟨v9, Q9, hE9⟩ := st_lvl (stI HVr.out.i0) hst
      have HIN := Lib.hid (elv_in hE9)
      have hlen9 := ls_len (stI HVr.out.i0) hst
      obtain ⟨N1, hN1⟩ : ∃ N1, st.fl.length = N1 := ⟨_, rfl⟩
      rw [hN1] at hlen9
      have HN1 := Lib.hid hN1
      have HST := Lib.hid hst
      have HNB := Lib.hid hlt
      obtain ⟨g0, N0, cap0, p0, Q0, e5, hnN, e6, hEL, hQ0, -⟩ := dk_lvl (dkI HVr.out.i1) hst
      have hnN2 : (n : Int) < (N0 : Int) := by omega
      have HEL := Lib.hid hEL
      clear hrt hE9 hN1 hst hEL hQ0 hat
      go_upto_region 12 with (go_at_call 18; (with_reducible refine (dvm_cells p0 Q0 c (n : Int) st _ HEL.out).mono ?_); rintro e w1 ⟨gm, nm, capm, rfl, hm, hlm, hcm1, hcm2, hgm, hb⟩; rw [HN1.out] at hlm; subst hlm; have HV1 := Lib.hid (HVr.out.push (midT gm st.fl) hb hm (fun k hk => by rw [show k = gm from hk]; exact hgm)); have HGM := Lib.hid hgm; clear hm hb)
      clear e5 e6 hnN hnN2 hbx hle hlt hgm
      obtain ⟨wo, rfl⟩ : ∃ wo, wo = wr := ⟨_, rfl⟩
      go_wp2
      go_loopw [12, 15] (fun av iv wi => ∃ (k : Nat) (zc : List Int), k ≤ N1 ∧ iv = .int .i64 (k : Int) ∧ av = .int .i64 ((at0 : Int) + (k : Int)) ∧ zc.length = N1 ∧ In64 zc ∧ Have w wi [midT gm zc, stT p F c sts, dkT ⟨b0, 0, none⟩ R c sts, boxT gc 24 #[.int .i64 c.bt, .int .i64 c.rw, .int .i64 c.wd, .int .i64 c.md, .int .u64 c.sd], boxT w.heap.size 24 #[.int .i64 x.bt, .int .i64 x.rw, .int .i64 x.wd, .int .i64 x.md, .int .u64 x.sd]]) (fun _ iv _ => N1 - (intOf iv).toNat)
      case atStart => exact ⟨0, st.fl, Nat.zero_le _, rfl, by simp, HN1.out, HIN.out, HV1.out⟩
      case round =>
        obtain ⟨k, zc, hk, rfl, rfl, hzl, hzi, hv⟩ := hrel
        have HVi := Lib.hid hv
        have HZL := Lib.hid hzl
        have HZI := Lib.hid hzi
        clear hv hzl hzi
        by_cases hlt2 : k < N1
        · have u1 : wrap64 ((at0 : Int) + (k : Int) + 1) = (at0 : Int) + ((k + 1 : Nat) : Int) := by rw [IntWalk.wrap64_in _ ⟨by have := HAT.out; omega, by have := HAT.out; omega⟩]; omega
          have u2 : ¬ (at0 : Int) + (k : Int) < 0 := by omega
          have u3 : 0 ≤ (at0 : Int) + (k : Int) := by omega
          have u4 : ((at0 : Int) + (k : Int)).toNat = at0 + k := by omega
          have U1 := Lib.hid u1
          by_cases hin : at0 + k < n0 ∧ at0 + k < 60
          · obtain ⟨i1, i2⟩ := hin
            have j1 : (at0 : Int) + (k : Int) < (n0 : Int) := by omega
            have j2 : (at0 : Int) + (k : Int) < 60 := by omega
            obtain ⟨z, hz1⟩ : ∃ z, zs[at0 + k]? = some z := ⟨_, List.getElem?_eq_getElem (by rw [HLZ.out]; exact i1)⟩
            have hzb := HZ.out z (List.mem_of_getElem? hz1)
            obtain ⟨ad, rfl, hcz⟩ := HRD.out _ _ hz1
            have d1 := cell_up hcz HVi.out.below
            obtain ⟨vj, hvj⟩ : ∃ vj, zc[k]? = some vj := ⟨_, List.getElem?_eq_getElem (by rw [HZL.out]; exact hlt2)⟩
            have xm := (midI HVi.out.i0).cell hvj
            rw [Nat.zero_add] at xm
            have zm := (midI HVi.out.i0).frozen k
            clear hz1 hcz hvj i1 i2
            go_wp2
            go_roundw
            case rel => exact ⟨k + 1, zc.set k z, by omega, by go_num, (by first | (refine congrArg (Value.int .i64) ?_; omega) | (rw [← U1.out])), by rw [List.length_set]; exact HZL.out, in64_set HZI.out k hzb.1 hzb.2, HVi.out.turn_0 (midT gm (zc.set k z)) (by have h9 := (midI HVi.out.i0).set k z; rw [Nat.zero_add] at h9; exact h9) (Kept.set (F := (midT gm zc).F) (Kept.refl _ _) (.inl rfl) k _) (fun k hk => .inl hk)⟩
            case measure => simp [intOf]; omega
          · have hcs : ¬ (at0 : Int) + (k : Int) < (n0 : Int) ∨ ((at0 : Int) + (k : Int) < (n0 : Int) ∧ ¬ (at0 : Int) + (k : Int) < 60) := by omega
            clear hin
            rcases hcs with j1 | ⟨j1, j2⟩
            all_goals go_wp2
            all_goals go_roundw
            all_goals first
              | exact ⟨k + 1, zc, by omega, by go_num, (by first | (refine congrArg (Value.int .i64) ?_; omega) | (rw [← U1.out])), HZL.out, HZI.out, HVi.out⟩
              | (simp [intOf]; omega)
        · obtain rfl : k = N1 := by omega
          clear hlt2 hk
          obtain ⟨g2, N2, cap2, p2, Q2, e5, hnN, e6, hEL, hQ2, hput⟩ := dk_lvl (dkI HVi.out.i2) HST.out
          have hnN2 : (n : Int) < (N2 : Int) := by omega
          have HPUT := Lib.hid hput
          have CLD := Lib.hid (dv_load p2 Q2 c (n : Int) st ⟨gm, 0, none⟩ k capm zc wr hEL (midI HVi.out.i0).rd HZL.out HZI.out HN1.out.symm (fun h => HVi.out.apart (u := dkT ⟨b0, 0, none⟩ R c sts) (by simp) gm rfl (hQ2 gm h)))
          clear hEL hQ2 hput
          go_upto_region 19 with (go_at_call 19; (with_reducible refine (CLD.out).mono ?_); rintro e w3 ⟨rfl, Q3, st3, h1, h2, -, h4, h5⟩; obtain ⟨R3, f1, f2, f3⟩ := HPUT.out w3 Q3 st3 h1 h4 h5; have HV3 := Lib.hid (HVi.out.turn_2 (dkT ⟨b0, 0, none⟩ R3 c (sts.set n st3)) f1 f2 f3); have HF3 := Lib.hid h2; clear h1 h2 h4 h5 f1 f2 f3)
          have CLS := Lib.hid (cs_load p F c sts n st ⟨gm, 0, none⟩ k capm zc w3 (stI HV3.out.i1) HST.out (midI HV3.out.i0).rd HZL.out HZI.out HN1.out.symm (fun h => HV3.out.apart (u := stT p F c sts) (by simp) gm rfl h))
          clear e5 e6 hnN hnN2
          go_wp2_with (go_at_call 20; (with_reducible refine (CLS.out).mono ?_); rintro e w4 ⟨rfl, F4, st4, h1, h2, h3, h4⟩; have HV4 := Lib.hid (HV3.out.turn_1 (stT p F4 c (sts.set n st4)) h1 h3 h4); have HF4 := Lib.hid h2; clear h1 h2 h3 h4)
          have hsn : n < sts.length := (List.getElem?_eq_some_iff.1 HST.out).1
          obtain ⟨-, -, -, p5, Q5, -, -, -, hD5, -, -⟩ := dk_lvl (dkI HV4.out.i2) (n := n) (st := st3) (by rw [List.getElem?_set_self hsn])
          obtain ⟨v6, Q6, hE6⟩ := st_lvl (stI HV4.out.i1) (n := n) (st := st4) (by rw [List.getElem?_set_self hsn])
          have hss : st3 = st4 := ls_eq hD5 hE6 (HF3.out.trans HF4.out.symm)
          subst hss
          have HVE : Hid (Have w w4 [stT p F4 c (sts.set n st3), dkT ⟨b0, 0, none⟩ R3 c (sts.set n st3), boxT gc 24 #[.int .i64 c.bt, .int .i64 c.rw, .int .i64 c.wd, .int .i64 c.md, .int .u64 c.sd], boxT w.heap.size 24 #[.int .i64 x.bt, .int .i64 x.rw, .int .i64 x.wd, .int .i64 x.md, .int .u64 x.sd]]) := Lib.hid HV4.out.drop_0
          clear hD5 hE6 hsn
          go_roundw
          case rel => exact ⟨n + 1, at0 + k, F4, R3, sts.set n st3, by have := HNB.out; omega, by have := HAT.out; omega, (by first | rfl | (refine congrArg (Value.int .i64) ?_; omega)), by go_num, HVE.out⟩
          case measure => have := HNB.out; simp [intOf]; omega
    · have hnb : n = BB + 1 := by omega
      have hle : ¬ (n : Int) ≤ c.bt := by have := HBB.out; omega
      have hnB2 : decide ((n : Int) ≤ c.bt) = false := decide_eq_false hle
      clear hlt hat hn1
      obtain ⟨c0, c1, c2, c3, c4⟩ := box5 HVr.out.i2
      by_cases hn0 : n0 = 0
      · subst hn0
        clear hbx c1 c2 c3 c4 hrt hnb
        go_upto_region 21 with fail
        go_quiet (fail)
        have HIN9 : Hid (∀ n i : Int, -9223372036854775808 ≤ spV c sts n i ∧ spV c sts n i ≤ 9223372036854775807) := Lib.hid (fun n i => sp_in16 (stI HVr.out.i0) n i)
        have CQ := Lib.hid (fun w hs => qn_quant p F c sts a w hs ka kb9)
        have DQ := Lib.hid (fun w hs => rquant_any ⟨b0, 0, none⟩ R c sts a w hs HIN9.out ka kb9)
        obtain ⟨E, hE⟩ : ∃ v, qnC c (fun L i => spV c sts (L : Int) i) a = v := ⟨_, rfl⟩
        obtain ⟨V, hV⟩ : ∃ v, qnV c (fun L i => spV c sts (L : Int) i) a = v := ⟨_, rfl⟩
        rw [hE, hV] at CQ DQ
        clear hE hV
        go_wp2_with (first
          | (go_at_call 14; (with_reducible refine (DQ.out _ (dkI HVa.out.i1)).mono ?_); rintro e wb ⟨rfl, hb⟩; have HVb := Lib.hid (HVa.out.up hb); clear hb)
          | (go_at_call 13; (with_reducible refine (CQ.out _ (stI (HVr.out.up (by repeat' (first | (with_reducible exact Below.refl _ _) | (with_reducible assumption) | (with_reducible refine below_over ?_ _ _) | (with_reducible refine Lw.below_alloc ?_ _) | (with_reducible refine Below.drew ?_) | (with_reducible refine below_drewN ?_ _) | (with_reducible refine Below.setCell ?_ ?_ _) | go_size))).i0)).mono ?_); rintro e wa ⟨rfl, hb⟩; have HVa := Lib.hid ((HVr.out.up (by repeat' (first | (with_reducible exact Below.refl _ _) | (with_reducible assumption) | (with_reducible refine below_over ?_ _ _) | (with_reducible refine Lw.below_alloc ?_ _) | (with_reducible refine Below.drew ?_) | (with_reducible refine below_drewN ?_ _) | (with_reducible refine Below.setCell ?_ ?_ _) | go_size))).up hb); clear hb))
        go_ret
        exact ⟨ret_bs (by first | rfl | (simp [*]; done)), HVb.out.below⟩
      · obtain ⟨m, rfl⟩ : ∃ m, n0 = m + 1 := ⟨n0 - 1, by omega⟩
        clear hbx c1 c2 c3 c4 hn0
        have hsz := hrt.2.2
        obtain ⟨st, hst⟩ : ∃ st, sts[BB]? = some st := ⟨_, List.getElem?_eq_getElem (by have := HBB.out; omega)⟩
        have hl1 := top_len (stI HVr.out.i0) HBB.out hst
        obtain ⟨z, hz1⟩ : ∃ z, zs[m]? = some z := ⟨_, List.getElem?_eq_getElem (by rw [HLZ.out]; omega)⟩
        have hzb := HZ.out z (List.mem_of_getElem? hz1)
        obtain ⟨ad, rfl, hcz⟩ := HRD.out _ _ hz1
        have HCZ := Lib.hid hcz
        have HZB := Lib.hid hzb
        have HL1 := Lib.hid hl1
        have HST := Lib.hid hst
        have j1 : IntKind.i64.wrap (m : Int) = (m : Int) := IntWalk.i64_in _ ⟨by omega, by have := HN64.out; omega⟩
        have j2 : (0 : Int) ≤ (m : Int) := by omega
        have j3 : ¬ (m : Int) < 0 := by omega
        have j4 : (m : Int) ≤ (m : Int) + 1 := by omega
        have j5 : (0 : Int) < (m : Int) + 1 := by omega
        have j6 : (m : Int) ≤ (k0 : Int) := by have := HNC.out; omega
        have j7 : (m : Int) + 1 ≤ (k0 : Int) := by have := HNC.out; omega
        have j8 : m + 1 ≤ k0 := HNC.out
        have j9 : ¬ k0 = m := by omega
        have HRX : Hid (∀ X : World, Below w.heap.size w X → Rd .i64 X (some (ad.add m)) [z]) := Lib.hid (fun X hX j v hj => by
          cases j with
          | zero =>
            simp at hj
            subst hj
            exact ⟨_, rfl, by rw [addr_z]; exact cell_up HCZ.out hX⟩
          | succ j => simp at hj)
        have HZX : Hid (In64 [z]) := Lib.hid (fun v hv => by rw [List.mem_singleton.1 hv]; exact HZB.out)
        have hap : ∀ k, F k → ¬ k = (ad.add m).block := fun k hk e => by
          have h1 := (HVr.out.one (stT p F c sts) (by simp)).2 k hk
          have h2 := cell_lt HCZ.out
          omega
        have hap2 : ∀ k, R k → ¬ k = (ad.add m).block := fun k hk e => by
          have h1 := (HVr.out.one (dkT ⟨b0, 0, none⟩ R c sts) (by simp)).2 k hk
          have h2 := cell_lt HCZ.out
          omega
        have HAP2 := Lib.hid hap2
        have CL := Lib.hid (fun X (hX : Below wr.heap.size wr X) => cs_load p F c sts BB st (ad.add m) 1 (k0 - m) [z] X (stI (HVr.out.up hX).i0) HST.out (HRX.out X (HVr.out.up hX).below) rfl HZX.out HL1.out.symm (fun h => hap _ h rfl))
        clear hrt hnb hsz hst hl1 hz1 hzb hcz hap hap2
        go_upto_region 21 with fail
        rw [← HBB.out] at c0
        go_region_held3 (fun w' => w'.cell? ⟨gc, 0, none⟩ = some (.int .i64 (BB : Int))) (first | (with_reducible assumption) | (with_reducible refine cell_up c0 ?_ <;> (repeat' (first | (with_reducible exact Below.refl _ _) | (with_reducible assumption) | (with_reducible refine below_over ?_ _ _) | (with_reducible refine Lw.below_alloc ?_ _) | (with_reducible refine Below.drew ?_) | (with_reducible refine below_drewN ?_ _) | (with_reducible refine Below.setCell ?_ ?_ _) | go_size)))) (first | (go_at_call 20; (with_reducible refine (CL.out _ (by repeat' (first | (with_reducible exact Below.refl _ _) | (with_reducible assumption) | (with_reducible refine below_over ?_ _ _) | (with_reducible refine Lw.below_alloc ?_ _) | (with_reducible refine Below.drew ?_) | (with_reducible refine below_drewN ?_ _) | (with_reducible refine Below.setCell ?_ ?_ _) | go_size))).mono ?_); rintro e w6 ⟨rfl, F6, st6, h1, h2, h3, h4⟩; have HV6 := Lib.hid ((HVr.out.up (by repeat' (first | (with_reducible exact Below.refl _ _) | (with_reducible assumption) | (with_reducible refine below_over ?_ _ _) | (with_reducible refine Lw.below_alloc ?_ _) | (with_reducible refine Below.drew ?_) | (with_reducible refine below_drewN ?_ _) | (with_reducible refine Below.setCell ?_ ?_ _) | go_size))).turn_0 (stT p F6 c (sts.set BB st6)) h1 h3 h4); have HF6 := Lib.hid h2; clear h1 h2 h3 h4 c0; obtain ⟨c0, _, _, _, _⟩ := box5 HV6.out.i2; rw [← HBB.out] at c0))
        go_upto_region 24 with fail
        have HV6d := Lib.hid (HV6.out.up (Below.drew (Below.refl _ w6)))
        obtain ⟨g0, N0, cap0, p0, Q0, e5, hnN, e6, hEL, hQ0, hap9, hput⟩ := dk_lvl9 (dkI HV6d.out.i1) HST.out
        have HAP9 := Lib.hid hap9
        have HPUT := Lib.hid hput
        have hnN2 : (BB : Int) < (N0 : Int) := by omega
        have CD := Lib.hid (dv_load p0 Q0 c (BB : Int) st (ad.add m) 1 (k0 - m) [z] w6.drew hEL (HRX.out _ HV6d.out.below) rfl HZX.out HL1.out.symm (fun h => HAP2.out _ (hQ0 _ h) rfl))
        clear hput hEL hQ0 hap9
        go_region_held3 (fun w' => w'.cell? ⟨gc, 0, none⟩ = some (.int .i64 (BB : Int)) ∧ w'.cell? ⟨b0, 5, none⟩ = some (.slice (some ⟨g0, 0, none⟩) N0 cap0) ∧ w'.cell? ⟨g0, BB, none⟩ = some (.pointer (some p0))) (first | (refine ⟨?_, ?_, ?_⟩ <;> (first | (with_reducible assumption) | (with_reducible refine cell_up c0 ?_)) <;> (repeat' (first | (with_reducible exact Below.refl _ _) | (with_reducible assumption) | (with_reducible refine below_over ?_ _ _) | (with_reducible refine Lw.below_alloc ?_ _) | (with_reducible refine Below.drew ?_) | (with_reducible refine below_drewN ?_ _) | (with_reducible refine Below.setCell ?_ ?_ _) | go_size)))) (first | (go_at_call 19; (with_reducible refine CD.out.mono ?_); rintro e w7 ⟨rfl, Q3, st3, h1, h2, -, h4, h5⟩; obtain ⟨R3, f1, f2, f3⟩ := HPUT.out w7 Q3 st3 h1 h4 h5; have HV7 := Lib.hid (HV6d.out.turn_1 (dkT ⟨b0, 0, none⟩ R3 c (sts.set BB st3)) f1 f2 f3); have HF3 := Lib.hid h2; have e7 := h4.cell e5 HAP9.out.1; have e8 := h4.cell e6 HAP9.out.2; clear h1 h2 h4 h5 f1 f2 f3 c0; obtain ⟨c0, _, _, _, _⟩ := box5 HV7.out.i2; rw [← HBB.out] at c0))
        have hsn : BB < sts.length := (List.getElem?_eq_some_iff.1 HST.out).1
        obtain ⟨-, -, -, p5, Q5, -, -, -, hD5, -, -⟩ := dk_lvl (dkI HV7.out.i1) (n := BB) (st := st3) (by rw [List.getElem?_set_self hsn])
        obtain ⟨v6, Q6, hE6⟩ := st_lvl (stI HV7.out.i0) (n := BB) (st := st6) (by rw [List.getElem?_set_self hsn])
        have hss : st3 = st6 := ls_eq hD5 hE6 (HF3.out.trans HF6.out.symm)
        subst hss
        clear hD5 hE6 hsn
        have HIN9 : Hid (∀ n i : Int, -9223372036854775808 ≤ spV c (sts.set BB st3) n i ∧ spV c (sts.set BB st3) n i ≤ 9223372036854775807) := Lib.hid (fun n i => sp_in16 (stI HV7.out.i0) n i)
        have CQ := Lib.hid (fun w hs => qn_quant p F6 c (sts.set BB st3) a w hs ka kb9)
        have DQ := Lib.hid (fun w hs => rquant_any ⟨b0, 0, none⟩ R3 c (sts.set BB st3) a w hs HIN9.out ka kb9)
        obtain ⟨E, hE⟩ : ∃ v, qnC c (fun L i => spV c (sts.set BB st3) (L : Int) i) a = v := ⟨_, rfl⟩
        obtain ⟨V, hV⟩ : ∃ v, qnV c (fun L i => spV c (sts.set BB st3) (L : Int) i) a = v := ⟨_, rfl⟩
        rw [hE, hV] at CQ DQ
        clear hE hV
        go_wp2_with (first
          | (go_at_call 14; (with_reducible refine (DQ.out _ (dkI HVa.out.i1)).mono ?_); rintro e wb ⟨rfl, hb⟩; have HVb := Lib.hid (HVa.out.up hb); clear hb)
          | (go_at_call 13; (with_reducible refine (CQ.out _ (stI (HV7.out.up (by repeat' (first | (with_reducible exact Below.refl _ _) | (with_reducible assumption) | (with_reducible refine below_over ?_ _ _) | (with_reducible refine Lw.below_alloc ?_ _) | (with_reducible refine Below.drew ?_) | (with_reducible refine below_drewN ?_ _) | (with_reducible refine Below.setCell ?_ ?_ _) | go_size))).i0)).mono ?_); rintro e wa ⟨rfl, hb⟩; have HVa := Lib.hid ((HV7.out.up (by repeat' (first | (with_reducible exact Below.refl _ _) | (with_reducible assumption) | (with_reducible refine below_over ?_ _ _) | (with_reducible refine Lw.below_alloc ?_ _) | (with_reducible refine Below.drew ?_) | (with_reducible refine below_drewN ?_ _) | (with_reducible refine Below.setCell ?_ ?_ _) | go_size))).up hb); clear hb))
        go_ret
        exact ⟨ret_bs (by first | rfl | (simp [*]; done)), HVb.out.below⟩
namespace quantLoaded
open Go.ChangeShapes Go.WideShapes Go.ChangeAt Go.Joins
set_option maxRecDepth 100000 in
theorem lifted (os : Os) (started : os.Started) (H : Type) (enc : TypeId × Value → H) :
    ReturnsInHanded {} Tryz.checked os 4 .any (Rows.quantLoadedSpec.pre6 enc Tryz.prog Tryz.f4 Rows.quantLoadedRow.domain false) (Rows.quantLoadedSpec.post enc Tryz.prog Tryz.f4 false true false false) := by
  refine Lw.lifted (C := Tryz.checked) (B := 4) (by kernel_rfl) os started (by kernel_rfl) Tryz.func4
    (ChangeSpec.witness6 (enc := enc) (C := Tryz.checked) false ⟨#[], #[.agg #[.int .i64 0, .int .i64 0, .int .i64 0, .int .i64 0, .int .u64 0], .slice none 0 0, .int .i64 0], []⟩ 8 (by kernel_rfl) (by kernel_rfl) (by kernel_rfl) (by kernel_rfl)) rfl Tryz.underlying4 (by kernel_rfl) (by kernel_rfl) (by kernel_rfl) ?_ ?_
  · intro ds h
    rw [Tryz.params4] at h
    match ds, h with
    | [_, _, _], _ => rfl
  · intro W base args ds p hval hA
    rw [Tryz.params4] at hA hval
    obtain ⟨v0, vs0, d0, ds0, p0, q0, hargs, rfl, rfl, h0, r0⟩ := trodAll_cons hA
    obtain ⟨v1, vs1, d1, ds1, p1, q1, rfl, rfl, rfl, h1, r1⟩ := trodAll_cons r0
    obtain ⟨v2, vs2, d2, ds2, p2, q2, rfl, rfl, rfl, h2, r2⟩ := trodAll_cons r1
    obtain ⟨rfl, rfl, rfl⟩ := trodAll_nil r2
    obtain rfl : args = #[v0, v1, v2] := by cases args; simp_all
    obtain ⟨x0_0, x0_1, x0_2, x0_3, x0_4, rfl, z0_0, z0_1, z0_2, z0_3, z0_4⟩ := open_cfg (hval 0 24 v0 rfl rfl) h0
    obtain ⟨A1, n1, c1, zs1, rfl, hA1, hn1, hc1, hr1, hl1, hz1⟩ := open_list_int64 (hval 1 48 v1 rfl rfl) h1
    obtain ⟨a2, rfl, rfl, rfl, w2⟩ := open_int Tryz.underlying2 (hval 2 2 v2 rfl rfl) h2
    have b2 := Lw.wf_i64 w2
    exact loaded_law ⟨x0_0, x0_1, x0_2, x0_3, x0_4⟩ A1 n1 c1 zs1 a2 W ⟨z0_0.1, z0_0.2, z0_1.1, z0_1.2, z0_2.1, z0_2.2, z0_3.1, z0_3.2, z0_4.1, z0_4.2⟩ hA1 hn1 hc1 hr1 hl1 hz1 b2.1 b2.2
theorem over : Rows.quantLoadedRow.holds Tryz.pinned (OpenSpec.ofChange Rows.quantLoadedSpec) :=
  OpenClaim.holds_of_wide 4 Tryz.f4 rfl rfl rfl rfl rfl rfl rfl ⟨rfl, rfl, rfl, rfl, rfl⟩ rfl rfl rfl rfl rfl (by kernel_rfl) Tryz.func4 (by kernel_rfl)
    (of_decide_eq_true (by kernel_rfl)) (by unfold Func.isWrapper; first | (rw [if_pos (by decide +kernel)]; kernel_rfl) | (rw [if_neg (by decide +kernel)]; exact ⟨rfl, rfl⟩))
    (fun os started H enc _ => lifted os started H enc)
theorem proved : Rows.QuantLoadedSaid :=
  over
#print axioms proved
end quantLoaded
end Go.Proofs.YtiblpdjehknbcaaGreat.Qnt
