/- The statement QuantTells of layer 17 holds. Printed by wip/gen/qnt6.py. -/
import Derived.Test.YtiblpdjehknbcaaGreatMd
import Derived.Test.YtiblpdjehknbcaaGreatMe
import Derived.Test.YtiblpdjehknbcaaGreatQl
import Derived.Test.YtiblpdjehknbcaaGreatQm
import Derived.Test.YtiblpdjehknbcaaGreatQn
import Derived.Deep.LoopGhost
import Derived.Deep.RegionHeld3
import Derived.Deep.DeepCutAuto
import Derived.Deep.QuietTactic
import Derived.BigQuiet
namespace Go.Proofs.YtiblpdjehknbcaaGreat.Qnt
open Go Go.RowKit Lw Grd Lin Con Shp Sk Exa Lev Stk Pcs Spn
set_option linter.unusedVariables false
set_option linter.unusedSimpArgs false
set_option maxRecDepth 100000 in
set_option maxHeartbeats 40000000 in
theorem tells_law (x : Cfg) (A : Option Addr) (n0 k0 : Nat) (qs : Ups) (a : Int) (w : World) (hx : x.Ok) (hq : UpdV w A n0 k0 qs) (ka : -9223372036854775808 ≤ a) (kb9 : a ≤ 9223372036854775807) :
    Calls Tryz.prog 3 #[.agg #[.int .i64 x.bt, .int .i64 x.rw, .int .i64 x.wd, .int .i64 x.md, .int .u64 x.sd, .slice A n0 k0], .int .i64 a] w fun e w' => e = .returned (.bool true) ∧ Below w.heap.size w w' := by
  obtain ⟨c, hC⟩ : ∃ c, anyC x 6 9 = c := ⟨_, rfl⟩
  have hr := any_right x 6 9 (by omega) (by omega) (by omega) (by omega)
  have hco := any_ok x hx 6 9 (by omega) (by omega) (by omega) (by omega)
  have CA := Lib.hid (fun w => rany_at x 6 9 c w hx (by omega) (by omega) (by omega) (by omega) hC)
  rw [hC] at hr hco
  have CNW := Lib.hid (fun w => cs_new c w hco hr)
  have CND := Lib.hid (fun w => dk_new c w hco hr)
  have HR := Lib.hid hr
  have HQ := Lib.hid hq
  have HL := Lib.hid hq.len
  have hnc := hq.nc
  have hcm := hq.cm
  unfold maxLen at hcm
  obtain ⟨Z, hZ⟩ : ∃ Z, stsOf c [] = Z := ⟨_, rfl⟩
  rw [hZ] at CNW CND
  have HBX : Hid (Have w (w.alloc (.cells #[.int .i64 x.bt, .int .i64 x.rw, .int .i64 x.wd, .int .i64 x.md, .int .u64 x.sd, .slice A n0 k0] 27)) [boxT w.heap.size 27 #[.int .i64 x.bt, .int .i64 x.rw, .int .i64 x.wd, .int .i64 x.md, .int .u64 x.sd, .slice A n0 k0]]) := Lib.hid (box_new w _ _)
  clear hr hco hq hx hC hZ
  go_enter Tryz.func3, Tryz.ntmps3
  go_wp2_with (first
    | (go_at_call 10; (with_reducible refine (CND.out _).mono ?_); rintro e w5 ⟨r, G, rfl, hsk, hfr, hb⟩; have HV5 := Lib.hid (HV4.out.push (dkT r G c Z) hb hsk hfr); clear hsk hfr hb)
    | (go_at_call 9; (with_reducible refine (CNW.out _).mono ?_); rintro e w4 ⟨p, F, rfl, hsk, hfr, hb⟩; have HV4 := Lib.hid (HV3.out.push (stT p F c Z) hb hsk hfr); clear hsk hfr hb; obtain ⟨y0, y1, y2, y3, y4⟩ := box5 HV4.out.i1)
    | (go_at_call 8; (with_reducible refine (CA.out _).mono ?_); rintro e w2 ⟨rfl, hb⟩; have HV2 := Lib.hid (HV1.out.up hb); clear x0 x1 x2 x3 x4 x5; have HV3 := Lib.hid (HV2.out.push (boxT w2.heap.size 24 #[.int .i64 c.bt, .int .i64 c.rw, .int .i64 c.wd, .int .i64 c.md, .int .u64 c.sd]) (Lw.below_alloc (Below.refl _ _) _) (heap_alloc_new w2 _) (fun k hk => Nat.le_of_eq hk.symm)); clear hb)
    | (go_at_call 7; (with_reducible refine (shown_any _).mono ?_); rintro e w1 ⟨rfl, hb⟩; have HV1 := Lib.hid (HBX.out.up hb); clear hb; obtain ⟨x0, x1, x2, x3, x4, x5⟩ := box6 HV1.out.i0))
  obtain ⟨gc, hgc⟩ : ∃ g1, w2.heap.size = g1 := ⟨_, rfl⟩
  rw [hgc] at HV5 ⊢
  clear hgc y0 y1 y2 y3 y4 HV1 HV2 HV3 HV4
  go_loopw [10] (fun iv wr => ∃ (k : Nat) (F G : Nat → Prop) (sts : List LS), k ≤ 40 ∧ iv = .int .i64 k ∧ Have w wr [dkT r G c sts, stT p F c sts, boxT gc 24 #[.int .i64 c.bt, .int .i64 c.rw, .int .i64 c.wd, .int .i64 c.md, .int .u64 c.sd], boxT w.heap.size 27 #[.int .i64 x.bt, .int .i64 x.rw, .int .i64 x.wd, .int .i64 x.md, .int .u64 x.sd, .slice A n0 k0]]) (fun iv _ => 40 - (intOf iv).toNat)
  case atStart => exact ⟨0, F, G, Z, Nat.zero_le _, rfl, HV5.out⟩
  case round =>
    obtain ⟨k, F, G, sts, hk1, rfl, hv⟩ := hrel
    have HVr := Lib.hid hv
    clear hv
    obtain ⟨_, _, _, _, _, c0⟩ := box6 HVr.out.i3
    by_cases hlt : k < n0 ∧ k < 40
    · obtain ⟨hj1, hj2⟩ := hlt
      obtain ⟨q, hq1⟩ : ∃ q, qs[k]? = some q := ⟨_, List.getElem?_eq_getElem (by rw [HL.out]; omega)⟩
      obtain ⟨aa, g, o, rfl, hadd, d1w, d2w, kb, db⟩ := HQ.out.at hq1
      obtain ⟨qk, qd⟩ := q
      simp only at d1w d2w kb db
      have D1W := Lib.hid d1w
      have D2W := Lib.hid d2w
      have d1 := cell_up d1w HVr.out.below
      have d2 := cell_up d2w HVr.out.below
      clear hq1 d1w d2w
      go_upto_region 10 with fail
      go_region_held3 (fun w' => w'.cell? ⟨w.heap.size, 5, none⟩ = some (.slice (some aa) n0 k0) ∧ w'.cell? ⟨g, o, none⟩ = some (.int .u64 qk) ∧ w'.cell? ⟨g, o + 1, none⟩ = some (.int .i64 qd)) (first | (refine ⟨?_, ?_, ?_⟩ <;> (first | (with_reducible assumption) | (with_reducible refine cell_up c0 ?_) | (with_reducible refine cell_up d1 ?_) | (with_reducible refine cell_up d2 ?_)) <;> (repeat' (first | (with_reducible exact Below.refl _ _) | (with_reducible assumption) | (with_reducible refine below_over ?_ _ _) | (with_reducible refine Lw.below_alloc ?_ _) | (with_reducible refine Below.drew ?_) | (with_reducible refine below_drewN ?_ _) | (with_reducible refine Below.setCell ?_ ?_ _) | go_size)))) (first | (go_at_call 11; (with_reducible refine (cs_upd p F c sts qk qd _ (stI (HVr.out.up (by repeat' (first | (with_reducible exact Below.refl _ _) | (with_reducible assumption) | (with_reducible refine below_over ?_ _ _) | (with_reducible refine Lw.below_alloc ?_ _) | (with_reducible refine Below.drew ?_) | (with_reducible refine below_drewN ?_ _) | (with_reducible refine Below.setCell ?_ ?_ _) | go_size))).i1) kb.1 kb.2 db.1 db.2).mono ?_); rintro e w8 ⟨rfl, F8, hnp, hnk, hnf⟩; have HV8 := Lib.hid ((HVr.out.up (by repeat' (first | (with_reducible exact Below.refl _ _) | (with_reducible assumption) | (with_reducible refine below_over ?_ _ _) | (with_reducible refine Lw.below_alloc ?_ _) | (with_reducible refine Below.drew ?_) | (with_reducible refine below_drewN ?_ _) | (with_reducible refine Below.setCell ?_ ?_ _) | go_size))).turn_1 (stT p F8 c (sures c sts qk qd)) hnp hnk hnf); clear hnp hnk hnf d1 d2 c0; have d1 := cell_up D1W.out HV8.out.below; have d2 := cell_up D2W.out HV8.out.below; obtain ⟨_, _, _, _, _, c0⟩ := box6 HV8.out.i3))
      all_goals go_upto_region 11 with fail
      all_goals go_region_held3 (fun w' => w'.cell? ⟨w.heap.size, 5, none⟩ = some (.slice (some aa) n0 k0) ∧ w'.cell? ⟨g, o, none⟩ = some (.int .u64 qk) ∧ w'.cell? ⟨g, o + 1, none⟩ = some (.int .i64 qd)) (first | (refine ⟨?_, ?_, ?_⟩ <;> (first | (with_reducible assumption) | (with_reducible refine cell_up c0 ?_) | (with_reducible refine cell_up d1 ?_) | (with_reducible refine cell_up d2 ?_)) <;> (repeat' (first | (with_reducible exact Below.refl _ _) | (with_reducible assumption) | (with_reducible refine below_over ?_ _ _) | (with_reducible refine Lw.below_alloc ?_ _) | (with_reducible refine Below.drew ?_) | (with_reducible refine below_drewN ?_ _) | (with_reducible refine Below.setCell ?_ ?_ _) | go_size)))) (first | (go_at_call 12; (with_reducible refine (dk_upd r G c sts qk qd _ (dkI (HV8.out.up (by repeat' (first | (with_reducible exact Below.refl _ _) | (with_reducible assumption) | (with_reducible refine below_over ?_ _ _) | (with_reducible refine Lw.below_alloc ?_ _) | (with_reducible refine Below.drew ?_) | (with_reducible refine below_drewN ?_ _) | (with_reducible refine Below.setCell ?_ ?_ _) | go_size))).i0) kb.1 kb.2 db.1 db.2).mono ?_); rintro e w9 ⟨rfl, G9, hnp, hnk, hnf⟩; have HV9 := Lib.hid ((HV8.out.up (by repeat' (first | (with_reducible exact Below.refl _ _) | (with_reducible assumption) | (with_reducible refine below_over ?_ _ _) | (with_reducible refine Lw.below_alloc ?_ _) | (with_reducible refine Below.drew ?_) | (with_reducible refine below_drewN ?_ _) | (with_reducible refine Below.setCell ?_ ?_ _) | go_size))).turn_0 (dkT r G9 c (sures c sts qk qd)) hnp hnk hnf); clear hnp hnk hnf d1 d2 c0; have d1 := cell_up D1W.out HV9.out.below; have d2 := cell_up D2W.out HV9.out.below; obtain ⟨_, _, _, _, _, c0⟩ := box6 HV9.out.i3))
      all_goals go_wp2
      all_goals go_roundw
      all_goals first
        | exact ⟨k + 1, F8, G9, sures c sts qk qd, by omega, by go_num, HV9.out⟩
        | exact ⟨k + 1, F8, G9, sures c sts qk qd, by omega, by go_num, HV9.out.up (by repeat' (first | (with_reducible exact Below.refl _ _) | (with_reducible assumption) | (with_reducible refine below_over ?_ _ _) | (with_reducible refine Lw.below_alloc ?_ _) | (with_reducible refine Below.drew ?_) | (with_reducible refine below_drewN ?_ _) | (with_reducible refine Below.setCell ?_ ?_ _) | go_size))⟩
        | (simp [intOf]; omega)
    · have hcases : ((k : Int) < n0 ∧ ¬ (k : Int) < 40) ∨ ¬ (k : Int) < n0 := by omega
      clear hlt
      have HIN : Hid (∀ n i : Int, -9223372036854775808 ≤ spV c sts n i ∧ spV c sts n i ≤ 9223372036854775807) := Lib.hid (fun n i => sp_in16 (stI HVr.out.i1) n i)
      have CQ := Lib.hid (fun w hs => qn_quant p F c sts a w hs ka kb9)
      have CW := Lib.hid (fun w hs => qn_way p F c sts a w hs ka kb9)
      have DQ := Lib.hid (fun w hs => rquant_any r G c sts a w hs HIN.out ka kb9)
      have DW := Lib.hid (fun w hs => rway_any r G c sts a w hs HIN.out ka kb9)
      obtain ⟨E, hE⟩ : ∃ v, qnC c (fun L i => spV c sts (L : Int) i) a = v := ⟨_, rfl⟩
      obtain ⟨V, hV⟩ : ∃ v, qnV c (fun L i => spV c sts (L : Int) i) a = v := ⟨_, rfl⟩
      obtain ⟨PL, hPL⟩ : ∃ v, ints (qnL c (fun L i => spV c sts (L : Int) i) a) = v := ⟨_, rfl⟩
      rw [hE, hV] at CQ DQ
      rw [hE, hPL] at CW DW
      have CS : Hid (∀ (A1 A2 : Option Addr) (n m ca cb : Nat) (w : World), PcV w A1 n ca PL → PcV w A2 m cb PL → Calls Tryz.prog 17 #[.slice A1 n ca, .slice A2 m cb] w fun e w' => e = .returned (.bool true) ∧ Below w.heap.size w w') := Lib.hid (fun A1 A2 n m ca cb w h1 h2 => by
        have hh := psame_any A1 A2 n m ca cb PL PL w h1 h2
        rw [decide_eq_true rfl] at hh
        exact hh)
      clear hE hV hPL
      rcases hcases with ⟨hc1, hc2⟩ | hc1
      all_goals go_wp2_with (first
        | (go_at_call 17; (with_reducible refine (CS.out _ _ _ _ _ _ _ (pcI HVd.out.i0) (pcI RB.out)).mono ?_); rintro e wg ⟨rfl, hb⟩; have HVg := Lib.hid (HVd.out.up hb); clear hb)
        | (go_at_call 16; (with_reducible refine (DW.out _ (dkI HVc.out.i1)).mono ?_); rintro e wd ⟨A2, n2, cap2, rfl, h1, hb⟩; have RB := Lib.hid h1; have HVd := Lib.hid (HVc.out.up hb); clear hb h1)
        | (go_at_call 15; (with_reducible refine (CW.out _ (stI HVb.out.i1)).mono ?_); rintro e wc ⟨A1, n1, cap1, rfl, h1, h2, hb⟩; have HVc := Lib.hid (HVb.out.push (pcT A1 n1 cap1 PL) hb h1 h2); clear h1 h2 hb)
        | (go_at_call 14; (with_reducible refine (DQ.out _ (dkI HVa.out.i0)).mono ?_); rintro e wb ⟨rfl, hb⟩; have HVb := Lib.hid (HVa.out.up hb); clear hb)
        | (go_at_call 13; (with_reducible refine (CQ.out _ (stI HVr.out.i1)).mono ?_); rintro e wa ⟨rfl, hb⟩; have HVa := Lib.hid (HVr.out.up hb); clear hb))
      all_goals go_ret
      all_goals exact ⟨ret_bs (by first | rfl | (simp [*]; done)), HVg.out.below⟩
namespace quantTells
open Go.ChangeShapes Go.WideShapes Go.ChangeAt Go.Joins
set_option maxRecDepth 100000 in
theorem lifted (os : Os) (started : os.Started) (H : Type) (enc : TypeId × Value → H) :
    ReturnsInHanded {} Tryz.checked os 3 .any (Rows.quantTellsSpec.pre6 enc Tryz.prog Tryz.f3 Rows.quantTellsRow.domain false) (Rows.quantTellsSpec.post enc Tryz.prog Tryz.f3 false true false false) := by
  refine Lw.lifted (C := Tryz.checked) (B := 4) (by kernel_rfl) os started (by kernel_rfl) Tryz.func3
    (ChangeSpec.witness6 (enc := enc) (C := Tryz.checked) false ⟨#[], #[.agg #[.int .i64 0, .int .i64 0, .int .i64 0, .int .i64 0, .int .u64 0, .slice none 0 0], .int .i64 0], []⟩ 8 (by kernel_rfl) (by kernel_rfl) (by kernel_rfl) (by kernel_rfl)) rfl Tryz.underlying4 (by kernel_rfl) (by kernel_rfl) (by kernel_rfl) ?_ ?_
  · intro ds h
    rw [Tryz.params3] at h
    match ds, h with
    | [_, _], _ => rfl
  · intro W base args ds p hval hA
    rw [Tryz.params3] at hA hval
    obtain ⟨v0, vs0, d0, ds0, p0, q0, hargs, rfl, rfl, h0, r0⟩ := trodAll_cons hA
    obtain ⟨v1, vs1, d1, ds1, p1, q1, rfl, rfl, rfl, h1, r1⟩ := trodAll_cons r0
    obtain ⟨rfl, rfl, rfl⟩ := trodAll_nil r1
    obtain rfl : args = #[v0, v1] := by cases args; simp_all
    obtain ⟨x0, A0, n0, k0, qs0, rfl, hx0, hq0⟩ := open_playX (hval 0 27 v0 rfl rfl) h0
    obtain ⟨a1, rfl, rfl, rfl, w1⟩ := open_int Tryz.underlying2 (hval 1 2 v1 rfl rfl) h1
    have b1 := Lw.wf_i64 w1
    exact tells_law x0 A0 n0 k0 qs0 a1 W hx0 hq0 b1.1 b1.2
theorem over : Rows.quantTellsRow.holds Tryz.pinned (OpenSpec.ofChange Rows.quantTellsSpec) :=
  OpenClaim.holds_of_wide 3 Tryz.f3 rfl rfl rfl rfl rfl rfl rfl ⟨rfl, rfl, rfl, rfl, rfl⟩ rfl rfl rfl rfl rfl (by kernel_rfl) Tryz.func3 (by kernel_rfl)
    (of_decide_eq_true (by kernel_rfl)) (by unfold Func.isWrapper; first | (rw [if_pos (by decide +kernel)]; kernel_rfl) | (rw [if_neg (by decide +kernel)]; exact ⟨rfl, rfl⟩))
    (fun os started H enc _ => lifted os started H enc)
theorem proved : Rows.QuantTellsSaid :=
  over
#print axioms proved
end quantTells
end Go.Proofs.YtiblpdjehknbcaaGreat.Qnt
