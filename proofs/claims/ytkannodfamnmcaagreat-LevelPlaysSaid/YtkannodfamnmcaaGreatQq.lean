/- Texts that the statement LevelPlays leans on, put together: LevPlS. -/
import Derived.Test.YtkannodfamnmcaaGreatQo
import Derived.Deep.LoopGhost
import Derived.Deep.RegionHeld3
import Derived.Deep.DeepCutAuto
import Derived.Deep.QuietTactic
import Derived.BigQuiet
/- LevelPlays: of an other level. Printed by wip/gen/levplays.py. -/
namespace Go.Proofs.YtkannodfamnmcaaGreat.Lev
open Go Go.RowKit Lw Grd Lin Con Shp Sk Exa Inn
set_option linter.unusedVariables false
set_option linter.unusedSimpArgs false
set_option maxRecDepth 100000 in
set_option maxHeartbeats 16000000 in
theorem plays_S (x : Cfg) (lv : Int) (A : Option Addr) (n0 k0 : Nat) (qs : List Opk) (w : World) (hx0 : x.Ok) (hlv : -9223372036854775808 ≤ lv ∧ lv ≤ 9223372036854775807) (hq : OpkV w A n0 k0 qs) (c : Cfg) (hC : anyC x 6 9 = c) (X l : Int) (a1 : bits .and .i64 lv 65535 = X) (b1 : 0 ≤ X) (c1 : X ≤ 65535) (dd1 : Int.tmod X (c.bt + 1) = l) (ee1 : 0 ≤ l) (ff1 : l < c.bt + 1) (hx : exactB c l = false) :
    Calls Tryz.prog 3 #[.agg #[.int .i64 x.bt, .int .i64 x.rw, .int .i64 x.wd, .int .i64 x.md, .int .u64 x.sd], .int .i64 lv, .slice A n0 k0] w fun e w' => e = .returned (.bool true) ∧ Below w.heap.size w w' := by
  have hr := any_right x 6 9 (by omega) (by omega) (by omega) (by omega)
  have hco := any_ok x hx0 6 9 (by omega) (by omega) (by omega) (by omega)
  rw [hC] at hr hco
  have CA := Lib.hid (fun w => rany_at x 6 9 c w hx0 (by omega) (by omega) (by omega) (by omega) hC)
  have hbt := hr.1
  have hbt6 := hr.2.1
  have HCO := Lib.hid hco
  have HRI := Lib.hid hr
  have HK1 : Hid (1 ≤ keys c l) := Lib.hid (keys_pos.2 ⟨hr, by omega, by omega⟩)
  have CN := Lib.hid (fun w => vnew_S c l w HCO.out (by omega) (by omega) HK1.out hx)
  have DN := Lib.hid (fun w => lnew_S c l w HCO.out HRI.out (by omega) (by omega) hx)
  have hq9 : rws c * wds c ≤ 1024 := Nat.mul_le_mul (rws_bd hr).2.1 (wds_bd hr).2.1
  have hnc := hq.nc
  have hcm := hq.cm
  unfold maxLen at hcm
  have HQ := Lib.hid hq
  have HLQ := Lib.hid hq.len
  have HBX : Hid (Have w (w.alloc (.cells #[.int .i64 x.bt, .int .i64 x.rw, .int .i64 x.wd, .int .i64 x.md, .int .u64 x.sd] 24)) [boxT w.heap.size 24 #[.int .i64 x.bt, .int .i64 x.rw, .int .i64 x.wd, .int .i64 x.md, .int .u64 x.sd]]) := Lib.hid (box_new w _ _)
  have hw1 : IntKind.i64.wrap (c.bt + 1) = c.bt + 1 := IntWalk.i64_in _ ⟨by omega, by omega⟩
  have hw2 : wrap64 (c.bt + 1) = c.bt + 1 := IntWalk.wrap64_in _ ⟨by omega, by omega⟩
  have hbn : ¬ c.bt + 1 = 0 := by omega
  clear hC hq hr hco hx0 hx c1
  have nConfig := naS_Config
  have nLevel := naS_Level
  have nCheck := naS_Check
  have nUpdate := naS_Update
  have nPoint := naS_Point
  have nCells := naS_Cells
  have nLoad := naS_Load
  go_enter Tryz.func3, Tryz.ntmps3
  go_upto_region 11 with (first
    | (go_at_call 10; (with_reducible refine (DN.out _).mono ?_); rintro e w6 ⟨q, Q0, rfl, h1, h2, hb⟩; have HV6 := Lib.hid (HV5.out.push (dlST q Q0 c l (zerosL (rws c) (wds c))) hb h1 h2); clear h1 h2 hb)
    | (go_at_call 10; (with_reducible refine (DN.out _).mono ?_); rintro e w5 ⟨r, R0, rfl, h1, h2, hb⟩; have HV5 := Lib.hid (HV4.out.push (dlST r R0 c l (zerosL (rws c) (wds c))) hb h1 h2); clear h1 h2 hb; clear c0 c1 c2 c3 c4 x0 x1 x2 x3 x4; obtain ⟨c0, c1, c2, c3, c4⟩ := box5 HV5.out.i3; obtain ⟨x0, x1, x2, x3, x4⟩ := box5 HV5.out.i4)
    | (go_at_call 9; (with_reducible refine (CN.out _).mono ?_); rintro e w4 ⟨o, G0, rfl, h1, h2, hb⟩; have HV4 := Lib.hid (HV3.out.push (skT o G0 c l (zerosL (rws c) (wds c))) hb h1 h2); clear h1 h2 hb; clear c0 c1 c2 c3 c4 x0 x1 x2 x3 x4; obtain ⟨c0, c1, c2, c3, c4⟩ := box5 HV4.out.i2; obtain ⟨x0, x1, x2, x3, x4⟩ := box5 HV4.out.i3)
    | (go_at_call 9; (with_reducible refine (CN.out _).mono ?_); rintro e w3 ⟨p, F0, rfl, h1, h2, hb⟩; have HV3 := Lib.hid (HV2.out.push (skT p F0 c l (zerosL (rws c) (wds c))) hb h1 h2); clear h1 h2 hb; clear c0 c1 c2 c3 c4 x0 x1 x2 x3 x4; obtain ⟨c0, c1, c2, c3, c4⟩ := box5 HV3.out.i1; obtain ⟨x0, x1, x2, x3, x4⟩ := box5 HV3.out.i2)
    | (go_at_call 8; (with_reducible refine (CA.out _).mono ?_); rintro e w2 ⟨rfl, hb⟩; have HV2 := Lib.hid ((HV1.out.up hb).push (boxT w2.heap.size 24 #[.int .i64 c.bt, .int .i64 c.rw, .int .i64 c.wd, .int .i64 c.md, .int .u64 c.sd]) (Lw.below_alloc (Below.refl _ _) _) (heap_alloc_new w2 _) (fun k hk => Nat.le_of_eq hk.symm)); clear hb; clear x0 x1 x2 x3 x4; obtain ⟨c0, c1, c2, c3, c4⟩ := box5 HV2.out.i0; obtain ⟨x0, x1, x2, x3, x4⟩ := box5 HV2.out.i1)
    | (go_at_call 7; (with_reducible refine (shown_any _).mono ?_); rintro e w1 ⟨rfl, hb⟩; have HV1 := Lib.hid (HBX.out.up hb); clear hb; obtain ⟨x0, x1, x2, x3, x4⟩ := box5 HV1.out.i0))
  obtain ⟨gc, hgc⟩ : ∃ gc, w2.heap.size = gc := ⟨_, rfl⟩
  rw [hgc] at HV6 ⊢
  have HVS : Hid (Have w w6 [dlST r R0 c l (zerosL (rws c) (wds c)), skT p F0 c l (zerosL (rws c) (wds c)), dlST q Q0 c l (zerosL (rws c) (wds c)), skT o G0 c l (zerosL (rws c) (wds c)), boxT gc 24 #[.int .i64 c.bt, .int .i64 c.rw, .int .i64 c.wd, .int .i64 c.md, .int .u64 c.sd], boxT w.heap.size 24 #[.int .i64 x.bt, .int .i64 x.rw, .int .i64 x.wd, .int .i64 x.md, .int .u64 x.sd]]) := Lib.hid (Have.perm (plays_perm _ _ _ _ _ _) HV6.out)
  clear hgc HV6 HV5 HV4 HV3 HV2 HV1 x0 x1 x2 x3 x4 c0 c1 c2 c3 c4 hw1 hw2
  go_loopw [9, 11, 13, 14, 15] (fun sv ov rv qv iv wr => ∃ (k : Nat) (r : Addr) (R : Nat → Prop) (p : Addr) (F : Nat → Prop) (L : List (List Int)) (q : Addr) (Q : Nat → Prop) (o : Addr) (G : Nat → Prop) (M : List (List Int)), k ≤ n0 ∧ k ≤ 50 ∧ sv = .iface 68 (.pointer (some p)) ∧ ov = .iface 68 (.pointer (some o)) ∧ rv = .pointer (some r) ∧ qv = .pointer (some q) ∧ iv = .int .i64 k ∧ Have w wr [dlST r R c l L, skT p F c l L, dlST q Q c l M, skT o G c l M, boxT gc 24 #[.int .i64 c.bt, .int .i64 c.rw, .int .i64 c.wd, .int .i64 c.md, .int .u64 c.sd], boxT w.heap.size 24 #[.int .i64 x.bt, .int .i64 x.rw, .int .i64 x.wd, .int .i64 x.md, .int .u64 x.sd]]) (fun _ _ _ _ iv _ => n0 - (intOf iv).toNat)
  case atStart => exact ⟨0, r, R0, p, F0, _, q, Q0, o, G0, _, Nat.zero_le _, Nat.zero_le _, rfl, rfl, rfl, rfl, rfl, HVS.out⟩
  case round =>
    clear HVS
    obtain ⟨k, r, R, p, F, L, q, Q, o, G, M, hk1, hk2, rfl, rfl, rfl, rfl, rfl, hv⟩ := hrel
    have HVr := Lib.hid hv
    have hwb := hv.below
    clear hv
    by_cases hlt : k < n0 ∧ k < 50
    · obtain ⟨hj1, hj2⟩ := hlt
      obtain ⟨u, hu1⟩ : ∃ u, qs[k]? = some u := ⟨_, List.getElem?_eq_getElem (by rw [HLQ.out]; omega)⟩
      obtain ⟨a, g, o3, rfl, hadd, d1w, d2w, d3w, kb, db⟩ := HQ.out.at hu1
      obtain ⟨kd, key, d⟩ := u
      simp only at d1w d2w d3w kb db
      have d1 := cell_up d1w hwb
      have d2 := cell_up d2w hwb
      have d3 := cell_up d3w hwb
      have HD1 := Lib.hid d1w
      have HD2 := Lib.hid d2w
      have HD3 := Lib.hid d3w
      have hk1' : k + 1 ≤ n0 := hj1
      have hk2' : k + 1 ≤ 50 := hj2
      have hkn : (k : Int) < n0 := by omega
      have hk50 : (k : Int) < 50 := by omega
      clear hu1 d1w d2w d3w hwb
      by_cases hkd1 : kd = 1
      · have hkd := hkd1
        clear hkd1
        as_aux_lemma =>
          have hk1 : (kd == 1) = true := by simp [hkd]
          have hk2 : (kd == 2) = false := by simp [hkd]
          have hk3 : (kd == 3) = false := by simp [hkd]
          have hk4 : (kd == 4) = false := by simp [hkd]
          have hk5 : (kd == 5) = false := by simp [hkd]
          have hk6 : (kd == 6) = false := by simp [hkd]
          have hk7 : (kd == 7) = false := by simp [hkd]
          clear hkd
          go_upto_region 19 with fail
          go_region_held3 (fun w' => w'.cell? ⟨g, o3, none⟩ = some (.int .i64 kd) ∧ w'.cell? ⟨g, o3 + 1, none⟩ = some (.int .u64 key) ∧ w'.cell? ⟨g, o3 + 2, none⟩ = some (.int .i64 d)) (first | (refine ⟨?_, ?_, ?_⟩ <;> (first | (with_reducible assumption) | (with_reducible refine cell_up d1 ?_) | (with_reducible refine cell_up d2 ?_) | (with_reducible refine cell_up d3 ?_)) <;> (repeat' (first | (with_reducible exact Below.refl _ _) | (with_reducible assumption) | (with_reducible refine below_over ?_ _ _) | (with_reducible refine Lw.below_alloc ?_ _) | (with_reducible refine Below.drew ?_) | (with_reducible refine below_drewN ?_ _) | (with_reducible refine Below.setCell ?_ ?_ _) | go_size)))) (first
            | (go_at_call 165; (with_reducible refine (spoint_any p F c l L key _ (skI (HVr.out.up (by repeat' (first | (with_reducible exact Below.refl _ _) | (with_reducible assumption) | (with_reducible refine below_over ?_ _ _) | (with_reducible refine Lw.below_alloc ?_ _) | (with_reducible refine Below.drew ?_) | (with_reducible refine below_drewN ?_ _) | (with_reducible refine Below.setCell ?_ ?_ _) | go_size))).i1) kb.1 kb.2).mono ?_); rintro e w1 ⟨rfl, hb⟩; have HV1 := Lib.hid ((HVr.out.up (by repeat' (first | (with_reducible exact Below.refl _ _) | (with_reducible assumption) | (with_reducible refine below_over ?_ _ _) | (with_reducible refine Lw.below_alloc ?_ _) | (with_reducible refine Below.drew ?_) | (with_reducible refine below_drewN ?_ _) | (with_reducible refine Below.setCell ?_ ?_ _) | go_size))).up hb); clear hb; clear d1 d2 d3; have d1 := cell_up HD1.out HV1.out.below; have d2 := cell_up HD2.out HV1.out.below; have d3 := cell_up HD3.out HV1.out.below))
          go_upto_region 21 with (first
            | (go_at_call 11; (with_reducible refine (lpoint_S r R c l L key _ (dlSI (HV1.out.up (by repeat' (first | (with_reducible exact Below.refl _ _) | (with_reducible assumption) | (with_reducible refine below_over ?_ _ _) | (with_reducible refine Lw.below_alloc ?_ _) | (with_reducible refine Below.drew ?_) | (with_reducible refine below_drewN ?_ _) | (with_reducible refine Below.setCell ?_ ?_ _) | go_size))).i0) kb.1 kb.2).mono ?_); rintro e w2 ⟨rfl, hb⟩; have HV2 := Lib.hid ((HV1.out.up (by repeat' (first | (with_reducible exact Below.refl _ _) | (with_reducible assumption) | (with_reducible refine below_over ?_ _ _) | (with_reducible refine Lw.below_alloc ?_ _) | (with_reducible refine Below.drew ?_) | (with_reducible refine below_drewN ?_ _) | (with_reducible refine Below.setCell ?_ ?_ _) | go_size))).up hb); clear hb; clear d1 d2 d3; have d1 := cell_up HD1.out HV2.out.below; have d2 := cell_up HD2.out HV2.out.below; have d3 := cell_up HD3.out HV2.out.below))
          go_region_held3 (fun w' => w'.cell? ⟨g, o3, none⟩ = some (.int .i64 kd) ∧ w'.cell? ⟨g, o3 + 1, none⟩ = some (.int .u64 key) ∧ w'.cell? ⟨g, o3 + 2, none⟩ = some (.int .i64 d)) (first | (refine ⟨?_, ?_, ?_⟩ <;> (first | (with_reducible assumption) | (with_reducible refine cell_up d1 ?_) | (with_reducible refine cell_up d2 ?_) | (with_reducible refine cell_up d3 ?_)) <;> (repeat' (first | (with_reducible exact Below.refl _ _) | (with_reducible assumption) | (with_reducible refine below_over ?_ _ _) | (with_reducible refine Lw.below_alloc ?_ _) | (with_reducible refine Below.drew ?_) | (with_reducible refine below_drewN ?_ _) | (with_reducible refine Below.setCell ?_ ?_ _) | go_size)))) (first
            | (go_at_call 163; (with_reducible refine (scheck_any p F c l L key d _ (skI (HV2.out.up (by repeat' (first | (with_reducible exact Below.refl _ _) | (with_reducible assumption) | (with_reducible refine below_over ?_ _ _) | (with_reducible refine Lw.below_alloc ?_ _) | (with_reducible refine Below.drew ?_) | (with_reducible refine below_drewN ?_ _) | (with_reducible refine Below.setCell ?_ ?_ _) | go_size))).i1) kb.1 kb.2 db.1 db.2).mono ?_); rintro e w3 ⟨rfl, hb⟩; have HV3 := Lib.hid ((HV2.out.up (by repeat' (first | (with_reducible exact Below.refl _ _) | (with_reducible assumption) | (with_reducible refine below_over ?_ _ _) | (with_reducible refine Lw.below_alloc ?_ _) | (with_reducible refine Below.drew ?_) | (with_reducible refine below_drewN ?_ _) | (with_reducible refine Below.setCell ?_ ?_ _) | go_size))).up hb); clear hb; clear d1 d2 d3; have d1 := cell_up HD1.out HV3.out.below; have d2 := cell_up HD2.out HV3.out.below; have d3 := cell_up HD3.out HV3.out.below))
          go_upto_region 22 with fail
          go_region_held3 (fun w' => w'.cell? ⟨g, o3, none⟩ = some (.int .i64 kd) ∧ w'.cell? ⟨g, o3 + 1, none⟩ = some (.int .u64 key) ∧ w'.cell? ⟨g, o3 + 2, none⟩ = some (.int .i64 d)) (first | (refine ⟨?_, ?_, ?_⟩ <;> (first | (with_reducible assumption) | (with_reducible refine cell_up d1 ?_) | (with_reducible refine cell_up d2 ?_) | (with_reducible refine cell_up d3 ?_)) <;> (repeat' (first | (with_reducible exact Below.refl _ _) | (with_reducible assumption) | (with_reducible refine below_over ?_ _ _) | (with_reducible refine Lw.below_alloc ?_ _) | (with_reducible refine Below.drew ?_) | (with_reducible refine below_drewN ?_ _) | (with_reducible refine Below.setCell ?_ ?_ _) | go_size)))) (first
            | (go_at_call 12; (with_reducible refine (lcopy_S r R c l L _ (dlSI (HV3.out.up (by repeat' (first | (with_reducible exact Below.refl _ _) | (with_reducible assumption) | (with_reducible refine below_over ?_ _ _) | (with_reducible refine Lw.below_alloc ?_ _) | (with_reducible refine Below.drew ?_) | (with_reducible refine below_drewN ?_ _) | (with_reducible refine Below.setCell ?_ ?_ _) | go_size))).i0)).mono ?_); rintro e w4 ⟨z, Z, rfl, h1, h2, hb⟩; have HV4 := Lib.hid ((HV3.out.up (by repeat' (first | (with_reducible exact Below.refl _ _) | (with_reducible assumption) | (with_reducible refine below_over ?_ _ _) | (with_reducible refine Lw.below_alloc ?_ _) | (with_reducible refine Below.drew ?_) | (with_reducible refine below_drewN ?_ _) | (with_reducible refine Below.setCell ?_ ?_ _) | go_size))).push (dlST z Z c l L) hb h1 h2); clear h1 h2 hb; clear d1 d2 d3; have d1 := cell_up HD1.out HV4.out.below; have d2 := cell_up HD2.out HV4.out.below; have d3 := cell_up HD3.out HV4.out.below)
            | (go_at_call 13; (with_reducible refine (lupd_S z Z c l L key d _ (dlSI (HV4.out.up (by repeat' (first | (with_reducible exact Below.refl _ _) | (with_reducible assumption) | (with_reducible refine below_over ?_ _ _) | (with_reducible refine Lw.below_alloc ?_ _) | (with_reducible refine Below.drew ?_) | (with_reducible refine below_drewN ?_ _) | (with_reducible refine Below.setCell ?_ ?_ _) | go_size))).i0) kb.1 kb.2 db.1 db.2).mono ?_); rintro e w5 ⟨rfl, Z5, h1, h2, h3⟩; have HV5 := Lib.hid ((HV4.out.up (by repeat' (first | (with_reducible exact Below.refl _ _) | (with_reducible assumption) | (with_reducible refine below_over ?_ _ _) | (with_reducible refine Lw.below_alloc ?_ _) | (with_reducible refine Below.drew ?_) | (with_reducible refine below_drewN ?_ _) | (with_reducible refine Below.setCell ?_ ?_ _) | go_size))).turn_0 (dlST z Z5 c l (upRes c l L key d)) h1 h2 h3); clear h1 h2 h3; clear d1 d2 d3; have d1 := cell_up HD1.out HV5.out.below; have d2 := cell_up HD2.out HV5.out.below; have d3 := cell_up HD3.out HV5.out.below))
          go_upto_region 53 with fail
          clear d1 d2 d3
          have HVE : Hid (Have w _ [dlST r R c l L, skT p F c l L, dlST q Q c l M, skT o G c l M, boxT gc 24 #[.int .i64 c.bt, .int .i64 c.rw, .int .i64 c.wd, .int .i64 c.md, .int .u64 c.sd], boxT w.heap.size 24 #[.int .i64 x.bt, .int .i64 x.rw, .int .i64 x.wd, .int .i64 x.md, .int .u64 x.sd]]) := Lib.hid (HV5.out.drop_0.up (by repeat' (first | (with_reducible exact Below.refl _ _) | (with_reducible assumption) | (with_reducible refine below_over ?_ _ _) | (with_reducible refine Lw.below_alloc ?_ _) | (with_reducible refine Below.drew ?_) | (with_reducible refine below_drewN ?_ _) | (with_reducible refine Below.setCell ?_ ?_ _) | go_size)))
          have FLL := Lib.hid (flat_dims (skI HVE.out.i1).dims)
          have FLM := Lib.hid (flat_dims (skI HVE.out.i3).dims)
          go_wp2_with (first
            | (go_at_call_of 81 (Value.pointer (some p)); (with_reducible refine (scells_mid p F c l L _ (skI HVE.out.i1)).mono ?_); rintro e v1 ⟨g1, cap1, rfl, hm1, -, -, -, hb⟩; have HW1 := Lib.hid (HVE.out.up hb); have RD1 := Lib.hid hm1.rd; clear hb hm1)
            | (go_at_call 19; (with_reducible refine (lcells_S r R c l L _ (dlSI HW1.out.i0)).mono ?_); rintro e v2 ⟨A2, cap2, rfl, hm2, -, -, -, hb⟩; have HW2 := Lib.hid (HW1.out.up hb); have HB2 := Lib.hid hb; have RD2 := Lib.hid hm2; clear hb hm2)
            | (go_at_call 22; (with_reducible refine (rsame_any _ _ _ _ _ _ L.flatten L.flatten _ (RD1.out.up HB2.out) RD2.out FLL.out FLL.out (by omega) (by omega)).mono ?_); rintro e v3 ⟨rfl, hb⟩; have HW3 := Lib.hid (HW2.out.up hb); clear hb)
            | (go_at_call_of 81 (Value.pointer (some o)); (with_reducible refine (scells_mid o G c l M _ (skI HW3.out.i3)).mono ?_); rintro e v4 ⟨g4, cap4, rfl, hm4, -, -, -, hb⟩; have HW4 := Lib.hid (HW3.out.up hb); have RD4 := Lib.hid hm4.rd; clear hb hm4)
            | (go_at_call 19; (with_reducible refine (lcells_S q Q c l M _ (dlSI HW4.out.i2)).mono ?_); rintro e v5 ⟨A5, cap5, rfl, hm5, -, -, -, hb⟩; have HW5 := Lib.hid (HW4.out.up hb); have HB5 := Lib.hid hb; have RD5 := Lib.hid hm5; clear hb hm5)
            | (go_at_call 22; (with_reducible refine (rsame_any _ _ _ _ _ _ M.flatten M.flatten _ (RD4.out.up HB5.out) RD5.out FLM.out FLM.out (by omega) (by omega)).mono ?_); rintro e v6 ⟨rfl, hb⟩; have HW6 := Lib.hid (HW5.out.up hb); clear hb))
          all_goals go_roundw
          case rel => exact ⟨k + 1, _, _, _, _, _, _, _, _, _, _, hk1', hk2', rfl, rfl, rfl, rfl, by go_num, HW6.out⟩
          case measure => simp [intOf]; omega
      by_cases hkd2 : kd = 2
      · have hkd := hkd2
        clear hkd2
        as_aux_lemma =>
          have hk1 : (kd == 1) = false := by simp [hkd]
          have hk2 : (kd == 2) = true := by simp [hkd]
          have hk3 : (kd == 3) = false := by simp [hkd]
          have hk4 : (kd == 4) = false := by simp [hkd]
          have hk5 : (kd == 5) = false := by simp [hkd]
          have hk6 : (kd == 6) = false := by simp [hkd]
          have hk7 : (kd == 7) = false := by simp [hkd]
          clear hkd
          obtain ⟨E, hE⟩ : ∃ E, mgCode 1 c c l l L M = E := ⟨_, rfl⟩
          obtain ⟨J, hJ⟩ : ∃ J, mgRes 1 c c l l L M = J := ⟨_, rfl⟩
          have CM := Lib.hid (fun w h g => vmerge_S p F c l L o G c l M w h g)
          have CJ := Lib.hid (fun w h g hs => ljoin_Sp r R c l L q Q M w h g hs)
          rw [← (mgS_p (l := l)).1, ← (mgS_p (l := l)).2] at CJ
          rw [hE, hJ] at CJ CM
          clear hE hJ
          go_upto_region 53 with (first
            | (go_at_call 14; (with_reducible refine (CM.out _ (skI HVr.out.i1) (skI HVr.out.i3)).mono ?_); rintro e w1 ⟨rfl, F1, h1, h2, h3⟩; have HV1 := Lib.hid (HVr.out.turn_1 (skT p F1 c l J) h1 h2 h3); clear h1 h2 h3)
            | (go_at_call 15; (with_reducible refine (CJ.out _ (dlSI HV1.out.i0) (dlSI HV1.out.i2) (dl_apS HV1.out)).mono ?_); rintro e w2 ⟨rfl, R1, h1, h2, h3⟩; have HV2 := Lib.hid (HV1.out.turn_0 (dlST r R1 c l J) h1 h2 h3); clear h1 h2 h3))
          clear d1 d2 d3
          have HVE : Hid (Have w _ [dlST r R1 c l J, skT p F1 c l J, dlST q Q c l M, skT o G c l M, boxT gc 24 #[.int .i64 c.bt, .int .i64 c.rw, .int .i64 c.wd, .int .i64 c.md, .int .u64 c.sd], boxT w.heap.size 24 #[.int .i64 x.bt, .int .i64 x.rw, .int .i64 x.wd, .int .i64 x.md, .int .u64 x.sd]]) := Lib.hid (HV2.out)
          have FLL := Lib.hid (flat_dims (skI HVE.out.i1).dims)
          have FLM := Lib.hid (flat_dims (skI HVE.out.i3).dims)
          go_wp2_with (first
            | (go_at_call_of 81 (Value.pointer (some p)); (with_reducible refine (scells_mid p F1 c l J _ (skI HVE.out.i1)).mono ?_); rintro e v1 ⟨g1, cap1, rfl, hm1, -, -, -, hb⟩; have HW1 := Lib.hid (HVE.out.up hb); have RD1 := Lib.hid hm1.rd; clear hb hm1)
            | (go_at_call 19; (with_reducible refine (lcells_S r R1 c l J _ (dlSI HW1.out.i0)).mono ?_); rintro e v2 ⟨A2, cap2, rfl, hm2, -, -, -, hb⟩; have HW2 := Lib.hid (HW1.out.up hb); have HB2 := Lib.hid hb; have RD2 := Lib.hid hm2; clear hb hm2)
            | (go_at_call 22; (with_reducible refine (rsame_any _ _ _ _ _ _ J.flatten J.flatten _ (RD1.out.up HB2.out) RD2.out FLL.out FLL.out (by omega) (by omega)).mono ?_); rintro e v3 ⟨rfl, hb⟩; have HW3 := Lib.hid (HW2.out.up hb); clear hb)
            | (go_at_call_of 81 (Value.pointer (some o)); (with_reducible refine (scells_mid o G c l M _ (skI HW3.out.i3)).mono ?_); rintro e v4 ⟨g4, cap4, rfl, hm4, -, -, -, hb⟩; have HW4 := Lib.hid (HW3.out.up hb); have RD4 := Lib.hid hm4.rd; clear hb hm4)
            | (go_at_call 19; (with_reducible refine (lcells_S q Q c l M _ (dlSI HW4.out.i2)).mono ?_); rintro e v5 ⟨A5, cap5, rfl, hm5, -, -, -, hb⟩; have HW5 := Lib.hid (HW4.out.up hb); have HB5 := Lib.hid hb; have RD5 := Lib.hid hm5; clear hb hm5)
            | (go_at_call 22; (with_reducible refine (rsame_any _ _ _ _ _ _ M.flatten M.flatten _ (RD4.out.up HB5.out) RD5.out FLM.out FLM.out (by omega) (by omega)).mono ?_); rintro e v6 ⟨rfl, hb⟩; have HW6 := Lib.hid (HW5.out.up hb); clear hb))
          all_goals go_roundw
          case rel => exact ⟨k + 1, _, _, _, _, _, _, _, _, _, _, hk1', hk2', rfl, rfl, rfl, rfl, by go_num, HW6.out⟩
          case measure => simp [intOf]; omega
      by_cases hkd3 : kd = 3
      · have hkd := hkd3
        clear hkd3
        as_aux_lemma =>
          have hk1 : (kd == 1) = false := by simp [hkd]
          have hk2 : (kd == 2) = false := by simp [hkd]
          have hk3 : (kd == 3) = true := by simp [hkd]
          have hk4 : (kd == 4) = false := by simp [hkd]
          have hk5 : (kd == 5) = false := by simp [hkd]
          have hk6 : (kd == 6) = false := by simp [hkd]
          have hk7 : (kd == 7) = false := by simp [hkd]
          clear hkd
          by_cases hm2 : c.md = 2
          · have hmc := mgS_c (l := l) (L := L) (M := M) hm2
            have CM := Lib.hid (fun w h g => vsub_S p F c l L o G c l M w h g)
            rw [hmc.1, hmc.2] at CM
            have CJ := Lib.hid (fun w h g => ljoin_Scon r R c l L q Q M w h g hm2)
            clear hm2 hmc
            go_upto_region 53 with (first
              | (go_at_call 16; (with_reducible refine (CM.out _ (skI HVr.out.i1) (skI HVr.out.i3)).mono ?_); rintro e w1 ⟨rfl, F1, h1, h2, h3⟩; have HV1 := Lib.hid (HVr.out.turn_1 (skT p F1 c l L) h1 h2 h3); clear h1 h2 h3)
              | (go_at_call 15; (with_reducible refine (CJ.out _ (dlSI HV1.out.i0) (dlSI HV1.out.i2)).mono ?_); rintro e w2 ⟨rfl, hb⟩; have HV2 := Lib.hid (HV1.out.up hb); clear hb))
            clear d1 d2 d3
            have HVE : Hid (Have w _ [dlST r R c l L, skT p F1 c l L, dlST q Q c l M, skT o G c l M, boxT gc 24 #[.int .i64 c.bt, .int .i64 c.rw, .int .i64 c.wd, .int .i64 c.md, .int .u64 c.sd], boxT w.heap.size 24 #[.int .i64 x.bt, .int .i64 x.rw, .int .i64 x.wd, .int .i64 x.md, .int .u64 x.sd]]) := Lib.hid (HV2.out)
            have FLL := Lib.hid (flat_dims (skI HVE.out.i1).dims)
            have FLM := Lib.hid (flat_dims (skI HVE.out.i3).dims)
            go_wp2_with (first
              | (go_at_call_of 81 (Value.pointer (some p)); (with_reducible refine (scells_mid p F1 c l L _ (skI HVE.out.i1)).mono ?_); rintro e v1 ⟨g1, cap1, rfl, hm1, -, -, -, hb⟩; have HW1 := Lib.hid (HVE.out.up hb); have RD1 := Lib.hid hm1.rd; clear hb hm1)
              | (go_at_call 19; (with_reducible refine (lcells_S r R c l L _ (dlSI HW1.out.i0)).mono ?_); rintro e v2 ⟨A2, cap2, rfl, hm2, -, -, -, hb⟩; have HW2 := Lib.hid (HW1.out.up hb); have HB2 := Lib.hid hb; have RD2 := Lib.hid hm2; clear hb hm2)
              | (go_at_call 22; (with_reducible refine (rsame_any _ _ _ _ _ _ L.flatten L.flatten _ (RD1.out.up HB2.out) RD2.out FLL.out FLL.out (by omega) (by omega)).mono ?_); rintro e v3 ⟨rfl, hb⟩; have HW3 := Lib.hid (HW2.out.up hb); clear hb)
              | (go_at_call_of 81 (Value.pointer (some o)); (with_reducible refine (scells_mid o G c l M _ (skI HW3.out.i3)).mono ?_); rintro e v4 ⟨g4, cap4, rfl, hm4, -, -, -, hb⟩; have HW4 := Lib.hid (HW3.out.up hb); have RD4 := Lib.hid hm4.rd; clear hb hm4)
              | (go_at_call 19; (with_reducible refine (lcells_S q Q c l M _ (dlSI HW4.out.i2)).mono ?_); rintro e v5 ⟨A5, cap5, rfl, hm5, -, -, -, hb⟩; have HW5 := Lib.hid (HW4.out.up hb); have HB5 := Lib.hid hb; have RD5 := Lib.hid hm5; clear hb hm5)
              | (go_at_call 22; (with_reducible refine (rsame_any _ _ _ _ _ _ M.flatten M.flatten _ (RD4.out.up HB5.out) RD5.out FLM.out FLM.out (by omega) (by omega)).mono ?_); rintro e v6 ⟨rfl, hb⟩; have HW6 := Lib.hid (HW5.out.up hb); clear hb))
            all_goals go_roundw
            case rel => exact ⟨k + 1, _, _, _, _, _, _, _, _, _, _, hk1', hk2', rfl, rfl, rfl, rfl, by go_num, HW6.out⟩
            case measure => simp [intOf]; omega
          · obtain ⟨E, hE⟩ : ∃ E, mgCode (-1) c c l l L M = E := ⟨_, rfl⟩
            obtain ⟨J, hJ⟩ : ∃ J, mgRes (-1) c c l l L M = J := ⟨_, rfl⟩
            have CM := Lib.hid (fun w h g => vsub_S p F c l L o G c l M w h g)
            have CJ := Lib.hid (fun w h g hs => ljoin_Sm r R c l L q Q M w h g hs hm2)
            rw [← (mgS_m (l := l) hm2).1, ← (mgS_m (l := l) hm2).2] at CJ
            rw [hE, hJ] at CJ CM
            clear hE hJ hm2
            go_upto_region 53 with (first
              | (go_at_call 16; (with_reducible refine (CM.out _ (skI HVr.out.i1) (skI HVr.out.i3)).mono ?_); rintro e w1 ⟨rfl, F1, h1, h2, h3⟩; have HV1 := Lib.hid (HVr.out.turn_1 (skT p F1 c l J) h1 h2 h3); clear h1 h2 h3)
              | (go_at_call 15; (with_reducible refine (CJ.out _ (dlSI HV1.out.i0) (dlSI HV1.out.i2) (dl_apS HV1.out)).mono ?_); rintro e w2 ⟨rfl, R1, h1, h2, h3⟩; have HV2 := Lib.hid (HV1.out.turn_0 (dlST r R1 c l J) h1 h2 h3); clear h1 h2 h3))
            clear d1 d2 d3
            have HVE : Hid (Have w _ [dlST r R1 c l J, skT p F1 c l J, dlST q Q c l M, skT o G c l M, boxT gc 24 #[.int .i64 c.bt, .int .i64 c.rw, .int .i64 c.wd, .int .i64 c.md, .int .u64 c.sd], boxT w.heap.size 24 #[.int .i64 x.bt, .int .i64 x.rw, .int .i64 x.wd, .int .i64 x.md, .int .u64 x.sd]]) := Lib.hid (HV2.out)
            have FLL := Lib.hid (flat_dims (skI HVE.out.i1).dims)
            have FLM := Lib.hid (flat_dims (skI HVE.out.i3).dims)
            go_wp2_with (first
              | (go_at_call_of 81 (Value.pointer (some p)); (with_reducible refine (scells_mid p F1 c l J _ (skI HVE.out.i1)).mono ?_); rintro e v1 ⟨g1, cap1, rfl, hm1, -, -, -, hb⟩; have HW1 := Lib.hid (HVE.out.up hb); have RD1 := Lib.hid hm1.rd; clear hb hm1)
              | (go_at_call 19; (with_reducible refine (lcells_S r R1 c l J _ (dlSI HW1.out.i0)).mono ?_); rintro e v2 ⟨A2, cap2, rfl, hm2, -, -, -, hb⟩; have HW2 := Lib.hid (HW1.out.up hb); have HB2 := Lib.hid hb; have RD2 := Lib.hid hm2; clear hb hm2)
              | (go_at_call 22; (with_reducible refine (rsame_any _ _ _ _ _ _ J.flatten J.flatten _ (RD1.out.up HB2.out) RD2.out FLL.out FLL.out (by omega) (by omega)).mono ?_); rintro e v3 ⟨rfl, hb⟩; have HW3 := Lib.hid (HW2.out.up hb); clear hb)
              | (go_at_call_of 81 (Value.pointer (some o)); (with_reducible refine (scells_mid o G c l M _ (skI HW3.out.i3)).mono ?_); rintro e v4 ⟨g4, cap4, rfl, hm4, -, -, -, hb⟩; have HW4 := Lib.hid (HW3.out.up hb); have RD4 := Lib.hid hm4.rd; clear hb hm4)
              | (go_at_call 19; (with_reducible refine (lcells_S q Q c l M _ (dlSI HW4.out.i2)).mono ?_); rintro e v5 ⟨A5, cap5, rfl, hm5, -, -, -, hb⟩; have HW5 := Lib.hid (HW4.out.up hb); have HB5 := Lib.hid hb; have RD5 := Lib.hid hm5; clear hb hm5)
              | (go_at_call 22; (with_reducible refine (rsame_any _ _ _ _ _ _ M.flatten M.flatten _ (RD4.out.up HB5.out) RD5.out FLM.out FLM.out (by omega) (by omega)).mono ?_); rintro e v6 ⟨rfl, hb⟩; have HW6 := Lib.hid (HW5.out.up hb); clear hb))
            all_goals go_roundw
            case rel => exact ⟨k + 1, _, _, _, _, _, _, _, _, _, _, hk1', hk2', rfl, rfl, rfl, rfl, by go_num, HW6.out⟩
            case measure => simp [intOf]; omega
      by_cases hkd4 : kd = 4
      · have hkd := hkd4
        clear hkd4
        as_aux_lemma =>
          have hk1 : (kd == 1) = false := by simp [hkd]
          have hk2 : (kd == 2) = false := by simp [hkd]
          have hk3 : (kd == 3) = false := by simp [hkd]
          have hk4 : (kd == 4) = true := by simp [hkd]
          have hk5 : (kd == 5) = false := by simp [hkd]
          have hk6 : (kd == 6) = false := by simp [hkd]
          have hk7 : (kd == 7) = false := by simp [hkd]
          clear hkd
          go_upto_region 53 with fail
          clear d1 d2 d3
          have HVE : Hid (Have w _ [dlST q Q c l M, skT o G c l M, dlST r R c l L, skT p F c l L, boxT gc 24 #[.int .i64 c.bt, .int .i64 c.rw, .int .i64 c.wd, .int .i64 c.md, .int .u64 c.sd], boxT w.heap.size 24 #[.int .i64 x.bt, .int .i64 x.rw, .int .i64 x.wd, .int .i64 x.md, .int .u64 x.sd]]) := Lib.hid ((Have.perm ((List.perm_append_comm (l₁ := [dlST r R c l L, skT p F c l L]) (l₂ := [dlST q Q c l M, skT o G c l M])).append_right [boxT gc 24 #[.int .i64 c.bt, .int .i64 c.rw, .int .i64 c.wd, .int .i64 c.md, .int .u64 c.sd], boxT w.heap.size 24 #[.int .i64 x.bt, .int .i64 x.rw, .int .i64 x.wd, .int .i64 x.md, .int .u64 x.sd]]) HVr.out))
          have FLL := Lib.hid (flat_dims (skI HVE.out.i1).dims)
          have FLM := Lib.hid (flat_dims (skI HVE.out.i3).dims)
          go_wp2_with (first
            | (go_at_call_of 81 (Value.pointer (some o)); (with_reducible refine (scells_mid o G c l M _ (skI HVE.out.i1)).mono ?_); rintro e v1 ⟨g1, cap1, rfl, hm1, -, -, -, hb⟩; have HW1 := Lib.hid (HVE.out.up hb); have RD1 := Lib.hid hm1.rd; clear hb hm1)
            | (go_at_call 19; (with_reducible refine (lcells_S q Q c l M _ (dlSI HW1.out.i0)).mono ?_); rintro e v2 ⟨A2, cap2, rfl, hm2, -, -, -, hb⟩; have HW2 := Lib.hid (HW1.out.up hb); have HB2 := Lib.hid hb; have RD2 := Lib.hid hm2; clear hb hm2)
            | (go_at_call 22; (with_reducible refine (rsame_any _ _ _ _ _ _ M.flatten M.flatten _ (RD1.out.up HB2.out) RD2.out FLL.out FLL.out (by omega) (by omega)).mono ?_); rintro e v3 ⟨rfl, hb⟩; have HW3 := Lib.hid (HW2.out.up hb); clear hb)
            | (go_at_call_of 81 (Value.pointer (some p)); (with_reducible refine (scells_mid p F c l L _ (skI HW3.out.i3)).mono ?_); rintro e v4 ⟨g4, cap4, rfl, hm4, -, -, -, hb⟩; have HW4 := Lib.hid (HW3.out.up hb); have RD4 := Lib.hid hm4.rd; clear hb hm4)
            | (go_at_call 19; (with_reducible refine (lcells_S r R c l L _ (dlSI HW4.out.i2)).mono ?_); rintro e v5 ⟨A5, cap5, rfl, hm5, -, -, -, hb⟩; have HW5 := Lib.hid (HW4.out.up hb); have HB5 := Lib.hid hb; have RD5 := Lib.hid hm5; clear hb hm5)
            | (go_at_call 22; (with_reducible refine (rsame_any _ _ _ _ _ _ L.flatten L.flatten _ (RD4.out.up HB5.out) RD5.out FLM.out FLM.out (by omega) (by omega)).mono ?_); rintro e v6 ⟨rfl, hb⟩; have HW6 := Lib.hid (HW5.out.up hb); clear hb))
          all_goals go_roundw
          case rel => exact ⟨k + 1, _, _, _, _, _, _, _, _, _, _, hk1', hk2', rfl, rfl, rfl, rfl, by go_num, HW6.out⟩
          case measure => simp [intOf]; omega
      by_cases hkd5 : kd = 5
      · have hkd := hkd5
        clear hkd5
        as_aux_lemma =>
          have hk1 : (kd == 1) = false := by simp [hkd]
          have hk2 : (kd == 2) = false := by simp [hkd]
          have hk3 : (kd == 3) = false := by simp [hkd]
          have hk4 : (kd == 4) = false := by simp [hkd]
          have hk5 : (kd == 5) = true := by simp [hkd]
          have hk6 : (kd == 6) = false := by simp [hkd]
          have hk7 : (kd == 7) = false := by simp [hkd]
          clear hkd
          go_upto_region 53 with (first
            | (go_at_call 17; (with_reducible refine (vcopy_S o G c l M _ (skI HVr.out.i3)).mono ?_); rintro e w1 ⟨z, Z, rfl, h1, h2, hb⟩; have HV1 := Lib.hid (HVr.out.push (skT z Z c l M) hb h1 h2); clear h1 h2 hb)
            | (go_at_call 12; (with_reducible refine (lcopy_S q Q c l M _ (dlSI HV1.out.i3)).mono ?_); rintro e w2 ⟨y, Y, rfl, h1, h2, hb⟩; have HV2 := Lib.hid (HV1.out.push (dlST y Y c l M) hb h1 h2); clear h1 h2 hb))
          clear d1 d2 d3
          have HVE : Hid (Have w _ [dlST y Y c l M, skT z Z c l M, dlST q Q c l M, skT o G c l M, boxT gc 24 #[.int .i64 c.bt, .int .i64 c.rw, .int .i64 c.wd, .int .i64 c.md, .int .u64 c.sd], boxT w.heap.size 24 #[.int .i64 x.bt, .int .i64 x.rw, .int .i64 x.wd, .int .i64 x.md, .int .u64 x.sd]]) := Lib.hid (HV2.out.drop_2.drop_2)
          have FLL := Lib.hid (flat_dims (skI HVE.out.i1).dims)
          have FLM := Lib.hid (flat_dims (skI HVE.out.i3).dims)
          go_wp2_with (first
            | (go_at_call_of 81 (Value.pointer (some z)); (with_reducible refine (scells_mid z Z c l M _ (skI HVE.out.i1)).mono ?_); rintro e v1 ⟨g1, cap1, rfl, hm1, -, -, -, hb⟩; have HW1 := Lib.hid (HVE.out.up hb); have RD1 := Lib.hid hm1.rd; clear hb hm1)
            | (go_at_call 19; (with_reducible refine (lcells_S y Y c l M _ (dlSI HW1.out.i0)).mono ?_); rintro e v2 ⟨A2, cap2, rfl, hm2, -, -, -, hb⟩; have HW2 := Lib.hid (HW1.out.up hb); have HB2 := Lib.hid hb; have RD2 := Lib.hid hm2; clear hb hm2)
            | (go_at_call 22; (with_reducible refine (rsame_any _ _ _ _ _ _ M.flatten M.flatten _ (RD1.out.up HB2.out) RD2.out FLL.out FLL.out (by omega) (by omega)).mono ?_); rintro e v3 ⟨rfl, hb⟩; have HW3 := Lib.hid (HW2.out.up hb); clear hb)
            | (go_at_call_of 81 (Value.pointer (some o)); (with_reducible refine (scells_mid o G c l M _ (skI HW3.out.i3)).mono ?_); rintro e v4 ⟨g4, cap4, rfl, hm4, -, -, -, hb⟩; have HW4 := Lib.hid (HW3.out.up hb); have RD4 := Lib.hid hm4.rd; clear hb hm4)
            | (go_at_call 19; (with_reducible refine (lcells_S q Q c l M _ (dlSI HW4.out.i2)).mono ?_); rintro e v5 ⟨A5, cap5, rfl, hm5, -, -, -, hb⟩; have HW5 := Lib.hid (HW4.out.up hb); have HB5 := Lib.hid hb; have RD5 := Lib.hid hm5; clear hb hm5)
            | (go_at_call 22; (with_reducible refine (rsame_any _ _ _ _ _ _ M.flatten M.flatten _ (RD4.out.up HB5.out) RD5.out FLM.out FLM.out (by omega) (by omega)).mono ?_); rintro e v6 ⟨rfl, hb⟩; have HW6 := Lib.hid (HW5.out.up hb); clear hb))
          all_goals go_roundw
          case rel => exact ⟨k + 1, _, _, _, _, _, _, _, _, _, _, hk1', hk2', rfl, rfl, rfl, rfl, by go_num, HW6.out⟩
          case measure => simp [intOf]; omega
      by_cases hkd6 : kd = 6
      · have hkd := hkd6
        clear hkd6
        as_aux_lemma =>
          have hk1 : (kd == 1) = false := by simp [hkd]
          have hk2 : (kd == 2) = false := by simp [hkd]
          have hk3 : (kd == 3) = false := by simp [hkd]
          have hk4 : (kd == 4) = false := by simp [hkd]
          have hk5 : (kd == 5) = false := by simp [hkd]
          have hk6 : (kd == 6) = true := by simp [hkd]
          have hk7 : (kd == 7) = false := by simp [hkd]
          clear hkd
          have hdL := (skI HVr.out.i1).dims
          have hdM := (skI HVr.out.i3).dims
          have FLX : Hid (L.flatten.length = rws c * wds c) := Lib.hid (flat_dims hdL)
          have FZX := Lib.hid (flat_in64 hdL)
          have HDX := Lib.hid (And.intro hdL hdM)
          have CO : Hid (∀ G w, SK w o G c l M → ∀ g cap, Ord.Mid w g 0 L.flatten → ¬ G g → Calls Tryz.prog 164 #[.pointer (some o), .slice (some ⟨g, 0, none⟩) (rws c * wds c) cap] w fun e w' => e = .returned (.bool true) ∧ ∃ F', SK w' o F' c l L ∧ Kept G w w' ∧ (∀ k, F' k → G k ∨ w.heap.size ≤ k)) := Lib.hid (fun G w h g cap hm hg => (sload_yes o G c l M (some ⟨g, 0, none⟩) (rws c * wds c) cap L.flatten w h hm.rd FLX.out (by omega) FZX.out (fun a ha => by injection ha with ha; subst ha; exact hg) rfl).mono (fun e w' ⟨e1, F', L', h1, h2, h3, h4⟩ => ⟨e1, F', by have h5 := flat_inj h1.dims HDX.out.1 h2; rw [h5] at h1; exact h1, h3, h4⟩))
          have CD : Hid (∀ Q w, DLS w q Q c l M → ∀ (ad : Addr) (cap : Nat), Rd .i64 w (some ad) L.flatten → ¬ Q ad.block → Calls Tryz.prog 18 #[.pointer (some q), .slice (some ad) (rws c * wds c) cap] w fun e w' => e = .returned (.tuple #[]) ∧ ∃ F', DLS w' q F' c l L ∧ Kept Q w w' ∧ (∀ k, F' k → Q k ∨ w.heap.size ≤ k)) := Lib.hid (fun Q w h ad cap hm hg => (lload_S q Q c l M ad (rws c * wds c) cap L.flatten w h hm FLX.out FZX.out rfl hg).mono (fun e w' ⟨e1, F', L', h1, h2, h3, h4⟩ => ⟨e1, F', by have h5 := flat_inj h1.dims HDX.out.1 h2; rw [h5] at h1; exact h1, h3, h4⟩))
          clear hdL hdM
          go_upto_region 44 with fail
          go_region_held3 (fun w' => True) (trivial) (first
            | (go_at_call 81; (with_reducible refine (scells_mid p F c l L _ (skI (HVr.out.up (by repeat' (first | (with_reducible exact Below.refl _ _) | (with_reducible assumption) | (with_reducible refine below_over ?_ _ _) | (with_reducible refine Lw.below_alloc ?_ _) | (with_reducible refine Below.drew ?_) | (with_reducible refine below_drewN ?_ _) | (with_reducible refine Below.setCell ?_ ?_ _) | go_size))).i1)).mono ?_); rintro e w1 ⟨g1, cap1, rfl, h1, h2, -, -, hb⟩; have HV1 := Lib.hid ((HVr.out.up (by repeat' (first | (with_reducible exact Below.refl _ _) | (with_reducible assumption) | (with_reducible refine below_over ?_ _ _) | (with_reducible refine Lw.below_alloc ?_ _) | (with_reducible refine Below.drew ?_) | (with_reducible refine below_drewN ?_ _) | (with_reducible refine Below.setCell ?_ ?_ _) | go_size))).push (midT g1 L.flatten) hb h1 (fun k hk => by subst hk; exact h2)); clear h1 h2 hb)
            | (go_at_call 164; (with_reducible refine (CO.out G _ (skI (HV1.out.up (by repeat' (first | (with_reducible exact Below.refl _ _) | (with_reducible assumption) | (with_reducible refine below_over ?_ _ _) | (with_reducible refine Lw.below_alloc ?_ _) | (with_reducible refine Below.drew ?_) | (with_reducible refine below_drewN ?_ _) | (with_reducible refine Below.setCell ?_ ?_ _) | go_size))).i4) g1 cap1 (midI (HV1.out.up (by repeat' (first | (with_reducible exact Below.refl _ _) | (with_reducible assumption) | (with_reducible refine below_over ?_ _ _) | (with_reducible refine Lw.below_alloc ?_ _) | (with_reducible refine Below.drew ?_) | (with_reducible refine below_drewN ?_ _) | (with_reducible refine Below.setCell ?_ ?_ _) | go_size))).i0) (mid_apS HV1.out)).mono ?_); rintro e w2 ⟨rfl, G1, h1, h2, h3⟩; have HV2 := Lib.hid ((HV1.out.up (by repeat' (first | (with_reducible exact Below.refl _ _) | (with_reducible assumption) | (with_reducible refine below_over ?_ _ _) | (with_reducible refine Lw.below_alloc ?_ _) | (with_reducible refine Below.drew ?_) | (with_reducible refine below_drewN ?_ _) | (with_reducible refine Below.setCell ?_ ?_ _) | go_size))).turn_4 (skT o G1 c l L) h1 h2 h3).drop_0; clear h1 h2 h3))
          all_goals
            go_upto_region 53 with (first
              | (go_at_call 18; (with_reducible refine (CD.out Q _ (dlSI HV3.out.i2) A3 cap3 HR3.out HA3.out).mono ?_); rintro e w4 ⟨rfl, Q1, h1, h2, h3⟩; have HV4 := Lib.hid (HV3.out.turn_2 (dlST q Q1 c l L) h1 h2 h3); clear h1 h2 h3)
              | (go_at_call 19; (with_reducible refine (lcells_S r R c l L _ (dlSI (HV2.out.up (by repeat' (first | (with_reducible exact Below.refl _ _) | (with_reducible assumption) | (with_reducible refine below_over ?_ _ _) | (with_reducible refine Lw.below_alloc ?_ _) | (with_reducible refine Below.drew ?_) | (with_reducible refine below_drewN ?_ _) | (with_reducible refine Below.setCell ?_ ?_ _) | go_size))).i0)).mono ?_); rintro e w3 ⟨A3, cap3, rfl, h1, -, -, h2, hb⟩; have HV3 := Lib.hid ((HV2.out.up (by repeat' (first | (with_reducible exact Below.refl _ _) | (with_reducible assumption) | (with_reducible refine below_over ?_ _ _) | (with_reducible refine Lw.below_alloc ?_ _) | (with_reducible refine Below.drew ?_) | (with_reducible refine below_drewN ?_ _) | (with_reducible refine Below.setCell ?_ ?_ _) | go_size))).up hb); have HR3 := Lib.hid h1; have HA3 : Hid (¬ Q A3.block) := Lib.hid (dl_ltS (HV2.out.up (by repeat' (first | (with_reducible exact Below.refl _ _) | (with_reducible assumption) | (with_reducible refine below_over ?_ _ _) | (with_reducible refine Lw.below_alloc ?_ _) | (with_reducible refine Below.drew ?_) | (with_reducible refine below_drewN ?_ _) | (with_reducible refine Below.setCell ?_ ?_ _) | go_size))) h2); clear h1 h2 hb))
            clear d1 d2 d3
            have HVE : Hid (Have w _ [dlST r R c l L, skT p F c l L, dlST q Q1 c l L, skT o G1 c l L, boxT gc 24 #[.int .i64 c.bt, .int .i64 c.rw, .int .i64 c.wd, .int .i64 c.md, .int .u64 c.sd], boxT w.heap.size 24 #[.int .i64 x.bt, .int .i64 x.rw, .int .i64 x.wd, .int .i64 x.md, .int .u64 x.sd]]) := Lib.hid (HV4.out)
            have FLL := Lib.hid (flat_dims (skI HVE.out.i1).dims)
            have FLM := Lib.hid (flat_dims (skI HVE.out.i3).dims)
            go_wp2_with (first
              | (go_at_call_of 81 (Value.pointer (some p)); (with_reducible refine (scells_mid p F c l L _ (skI HVE.out.i1)).mono ?_); rintro e v1 ⟨g1, cap1, rfl, hm1, -, -, -, hb⟩; have HW1 := Lib.hid (HVE.out.up hb); have RD1 := Lib.hid hm1.rd; clear hb hm1)
              | (go_at_call 19; (with_reducible refine (lcells_S r R c l L _ (dlSI HW1.out.i0)).mono ?_); rintro e v2 ⟨A2, cap2, rfl, hm2, -, -, -, hb⟩; have HW2 := Lib.hid (HW1.out.up hb); have HB2 := Lib.hid hb; have RD2 := Lib.hid hm2; clear hb hm2)
              | (go_at_call 22; (with_reducible refine (rsame_any _ _ _ _ _ _ L.flatten L.flatten _ (RD1.out.up HB2.out) RD2.out FLL.out FLL.out (by omega) (by omega)).mono ?_); rintro e v3 ⟨rfl, hb⟩; have HW3 := Lib.hid (HW2.out.up hb); clear hb)
              | (go_at_call_of 81 (Value.pointer (some o)); (with_reducible refine (scells_mid o G1 c l L _ (skI HW3.out.i3)).mono ?_); rintro e v4 ⟨g4, cap4, rfl, hm4, -, -, -, hb⟩; have HW4 := Lib.hid (HW3.out.up hb); have RD4 := Lib.hid hm4.rd; clear hb hm4)
              | (go_at_call 19; (with_reducible refine (lcells_S q Q1 c l L _ (dlSI HW4.out.i2)).mono ?_); rintro e v5 ⟨A5, cap5, rfl, hm5, -, -, -, hb⟩; have HW5 := Lib.hid (HW4.out.up hb); have HB5 := Lib.hid hb; have RD5 := Lib.hid hm5; clear hb hm5)
              | (go_at_call 22; (with_reducible refine (rsame_any _ _ _ _ _ _ L.flatten L.flatten _ (RD4.out.up HB5.out) RD5.out FLM.out FLM.out (by omega) (by omega)).mono ?_); rintro e v6 ⟨rfl, hb⟩; have HW6 := Lib.hid (HW5.out.up hb); clear hb))
            all_goals go_roundw
            case rel => exact ⟨k + 1, _, _, _, _, _, _, _, _, _, _, hk1', hk2', rfl, rfl, rfl, rfl, by go_num, HW6.out⟩
            case measure => simp [intOf]; omega
      by_cases hkd7 : kd = 7
      · have hkd := hkd7
        clear hkd7
        as_aux_lemma =>
          have hk1 : (kd == 1) = false := by simp [hkd]
          have hk2 : (kd == 2) = false := by simp [hkd]
          have hk3 : (kd == 3) = false := by simp [hkd]
          have hk4 : (kd == 4) = false := by simp [hkd]
          have hk5 : (kd == 5) = false := by simp [hkd]
          have hk6 : (kd == 6) = false := by simp [hkd]
          have hk7 : (kd == 7) = true := by simp [hkd]
          clear hkd
          have CM := Lib.hid (fun w h g => vinner_S p F c l L o G M w h g)
          have CJ := Lib.hid (fun w h g => linner_S r R c l L q Q M w h g (skI HVr.out.i1).dims.len (skI HVr.out.i3).dims.len)
          obtain ⟨HI, hH⟩ : ∃ x, Wid.fh (inVal c c l l L M) = x := ⟨_, rfl⟩
          obtain ⟨LO, hL⟩ : ∃ x, Wid.fl (inVal c c l l L M) = x := ⟨_, rfl⟩
          obtain ⟨E, hE⟩ : ∃ x, inCode c c l l L M = x := ⟨_, rfl⟩
          rw [hH, hL, hE] at CM CJ
          clear hH hL hE
          go_upto_region 53 with (first
            | (go_at_call 20; (with_reducible refine (CM.out _ (skI HVr.out.i1) (skI HVr.out.i3)).mono ?_); rintro e w1 ⟨rfl, hb⟩; have HV1 := Lib.hid (HVr.out.up hb); clear hb)
            | (go_at_call 21; (with_reducible refine (CJ.out _ (dlSI (HV1.out.up (by repeat' (first | (with_reducible exact Below.refl _ _) | (with_reducible assumption) | (with_reducible refine below_over ?_ _ _) | (with_reducible refine Lw.below_alloc ?_ _) | (with_reducible refine Below.drew ?_) | (with_reducible refine below_drewN ?_ _) | (with_reducible refine Below.setCell ?_ ?_ _) | go_size))).i0) (dlSI (HV1.out.up (by repeat' (first | (with_reducible exact Below.refl _ _) | (with_reducible assumption) | (with_reducible refine below_over ?_ _ _) | (with_reducible refine Lw.below_alloc ?_ _) | (with_reducible refine Below.drew ?_) | (with_reducible refine below_drewN ?_ _) | (with_reducible refine Below.setCell ?_ ?_ _) | go_size))).i2)).mono ?_); rintro e w2 ⟨rfl, hb⟩; have HV2 := Lib.hid ((HV1.out.up (by repeat' (first | (with_reducible exact Below.refl _ _) | (with_reducible assumption) | (with_reducible refine below_over ?_ _ _) | (with_reducible refine Lw.below_alloc ?_ _) | (with_reducible refine Below.drew ?_) | (with_reducible refine below_drewN ?_ _) | (with_reducible refine Below.setCell ?_ ?_ _) | go_size))).up hb); have y0 := cell_up (grd_cell (heap_alloc_new w1 (.cells #[.int .i64 HI, .int .u64 LO] 49)) 0 (v := .int .i64 HI) rfl) hb; have y1 := cell_up (grd_cell (heap_alloc_new w1 (.cells #[.int .i64 HI, .int .u64 LO] 49)) 1 (v := .int .u64 LO) rfl) hb; have hz9 : w1.heap.size < w2.heap.size := (by have := hb.size; simp at this; omega); clear hb))
          all_goals
            clear d1 d2 d3
            have HVE : Hid (Have w _ [dlST r R c l L, skT p F c l L, dlST q Q c l M, skT o G c l M, boxT gc 24 #[.int .i64 c.bt, .int .i64 c.rw, .int .i64 c.wd, .int .i64 c.md, .int .u64 c.sd], boxT w.heap.size 24 #[.int .i64 x.bt, .int .i64 x.rw, .int .i64 x.wd, .int .i64 x.md, .int .u64 x.sd]]) := Lib.hid (HV2.out.up (Lw.below_alloc (Below.refl _ _) (.cells #[.int .i64 HI, .int .u64 LO] 49)))
            have FLL := Lib.hid (flat_dims (skI HVE.out.i1).dims)
            have FLM := Lib.hid (flat_dims (skI HVE.out.i3).dims)
            go_wp2_with (first
              | (go_at_call_of 81 (Value.pointer (some p)); (with_reducible refine (scells_mid p F c l L _ (skI HVE.out.i1)).mono ?_); rintro e v1 ⟨g1, cap1, rfl, hm1, -, -, -, hb⟩; have HW1 := Lib.hid (HVE.out.up hb); have RD1 := Lib.hid hm1.rd; clear hb hm1)
              | (go_at_call 19; (with_reducible refine (lcells_S r R c l L _ (dlSI HW1.out.i0)).mono ?_); rintro e v2 ⟨A2, cap2, rfl, hm2, -, -, -, hb⟩; have HW2 := Lib.hid (HW1.out.up hb); have HB2 := Lib.hid hb; have RD2 := Lib.hid hm2; clear hb hm2)
              | (go_at_call 22; (with_reducible refine (rsame_any _ _ _ _ _ _ L.flatten L.flatten _ (RD1.out.up HB2.out) RD2.out FLL.out FLL.out (by omega) (by omega)).mono ?_); rintro e v3 ⟨rfl, hb⟩; have HW3 := Lib.hid (HW2.out.up hb); clear hb)
              | (go_at_call_of 81 (Value.pointer (some o)); (with_reducible refine (scells_mid o G c l M _ (skI HW3.out.i3)).mono ?_); rintro e v4 ⟨g4, cap4, rfl, hm4, -, -, -, hb⟩; have HW4 := Lib.hid (HW3.out.up hb); have RD4 := Lib.hid hm4.rd; clear hb hm4)
              | (go_at_call 19; (with_reducible refine (lcells_S q Q c l M _ (dlSI HW4.out.i2)).mono ?_); rintro e v5 ⟨A5, cap5, rfl, hm5, -, -, -, hb⟩; have HW5 := Lib.hid (HW4.out.up hb); have HB5 := Lib.hid hb; have RD5 := Lib.hid hm5; clear hb hm5)
              | (go_at_call 22; (with_reducible refine (rsame_any _ _ _ _ _ _ M.flatten M.flatten _ (RD4.out.up HB5.out) RD5.out FLM.out FLM.out (by omega) (by omega)).mono ?_); rintro e v6 ⟨rfl, hb⟩; have HW6 := Lib.hid (HW5.out.up hb); clear hb))
            all_goals go_roundw
            case rel => exact ⟨k + 1, _, _, _, _, _, _, _, _, _, _, hk1', hk2', rfl, rfl, rfl, rfl, by go_num, HW6.out⟩
            case measure => simp [intOf]; omega
      as_aux_lemma =>
        have hk1 : (kd == 1) = false := by simpa using hkd1
        have hk2 : (kd == 2) = false := by simpa using hkd2
        have hk3 : (kd == 3) = false := by simpa using hkd3
        have hk4 : (kd == 4) = false := by simpa using hkd4
        have hk5 : (kd == 5) = false := by simpa using hkd5
        have hk6 : (kd == 6) = false := by simpa using hkd6
        have hk7 : (kd == 7) = false := by simpa using hkd7
        clear hkd1 hkd2 hkd3 hkd4 hkd5 hkd6 hkd7
        go_upto_region 16 with fail
        go_region_held3 (fun w' => w'.cell? ⟨g, o3, none⟩ = some (.int .i64 kd) ∧ w'.cell? ⟨g, o3 + 1, none⟩ = some (.int .u64 key) ∧ w'.cell? ⟨g, o3 + 2, none⟩ = some (.int .i64 d)) (first | (refine ⟨?_, ?_, ?_⟩ <;> (first | (with_reducible assumption) | (with_reducible refine cell_up d1 ?_) | (with_reducible refine cell_up d2 ?_) | (with_reducible refine cell_up d3 ?_)) <;> (repeat' (first | (with_reducible exact Below.refl _ _) | (with_reducible assumption) | (with_reducible refine below_over ?_ _ _) | (with_reducible refine Lw.below_alloc ?_ _) | (with_reducible refine Below.drew ?_) | (with_reducible refine below_drewN ?_ _) | (with_reducible refine Below.setCell ?_ ?_ _) | go_size)))) (first
          | (go_at_call 166; (with_reducible refine (supd_any p F c l L key d _ (skI (HVr.out.up (by repeat' (first | (with_reducible exact Below.refl _ _) | (with_reducible assumption) | (with_reducible refine below_over ?_ _ _) | (with_reducible refine Lw.below_alloc ?_ _) | (with_reducible refine Below.drew ?_) | (with_reducible refine below_drewN ?_ _) | (with_reducible refine Below.setCell ?_ ?_ _) | go_size))).i1) kb.1 kb.2 db.1 db.2).mono ?_); rintro e w1 ⟨rfl, F1, h1, h2, h3⟩; have HV1 := Lib.hid ((HVr.out.up (by repeat' (first | (with_reducible exact Below.refl _ _) | (with_reducible assumption) | (with_reducible refine below_over ?_ _ _) | (with_reducible refine Lw.below_alloc ?_ _) | (with_reducible refine Below.drew ?_) | (with_reducible refine below_drewN ?_ _) | (with_reducible refine Below.setCell ?_ ?_ _) | go_size))).turn_1 (skT p F1 c l (upRes c l L key d)) h1 h2 h3); clear h1 h2 h3; clear d1 d2 d3; have d1 := cell_up HD1.out HV1.out.below; have d2 := cell_up HD2.out HV1.out.below; have d3 := cell_up HD3.out HV1.out.below))
        go_upto_region 17 with fail
        go_region_held3 (fun w' => w'.cell? ⟨g, o3, none⟩ = some (.int .i64 kd) ∧ w'.cell? ⟨g, o3 + 1, none⟩ = some (.int .u64 key) ∧ w'.cell? ⟨g, o3 + 2, none⟩ = some (.int .i64 d)) (first | (refine ⟨?_, ?_, ?_⟩ <;> (first | (with_reducible assumption) | (with_reducible refine cell_up d1 ?_) | (with_reducible refine cell_up d2 ?_) | (with_reducible refine cell_up d3 ?_)) <;> (repeat' (first | (with_reducible exact Below.refl _ _) | (with_reducible assumption) | (with_reducible refine below_over ?_ _ _) | (with_reducible refine Lw.below_alloc ?_ _) | (with_reducible refine Below.drew ?_) | (with_reducible refine below_drewN ?_ _) | (with_reducible refine Below.setCell ?_ ?_ _) | go_size)))) (first
          | (go_at_call 13; (with_reducible refine (lupd_S r R c l L key d _ (dlSI (HV1.out.up (by repeat' (first | (with_reducible exact Below.refl _ _) | (with_reducible assumption) | (with_reducible refine below_over ?_ _ _) | (with_reducible refine Lw.below_alloc ?_ _) | (with_reducible refine Below.drew ?_) | (with_reducible refine below_drewN ?_ _) | (with_reducible refine Below.setCell ?_ ?_ _) | go_size))).i0) kb.1 kb.2 db.1 db.2).mono ?_); rintro e w2 ⟨rfl, R1, h1, h2, h3⟩; have HV2 := Lib.hid ((HV1.out.up (by repeat' (first | (with_reducible exact Below.refl _ _) | (with_reducible assumption) | (with_reducible refine below_over ?_ _ _) | (with_reducible refine Lw.below_alloc ?_ _) | (with_reducible refine Below.drew ?_) | (with_reducible refine below_drewN ?_ _) | (with_reducible refine Below.setCell ?_ ?_ _) | go_size))).turn_0 (dlST r R1 c l (upRes c l L key d)) h1 h2 h3); clear h1 h2 h3; clear d1 d2 d3; have d1 := cell_up HD1.out HV2.out.below; have d2 := cell_up HD2.out HV2.out.below; have d3 := cell_up HD3.out HV2.out.below))
        go_upto_region 53 with fail
        clear d1 d2 d3
        have HVE : Hid (Have w _ [dlST r R1 c l (upRes c l L key d), skT p F1 c l (upRes c l L key d), dlST q Q c l M, skT o G c l M, boxT gc 24 #[.int .i64 c.bt, .int .i64 c.rw, .int .i64 c.wd, .int .i64 c.md, .int .u64 c.sd], boxT w.heap.size 24 #[.int .i64 x.bt, .int .i64 x.rw, .int .i64 x.wd, .int .i64 x.md, .int .u64 x.sd]]) := Lib.hid (HV2.out.up (by repeat' (first | (with_reducible exact Below.refl _ _) | (with_reducible assumption) | (with_reducible refine below_over ?_ _ _) | (with_reducible refine Lw.below_alloc ?_ _) | (with_reducible refine Below.drew ?_) | (with_reducible refine below_drewN ?_ _) | (with_reducible refine Below.setCell ?_ ?_ _) | go_size)))
        have FLL := Lib.hid (flat_dims (skI HVE.out.i1).dims)
        have FLM := Lib.hid (flat_dims (skI HVE.out.i3).dims)
        go_wp2_with (first
          | (go_at_call_of 81 (Value.pointer (some p)); (with_reducible refine (scells_mid p F1 c l (upRes c l L key d) _ (skI HVE.out.i1)).mono ?_); rintro e v1 ⟨g1, cap1, rfl, hm1, -, -, -, hb⟩; have HW1 := Lib.hid (HVE.out.up hb); have RD1 := Lib.hid hm1.rd; clear hb hm1)
          | (go_at_call 19; (with_reducible refine (lcells_S r R1 c l (upRes c l L key d) _ (dlSI HW1.out.i0)).mono ?_); rintro e v2 ⟨A2, cap2, rfl, hm2, -, -, -, hb⟩; have HW2 := Lib.hid (HW1.out.up hb); have HB2 := Lib.hid hb; have RD2 := Lib.hid hm2; clear hb hm2)
          | (go_at_call 22; (with_reducible refine (rsame_any _ _ _ _ _ _ (upRes c l L key d).flatten (upRes c l L key d).flatten _ (RD1.out.up HB2.out) RD2.out FLL.out FLL.out (by omega) (by omega)).mono ?_); rintro e v3 ⟨rfl, hb⟩; have HW3 := Lib.hid (HW2.out.up hb); clear hb)
          | (go_at_call_of 81 (Value.pointer (some o)); (with_reducible refine (scells_mid o G c l M _ (skI HW3.out.i3)).mono ?_); rintro e v4 ⟨g4, cap4, rfl, hm4, -, -, -, hb⟩; have HW4 := Lib.hid (HW3.out.up hb); have RD4 := Lib.hid hm4.rd; clear hb hm4)
          | (go_at_call 19; (with_reducible refine (lcells_S q Q c l M _ (dlSI HW4.out.i2)).mono ?_); rintro e v5 ⟨A5, cap5, rfl, hm5, -, -, -, hb⟩; have HW5 := Lib.hid (HW4.out.up hb); have HB5 := Lib.hid hb; have RD5 := Lib.hid hm5; clear hb hm5)
          | (go_at_call 22; (with_reducible refine (rsame_any _ _ _ _ _ _ M.flatten M.flatten _ (RD4.out.up HB5.out) RD5.out FLM.out FLM.out (by omega) (by omega)).mono ?_); rintro e v6 ⟨rfl, hb⟩; have HW6 := Lib.hid (HW5.out.up hb); clear hb))
        all_goals go_roundw
        case rel => exact ⟨k + 1, _, _, _, _, _, _, _, _, _, _, hk1', hk2', rfl, rfl, rfl, rfl, by go_num, HW6.out⟩
        case measure => simp [intOf]; omega
    · have hcases : ((k : Int) < n0 ∧ ¬ (k : Int) < 50) ∨ ¬ (k : Int) < n0 := by omega
      obtain ⟨e0, e1, e2, e3, e4⟩ := box5 HVr.out.i4
      have HCF := Lib.hid (fun w' h => sconfig_any p F c l L w' h)
      have HLV := Lib.hid (fun w' h => slevel_any p F c l L w' h)
      clear hlt hwb
      rcases hcases with ⟨hc1, hc2⟩ | hc1
      all_goals go_upto_region 55 with fail
      all_goals go_region_held3 (fun w' => w'.cell? ⟨gc, 0, none⟩ = some (.int .i64 c.bt) ∧ w'.cell? ⟨gc, 1, none⟩ = some (.int .i64 c.rw) ∧ w'.cell? ⟨gc, 2, none⟩ = some (.int .i64 c.wd) ∧ w'.cell? ⟨gc, 3, none⟩ = some (.int .i64 c.md) ∧ w'.cell? ⟨gc, 4, none⟩ = some (.int .u64 c.sd)) (first | (refine ⟨?_, ?_, ?_, ?_, ?_⟩ <;> (first | (with_reducible assumption) | (with_reducible refine cell_up e0 ?_) | (with_reducible refine cell_up e1 ?_) | (with_reducible refine cell_up e2 ?_) | (with_reducible refine cell_up e3 ?_) | (with_reducible refine cell_up e4 ?_)) <;> (repeat' (first | (with_reducible exact Below.refl _ _) | (with_reducible assumption) | (with_reducible refine below_over ?_ _ _) | (with_reducible refine Lw.below_alloc ?_ _) | (with_reducible refine Below.drew ?_) | (with_reducible refine below_drewN ?_ _) | (with_reducible refine Below.setCell ?_ ?_ _) | go_size)))) (first
        | (go_at_call 80; (with_reducible refine (HCF.out _ (skI (HVr.out.up (by repeat' (first | (with_reducible exact Below.refl _ _) | (with_reducible assumption) | (with_reducible refine below_over ?_ _ _) | (with_reducible refine Lw.below_alloc ?_ _) | (with_reducible refine Below.drew ?_) | (with_reducible refine below_drewN ?_ _) | (with_reducible refine Below.setCell ?_ ?_ _) | go_size))).i1)).mono ?_); rintro e w' ⟨rfl, hb⟩; obtain ⟨bs1, dd1, rfl⟩ := below_grow hb; clear hb)
        | (go_at_call 110; (with_reducible refine (HLV.out _ (skI (HVr.out.up (by repeat' (first | (with_reducible exact Below.refl _ _) | (with_reducible assumption) | (with_reducible refine below_over ?_ _ _) | (with_reducible refine Lw.below_alloc ?_ _) | (with_reducible refine Below.drew ?_) | (with_reducible refine below_drewN ?_ _) | (with_reducible refine Below.setCell ?_ ?_ _) | go_size))).i1)).mono ?_); rintro e w' ⟨rfl, hb⟩; obtain ⟨bs2, dd2, rfl⟩ := below_grow hb; clear hb))
      all_goals go_wp2
      all_goals go_ret
      all_goals exact ⟨ret_bs (by first | rfl | (simp [*]; done)), (HVr.out.up (by repeat' (first | (with_reducible exact Below.refl _ _) | (with_reducible assumption) | (with_reducible refine below_over ?_ _ _) | (with_reducible refine Lw.below_alloc ?_ _) | (with_reducible refine Below.drew ?_) | (with_reducible refine below_drewN ?_ _) | (with_reducible refine Below.setCell ?_ ?_ _) | go_size))).below⟩
end Go.Proofs.YtkannodfamnmcaaGreat.Lev
