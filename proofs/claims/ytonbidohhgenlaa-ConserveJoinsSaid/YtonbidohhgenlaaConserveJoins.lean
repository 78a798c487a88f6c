/- The statement ConserveJoins of layer 9 holds. Printed by wip/gen/con*.py. -/
import Derived.Test.YtonbidohhgenlaaConserveBounds
import Derived.Test.YtonbidohhgenlaaLaw
import Derived.Test.YtonbidohhgenlaaGrdPair
import Derived.Deep.LoopGhost
import Derived.Deep.RegionHeld3
import Derived.Deep.QuietTactic
import Derived.BigQuiet
namespace Go.Proofs.Ytonbidohhgenlaa.Con
open Go Go.RowKit Lw Grd Lin
set_option linter.unusedVariables false
set_option linter.unusedSimpArgs false
theorem plus_g {w0 w : World} {t0 t1 t3 t4 : Thing} {p q : Addr} {F G : Nat → Prop} {m n : Nat} {L M L2 : List (List Int)} {ts : List Thing} (h : Have w0 w (t0 :: t1 :: pgT q G m n M :: t3 :: t4 :: pgT p F m n L :: ts)) (hc : jcode 1 m n m n L M = 0 ∧ jres 1 m n m n L M = L2) :
    Calls Try.prog 21 #[.pointer (some p), .pointer (some q)] w fun e w' => e = .returned (.int .i64 0) ∧ w.heap.size ≤ w'.heap.size ∧ ∃ F', Have w0 w' (t0 :: t1 :: pgT q G m n M :: t3 :: t4 :: pgT p F' m n L2 :: ts) := by
  obtain ⟨h1, rfl⟩ := hc
  refine (plus_any p F m n L q G m n M w (pgI h.i5) (pgI h.i2) (fun k h1 h2 => h.ap25 k h2 h1)).mono fun e w' ⟨he, F', hnp, hnk, hnf⟩ => ?_
  rw [h1] at he
  exact ⟨he, hnk.size, F', h.turn_5 (pgT p F' m n _) hnp hnk hnf⟩
theorem plus_h {w0 w : World} {t1 t2 : Thing} {p q : Addr} {F G : Nat → Prop} {m n : Nat} {L M L2 : List (List Int)} {ts : List Thing} (h : Have w0 w (pgT q G m n M :: t1 :: t2 :: pgT p F m n L :: ts)) (hc : jcode 1 m n m n L M = 0 ∧ jres 1 m n m n L M = L2) :
    Calls Try.prog 21 #[.pointer (some p), .pointer (some q)] w fun e w' => e = .returned (.int .i64 0) ∧ w.heap.size ≤ w'.heap.size ∧ ∃ F', Have w0 w' (pgT q G m n M :: t1 :: t2 :: pgT p F' m n L2 :: ts) := by
  obtain ⟨h1, rfl⟩ := hc
  refine (plus_any p F m n L q G m n M w (pgI h.i3) (pgI h.i0) (fun k h1 h2 => h.ap03 k h2 h1)).mono fun e w' ⟨he, F', hnp, hnk, hnf⟩ => ?_
  rw [h1] at he
  exact ⟨he, hnk.size, F', h.turn_3 (pgT p F' m n _) hnp hnk hnf⟩
set_option maxRecDepth 100000 in
set_option maxHeartbeats 4000000 in
theorem joins_law (rows width : Int) (A : Option Addr) (n0 c0 : Nat) (qs : List StepV) (w : World) (at0 : Int) (A1 : Option Addr) (n1 c1 : Nat) (cs : List Int) (hA1 : A1 = none → n1 = 0 ∧ c1 = 0) (hn1 : n1 ≤ c1) (hc1 : c1 ≤ maxLen) (hr1 : Rd .i64 w A1 cs) (hl1 : cs.length = n1) (hz1 : In64 cs) (hq : Lin.Steps w A n0 c0 qs) :
    Calls Try.prog 5 #[.agg #[.int .i64 rows, .int .i64 width, .slice A n0 c0], .int .i64 at0, .slice A1 n1 c1] w fun e w' => e = .returned (.bool true) ∧ Below w.heap.size w w' := by
  obtain ⟨j0, hj, hj0, hj1, hj2⟩ := info_parts ints_info
  obtain ⟨X, Y, a1, b1x, c1x, dd1, ee1, ff1, gg1⟩ := sized_part at0 61 (by omega) (by omega)
  obtain ⟨T, hT⟩ : ∃ T : Nat, Y = T := ⟨Y.toNat, by omega⟩
  subst hT
  clear ee1 ff1
  have hT60 : T ≤ 60 := by omega
  obtain ⟨m, hm⟩ : ∃ m, rowsOf rows = m := ⟨_, rfl⟩
  obtain ⟨n, hn⟩ : ∃ n, widthOf width = n := ⟨_, rfl⟩
  have hmb := rows_bd rows
  have hnb := width_bd width
  rw [hm] at hmb
  rw [hn] at hnb
  have HQ := Lib.hid hq
  have HR1 := Lib.hid hr1
  have hnc := hq.nc
  have hcm := hq.cm
  unfold maxLen at hcm
  have hok1 := opsK_ok 60 0 T qs hmb.1 hnb.1
  have hok2 := opsK_ok 60 T 60 qs hmb.1 hnb.1
  have D1 := Lib.hid (fun w hq => both_any rows width A n0 c0 qs m n 0 T 0 T w hm hn hq rfl rfl (by omega) (by omega))
  have D2 := Lib.hid (fun w hq => both_any rows width A n0 c0 qs m n T 60 T 60 w hm hn hq rfl rfl (by omega) (by omega))
  have hrose1 := rose_all (rose_zero m n) hok1.1 hok1.2
  have hwi1 := rose_dims hok1.1 hok1.2 (opsK_len _ _ _ _ _ _)
  have hrose2 := rose_all (rose_zero m n) hok2.1 hok2.2
  have hwi2 := rose_dims hok2.1 hok2.2 (opsK_len _ _ _ _ _ _)
  rw [← opsB_K] at hrose1 hwi1 hrose2 hwi2
  rw [List.nil_append] at hrose1 hrose2
  have hpart := opsB_part T m n qs hT60
  obtain ⟨LG1, hLG1⟩ : ∃ L, rsAll (zerosL m n) (opsB 0 T m n qs) = L := ⟨_, rfl⟩
  obtain ⟨LH1, hLH1⟩ : ∃ L, chAll (zerosL m n) (opsB 0 T m n qs) = L := ⟨_, rfl⟩
  obtain ⟨LG2, hLG2⟩ : ∃ L, rsAll (zerosL m n) (opsB T 60 m n qs) = L := ⟨_, rfl⟩
  obtain ⟨LH2, hLH2⟩ : ∃ L, chAll (zerosL m n) (opsB T 60 m n qs) = L := ⟨_, rfl⟩
  rw [hLG1, hLH1] at D1 hrose1 hwi1
  rw [hLG2, hLH2] at D2 hrose2 hwi2
  have hrose := hrose1.join hrose2
  rw [hpart] at hrose
  have HJ1 := Lib.hid (jcode_yes (s := 1) (m := m) (n := n) (join_fits (m := m) (n := n) hwi1.2 hwi2.2))
  have HJ2 := Lib.hid (jcode_yes (s := 1) (m := m) (n := n) (join_fits (m := m) (n := n) hwi1.1 hwi2.1))
  obtain ⟨LG, hLG⟩ : ∃ L, gridS 1 LG1 LG2 = L := ⟨_, rfl⟩
  obtain ⟨LH, hLH⟩ : ∃ L, gridS 1 LH1 LH2 = L := ⟨_, rfl⟩
  rw [hLG] at HJ1 hrose
  rw [hLH] at HJ2 hrose
  have HLO : Hid (∀ cols, Meets m n cols → Lin.own cols (opsB 0 60 m n qs) ≤ lea LG cols ∧ lea LG cols ≤ lea LH cols ∧ 0 ≤ lea LG cols) := Lib.hid (fun cols hc => hrose.lea_own hc)
  obtain ⟨N, hN⟩ : ∃ N, N = min 60 qs.length := ⟨_, rfl⟩
  have HNQ := Lib.hid hN
  have HNQ2 : Hid (N = min 60 n0) := Lib.hid (by rw [hN, hq.len])
  have hN60 : N ≤ 60 := by omega
  obtain ⟨M, hM⟩ : ∃ M, M = N + 1 := ⟨_, rfl⟩
  have hMi : (M : Int) - 1 = (N : Int) := by omega
  have CL6 := Lib.hid (cut_len cs m n)
  have CS := Lib.hid (fun w => sized_any rows width A n0 c0 w)
  rw [hm, hn] at CS
  have HBX : Hid (Have w (w.alloc (.cells #[.int .i64 rows, .int .i64 width, .slice A n0 c0] 24)) [boxT w.heap.size 24 #[.int .i64 rows, .int .i64 width, .slice A n0 c0]]) := Lib.hid (box_new w _ _)
  clear hm hn hr1 hq hok1 hok2 hrose hrose1 hrose2 hwi1 hwi2 hpart hLG1 hLH1 hLG2 hLH2 hLG hLH hN
  go_enter Try.func5, Try.ntmps5
  go_wp2_with (first
    | (at_builtin; (refine app_val rfl _ _ 42 rfl w2.heap.size 30 j0 (.slice none 0 0) 24 intss_u hj hj0 hj1 hj2 (by decide) hdr R.length (R.map rowHd) rfl ((rr_up (rrI HV6.out.i1) HB6.out).outer.alloc _) (.slice (some ⟨g6, 0, none⟩) m cap6) wc.heap.size rfl (cell_one_new _ _ _) rfl (by have := HRN.out; unfold maxLen; omega) (by have := HRN.out; omega) (by have := HS26.out; simp; omega) ?_); intro g7 cap7 w7 own7 grow7 hg7 hlt7; have hx7 := HV6.out.row_push HB6.out HS26.out hg6 hl6 CL6.out hc6 hm6 RD6.out own7 grow7 hg7; simp only [HRN.out] at hx7 ⊢; have HV7 := Lib.hid hx7.1; clear hx7 own7 grow7 hg7)
    | (go_at_call 18; (with_reducible refine (rcut_any A1 n1 c1 cs m n _ (HR1.out.up HBW6.out) hl1 (Nat.le_trans hn1 hc1) (by omega) (by omega) (by omega)).mono ?_); rintro e wc ⟨A6, cap6, rfl, own6, rd6, hc6, hm6, hb6⟩; obtain ⟨g6, rfl, hg6, hl6⟩ := own_block own6; have RD6 := Lib.hid rd6; have HB6 := Lib.hid hb6; have hs6 := HB6.out.size; have hs30 := HBW6.out.size; clear own6 rd6 hb6)
    | (go_at_call 21; (with_reducible refine (plus_h HV5.out HJ2.out).mono ?_); rintro e w6 ⟨rfl, hs56, F6, hv6⟩; have HV6 := Lib.hid hv6.drop_0.drop_0.drop_0; have HBW6 := Lib.hid HV6.out.below; have HS26 : Hid (w2.heap.size ≤ w6.heap.size) := Lib.hid (by have := HS23.out; have := HS34.out; have := HS45.out; omega); clear hv6 hs56)
    | (go_at_call 21; (with_reducible refine (plus_g HV4.out HJ1.out).mono ?_); rintro e w5 ⟨rfl, hs45, F5, hv5⟩; have HV5 := Lib.hid hv5; have HS45 := Lib.hid hs45; clear hv5 hs45)
    | (go_at_call 17; (with_reducible refine (D2.out _ (HQ.out.up HBW3.out)).mono ?_); rintro e w4 ⟨p3, p4, F3, F4, hdr2, R2, rfl, hv, hR⟩; have HV4 := Lib.hid (HV3.out.join hv); simp only [List.cons_append, List.nil_append] at HV4; have HS34 : Hid (w3.heap.size ≤ w4.heap.size) := Lib.hid (hv.below.size); clear k0 k1 k2 hv hR)
    | (go_at_call 17; (with_reducible refine (D1.out _ (HQ.out.up HBW2.out)).mono ?_); rintro e w3 ⟨p, p2, F, F2, hdr, R, rfl, hv, hR⟩; have HV3 := Lib.hid (HV2.out.join hv); simp only [List.cons_append, List.nil_append] at HV3; have HR := Lib.hid hR; have HS23 : Hid (w2.heap.size ≤ w3.heap.size) := Lib.hid (hv.below.size); have HBW3 := Lib.hid HV3.out.below; have HRN : Hid (R.length = N) := Lib.hid (by rw [HNQ.out]; exact rows_len hR); clear k0 k1 k2; obtain ⟨k0, k1, k2⟩ := box3 HV3.out.i3; clear hv hR)
    | (go_at_call 16; (with_reducible refine (CS.out _).mono ?_); rintro e w2 ⟨rfl, hb⟩; have HV2 := Lib.hid (HV1.out.up hb); clear k0 k1 k2; obtain ⟨k0, k1, k2⟩ := box3 HV2.out.i0; have HBW2 := Lib.hid HV2.out.below; clear hb)
    | (go_at_call 8; (with_reducible refine (shown_any _).mono ?_); rintro e w1 ⟨rfl, hb⟩; have HV1 := Lib.hid (HBX.out.up hb); obtain ⟨k0, k1, k2⟩ := box3 HV1.out.i0; clear hb))
  have HNA := Lib.hid (nums_all HR.out HRN.out (g6, cap6, cutOf cs m n))
  obtain ⟨gad7, hg7⟩ : ∃ a : Addr, (⟨g7, 0, none⟩ : Addr) = a := ⟨_, rfl⟩
  rw [← hM, hg7] at HV7 ⊢
  have hcap7 : M ≤ cap7 ∧ cap7 ≤ 9223372036854775807 := by
    obtain ⟨A', cap', e, h1, h2, -⟩ := (rrI HV7.out.i1).hd
    injection e with e1 e2 e3
    unfold maxLen at h2
    omega
  have hsl0 : (0 : Int) ≤ (N : Int) := by omega
  have hsl1 : (N : Int) ≤ (cap7 : Int) := by omega
  have hsw : IntKind.i64.wrap ((M : Int) - 1) = (N : Int) := by rw [hMi, IntKind.wrap_i64]; omega
  have hsw2 : IntKind.i64.wrap (N : Int) = (N : Int) := by rw [IntKind.wrap_i64]; omega
  have hsc : ¬ cap7 = 0 := by omega
  clear hg7 hs6 hs30 hM
  go_loopw [18] (fun iv wr => ∃ (i : Nat), i ≤ M ∧ iv = .int .i64 i ∧ Have w wr [pgT p2 F6 m n LH, rrT w2.heap.size 30 (.slice (some gad7) M cap7) (R ++ [(g6, cap6, cutOf cs m n)]), pgT p F5 m n LG, boxT w.heap.size 24 #[.int .i64 rows, .int .i64 width, .slice A n0 c0]]) (fun iv _ => M - (intOf iv).toNat)
  case atStart => exact ⟨0, Nat.zero_le _, rfl, HV7.out⟩
  case round =>
    obtain ⟨i, hi, rfl, hv⟩ := hrel
    have HVr := Lib.hid hv
    clear hv
    have HBr := Lib.hid HVr.out.below
    by_cases hiM : i < M
    · obtain ⟨b0, b1, b2⟩ := box3 HVr.out.i3
      obtain ⟨Z, hZi, hZm⟩ : ∃ Z, (nums (R ++ [(g6, cap6, cutOf cs m n)]))[i]? = some Z ∧ Meets m n Z := by
        by_cases hiN : i < N
        · obtain ⟨q, hq, e⟩ := HNA.out.2.1 i hiN
          exact ⟨_, e, cut_meets q.zs hmb.1 hnb.1⟩
        · have e : i = N := by omega
          subst e
          exact ⟨_, HNA.out.2.2, cut_meets cs hmb.1 hnb.1⟩
      obtain ⟨ad, gi, capi, hA7, cA, hci, hcm7, hrd, _⟩ := row_at2 (rrI HVr.out.i1) rfl hZi hZm.2.1
      injection hA7 with hA7
      subst hA7
      obtain ⟨gadi, hgadi⟩ : ∃ gadi : Addr, (⟨gi, 0, none⟩ : Addr) = gadi := ⟨_, rfl⟩
      rw [hgadi] at cA hrd
      have RDZ := Lib.hid hrd
      have HZM := Lib.hid hZm
      have HZL := Lib.hid hZm.2.1
      have hLO := HLO.out Z hZm
      obtain ⟨x, hx⟩ : ∃ x, lea LG Z = x := ⟨_, rfl⟩
      obtain ⟨y, hy⟩ : ∃ y, lea LH Z = y := ⟨_, rfl⟩
      obtain ⟨z, hz⟩ : ∃ z, Lin.own Z (opsB 0 60 m n qs) = z := ⟨_, rfl⟩
      rw [hx, hy, hz] at hLO
      obtain ⟨hzx, hxy, hx0⟩ := hLO
      have hg1 : decide (y < x) = false := decide_eq_false (by omega)
      have hg2 : decide (x > y) = false := decide_eq_false (by omega)
      have hg3 : decide (x < z) = false := decide_eq_false (by omega)
      have hg4 : ¬ y < x := by omega
      have hg5 : ¬ x < z := by omega
      have HX := Lib.hid hx
      have HY := Lib.hid hy
      have HZ := Lib.hid hz
      have HRW : Hid (∀ wx, Below wr.heap.size wr wx → ∀ (j : Nat) (q : StepV), j < N → qs[j]? = some q → ∃ (ad gad : Addr) (cap : Nat), some gad7 = some ad ∧ wx.cell? (ad.add j) = some (.slice (some gad) m cap) ∧ m ≤ cap ∧ cap ≤ maxLen ∧ Rd .i64 wx (some gad) (cutOf q.zs m n)) := Lib.hid (fun wx hbx j q hj hq => by
        obtain ⟨ad, gj, capj, hA8, cA8, h1, h2, h3, _⟩ := row_at2 (rrI HVr.out.i1) rfl (HNA.out.1 j q hj hq) (cut_len _ _ _)
        exact ⟨ad, ⟨gj, 0, none⟩, capj, hA8, cell_up cA8 hbx, h1, h2, h3.up hbx⟩)
      clear hZi hZm hrd hx hy hz hgadi
      unfold maxLen at hcm7
      go_wp2_with (first
        | (go_at_call 19; (with_reducible refine (lea_m (pgI HVs.out.i0) (RDZ.out.up HBs.out) HZM.out hmb.2 hnb.2 HY.out).mono ?_); rintro e w9 ⟨rfl, hb⟩; have HVt := Lib.hid (HVs.out.up hb); have HBt := Lib.hid (below_call HBs.out hb (Nat.le_refl _)); have cA9 := cell_up cA8 hb; have d0 := (box3 HVt.out.i3).1; have d1 := (box3 HVt.out.i3).2.1; have d2 := (box3 HVt.out.i3).2.2; clear hb)
        | (go_at_call 19; (with_reducible refine (lea_m (pgI HVr.out.i2) RDZ.out HZM.out hmb.2 hnb.2 HX.out).mono ?_); rintro e w8 ⟨rfl, hb⟩; have HVs := Lib.hid (HVr.out.up hb); have HBs := Lib.hid hb; have cA8 := cell_up cA hb; clear hb))
      go_region_held3 (fun w' => w'.cell? ⟨w.heap.size, 0, none⟩ = some (.int .i64 rows) ∧ w'.cell? ⟨w.heap.size, 1, none⟩ = some (.int .i64 width) ∧ w'.cell? ⟨w.heap.size, 2, none⟩ = some (.slice A n0 c0) ∧ w'.cell? (gad7.add i) = some (.slice (some gadi) m capi)) (first | (refine ⟨?_, ?_, ?_, ?_⟩ <;> (first | (with_reducible assumption) | (with_reducible refine cell_up d0 ?_) | (with_reducible refine cell_up d1 ?_) | (with_reducible refine cell_up d2 ?_) | (with_reducible refine cell_up cA9 ?_)) <;> (repeat' (first | (with_reducible exact Below.refl _ _) | (with_reducible assumption) | (with_reducible refine below_over ?_ _ _) | (with_reducible refine Lw.below_alloc ?_ _) | (with_reducible refine Below.drew ?_) | (with_reducible refine below_drewN ?_ _) | (with_reducible refine Below.setCell ?_ ?_ _) | go_size)))) (first
        | (go_at_call 20; (with_reducible refine (own_any rows width A n0 c0 qs m n N cap7 (some gad7) (some gadi) capi Z _ ((HQ.out.up HBr.out).up (below_call HBt.out (by repeat' (first | (with_reducible exact Below.refl _ _) | (with_reducible assumption) | (with_reducible refine below_over ?_ _ _) | (with_reducible refine Lw.below_alloc ?_ _) | (with_reducible refine Below.drew ?_) | (with_reducible refine below_drewN ?_ _) | (with_reducible refine Below.setCell ?_ ?_ _) | go_size)) (Nat.le_refl _))) HNQ2.out (by omega) (by unfold maxLen; omega) (RDZ.out.up (below_call HBt.out (by repeat' (first | (with_reducible exact Below.refl _ _) | (with_reducible assumption) | (with_reducible refine below_over ?_ _ _) | (with_reducible refine Lw.below_alloc ?_ _) | (with_reducible refine Below.drew ?_) | (with_reducible refine below_drewN ?_ _) | (with_reducible refine Below.setCell ?_ ?_ _) | go_size)) (Nat.le_refl _))) HZL.out (by omega) (HRW.out _ (below_call HBt.out (by repeat' (first | (with_reducible exact Below.refl _ _) | (with_reducible assumption) | (with_reducible refine below_over ?_ _ _) | (with_reducible refine Lw.below_alloc ?_ _) | (with_reducible refine Below.drew ?_) | (with_reducible refine below_drewN ?_ _) | (with_reducible refine Below.setCell ?_ ?_ _) | go_size)) (Nat.le_refl _)))).mono ?_); rintro e wa ⟨rfl, hb⟩; rw [HZ.out]; have HVu := Lib.hid (HVt.out.up (below_call (by repeat' (first | (with_reducible exact Below.refl _ _) | (with_reducible assumption) | (with_reducible refine below_over ?_ _ _) | (with_reducible refine Lw.below_alloc ?_ _) | (with_reducible refine Below.drew ?_) | (with_reducible refine below_drewN ?_ _) | (with_reducible refine Below.setCell ?_ ?_ _) | go_size)) hb (Nat.le_refl _))); have x0 := (box3 HVu.out.i3).1; have x1 := (box3 HVu.out.i3).2.1; have x2 := (box3 HVu.out.i3).2.2; have xA := cell_up cA9 (below_call (by repeat' (first | (with_reducible exact Below.refl _ _) | (with_reducible assumption) | (with_reducible refine below_over ?_ _ _) | (with_reducible refine Lw.below_alloc ?_ _) | (with_reducible refine Below.drew ?_) | (with_reducible refine below_drewN ?_ _) | (with_reducible refine Below.setCell ?_ ?_ _) | go_size)) hb (Nat.le_refl _)); clear hb))
      all_goals go_wp2
      all_goals go_roundw
      all_goals first
        | exact ⟨i + 1, by omega, by go_num, HVu.out⟩
        | (simp [intOf]; omega)
    · have e : i = M := by omega
      clear hiM
      subst e
      go_wp2
      go_ret
      exact ⟨rfl, HBr.out⟩
namespace conserveJoins
open Go.ChangeShapes Go.WideShapes Go.ChangeAt Go.Joins
set_option maxRecDepth 100000 in
theorem lifted (os : Os) (started : os.Started) (H : Type) (enc : TypeId × Value → H) :
    ReturnsInHanded {} Try.checked os 5 .any (Rows.conserveJoinsSpec.pre6 enc Try.prog Try.f5 Rows.conserveJoinsRow.domain false) (Rows.conserveJoinsSpec.post enc Try.prog Try.f5 false true false false) := by
  refine Lw.lifted (C := Try.checked) (B := 4) (by kernel_rfl) os started (by kernel_rfl) Try.func5
    (ChangeSpec.witness6 (enc := enc) (C := Try.checked) false ⟨#[], #[.agg #[.int .i64 0, .int .i64 0, .slice none 0 0], .int .i64 0, .slice none 0 0], []⟩ 8 (by kernel_rfl) (by kernel_rfl) (by kernel_rfl) (by kernel_rfl)) rfl Try.underlying4 (by kernel_rfl) (by kernel_rfl) (by kernel_rfl) ?_ ?_
  · intro ds h
    rw [Try.params5] at h
    match ds, h with
    | [_, _, _], _ => rfl
  · intro W base args ds p hval hA
    rw [Try.params5] at hA hval
    obtain ⟨v0, vs0, d0, ds0, p0, q0, hargs, rfl, rfl, h0, r0⟩ := trodAll_cons hA
    obtain ⟨v1, vs1, d1, ds1, p1, q1, rfl, rfl, rfl, h1, r1⟩ := trodAll_cons r0
    obtain ⟨v2, vs2, d2, ds2, p2, q2, rfl, rfl, rfl, h2, r2⟩ := trodAll_cons r1
    obtain ⟨rfl, rfl, rfl⟩ := trodAll_nil r2
    obtain rfl : args = #[v0, v1, v2] := by cases args; simp_all
    obtain ⟨y0, u0, A0, n0, c0, qs0, rfl, rb0, ub0, hq0⟩ := open_play (hval 0 24 v0 rfl rfl) h0
    obtain ⟨a1, rfl, rfl, rfl, w1⟩ := open_int Try.underlying3 (hval 1 3 v1 rfl rfl) h1
    have b1 := Lw.wf_i64 w1
    obtain ⟨A2, n2, c2, zs2, rfl, hA2, hn2, hc2, hr2, hl2, hz2⟩ := open_list_int (hval 2 30 v2 rfl rfl) h2
    exact joins_law y0 u0 A0 n0 c0 qs0 W a1 A2 n2 c2 zs2 hA2 hn2 hc2 hr2 hl2 hz2 hq0
theorem over : Rows.conserveJoinsRow.holds Try.pinned (OpenSpec.ofChange Rows.conserveJoinsSpec) :=
  OpenClaim.holds_of_wide 5 Try.f5 rfl rfl rfl rfl rfl rfl rfl ⟨rfl, rfl, rfl, rfl, rfl⟩ rfl rfl rfl rfl rfl (by kernel_rfl) Try.func5 (by kernel_rfl)
    (of_decide_eq_true (by kernel_rfl)) (by unfold Func.isWrapper; first | (rw [if_pos (by decide +kernel)]; kernel_rfl) | (rw [if_neg (by decide +kernel)]; exact ⟨rfl, rfl⟩))
    (fun os started H enc _ => lifted os started H enc)
theorem proved : Rows.ConserveJoinsSaid :=
  over
#print axioms proved
end conserveJoins
end Go.Proofs.Ytonbidohhgenlaa.Con
