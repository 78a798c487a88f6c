/- The statement ConserveRises of layer 9 holds. Printed by wip/gen/con*.py. -/
import Derived.Test.YtonbidohhgenlaaConserveBounds
import Derived.Test.YtonbidohhgenlaaLaw
import Derived.Deep.LoopGhost
import Derived.Deep.RegionHeld3
import Derived.Deep.QuietTactic
import Derived.BigQuiet
namespace Go.Proofs.Ytonbidohhgenlaa.Con
open Go Go.RowKit Lw Grd Lin
set_option linter.unusedVariables false
set_option linter.unusedSimpArgs false
theorem own_row2 {w : World} {B : Nat} {e : TypeId} {A : Addr} {n cap : Nat} {zs : List Int} (h : w.ownsRow B e 1 (.slice (some A) n cap) n (zs.map (Value.int .i64))) : Row1 w (some A) zs ∧ ∀ k, (rowT (some A) zs).F k → B ≤ k := by
  obtain ⟨g, rfl, hg, hm⟩ := Ord.mid_own h
  refine ⟨mid_row hm, ?_⟩
  rintro k ⟨a, ha, rfl⟩
  injection ha with ha
  subst ha
  exact hg
theorem cut_two (cols : List Int) : ∃ u v : Nat, cutOf cols 2 1000 = [(u : Int), (v : Int)] ∧ u < 1000 ∧ v < 1000 := by
  obtain ⟨u, hu, hu2⟩ := cut_get cols (m := 2) (n := 1000) (r := 0) (by omega) (by omega)
  obtain ⟨v, hv, hv2⟩ := cut_get cols (m := 2) (n := 1000) (r := 1) (by omega) (by omega)
  have hl := cut_len cols 2 1000
  refine ⟨u, v, ?_, hu2, hv2⟩
  match hc : cutOf cols 2 1000, hl with
  | [x, y], _ =>
    rw [hc] at hu hv
    simp at hu hv
    rw [hu, hv]
theorem cut2_any (A : Option Addr) (N cap : Nat) (cols : List Int) (u v : Nat) (w : World) (hc : Rd .i64 w A cols) (hl : cols.length = N) (hN : N ≤ maxLen) (huv : cutOf cols 2 1000 = [(u : Int), (v : Int)]) :
    Calls Try.prog 18 #[.slice A N cap, .int .i64 2, .int .i64 1000] w fun e w' => ∃ (A2 : Addr) (cap2 : Nat), e = .returned (.slice (some A2) 2 cap2) ∧ w'.ownsRow w.heap.size 3 1 (.slice (some A2) 2 cap2) 2 (([(u : Int), (v : Int)]).map (Value.int .i64)) ∧ Rd .i64 w' (some A2) [(u : Int), (v : Int)] ∧ 2 ≤ cap2 ∧ cap2 ≤ maxLen ∧ Below w.heap.size w w' := by
  have h := rcut_any A N cap cols 2 1000 w hc hl hN (by omega) (by omega) (by omega)
  rw [huv] at h
  exact h
theorem rem_nat (u m : Nat) (hm : 1 ≤ m) : ∃ U : Nat, Int.tmod (u : Int) m = U ∧ U < m := ⟨u % m, by rw [Int.tmod_eq_emod_of_nonneg (by omega)]; rfl, Nat.mod_lt _ hm⟩
theorem raise_2 {w0 w : World} {p : Addr} {F : Nat → Prop} {m n : Nat} {L : List (List Int)} {A : Addr} {K cap : Nat} {cols : List Int} {t0 : Thing} {ts : List Thing} (h : Have w0 w (t0 :: rowT (some A) cols :: pgT p F m n L :: ts)) (hl : cols.length = K) (hK : K ≤ 1000) (hz : In64 cols) (d : Int) (d0 : -9223372036854775808 ≤ d) (d1 : d ≤ 9223372036854775807) {c : Int} {L2 : List (List Int)} (hc : rsCode m n L cols d = c ∧ rsRes m n L cols d = L2) :
    Calls Try.prog 11 #[.pointer (some p), .slice (some A) K cap, .int .i64 d] w fun e w' => e = .returned (.int .i64 c) ∧ ∃ F', Have w0 w' (t0 :: rowT (some A) cols :: pgT p F' m n L2 :: ts) := by
  obtain ⟨rfl, rfl⟩ := hc
  refine (raise_any p F m n L (some A) K cap cols d w (pgI h.i2) (rowI h.i1) (fun a ha hf => h.ap12 a.block ⟨a, ha, rfl⟩ hf) hl hK hz d0 d1).mono fun e w' ⟨he, F', hnp, hnk, hnf⟩ => ?_
  exact ⟨he, F', h.turn_2 (pgT p F' m n _) hnp hnk hnf⟩
theorem atc_any {p : Addr} {F : Nat → Prop} {m n : Nat} {L : List (List Int)} {w : World} (h : PG w p F m n L) (r c : Nat) (hr : r ≤ 1000) (hc : c ≤ 1000) {x : Int} (hx : cel L r c = x) :
    Calls Try.prog 24 #[.pointer (some p), .int .i64 r, .int .i64 c] w fun e w' => e = .returned (.int .i64 x) ∧ Below w.heap.size w w' := by
  subst hx
  have h2 := at_any p F m n L r c w h (by omega) (by omega) (by omega) (by omega)
  rw [at2_cel] at h2
  exact h2
set_option maxRecDepth 100000 in
set_option maxHeartbeats 4000000 in
theorem rises_law (rows width : Int) (A : Option Addr) (n0 c0 : Nat) (qs : List StepV) (w : World) (A1 : Option Addr) (n1 c1 : Nat) (cs : List Int) (hA1 : A1 = none → n1 = 0 ∧ c1 = 0) (hn1 : n1 ≤ c1) (hc1 : c1 ≤ maxLen) (hr1 : Rd .i64 w A1 cs) (hl1 : cs.length = n1) (hz1 : In64 cs) (d : Int) (hdb : -9223372036854775808 ≤ d ∧ d ≤ 9223372036854775807) (hq : Lin.Steps w A n0 c0 qs) :
    Calls Try.prog 6 #[.agg #[.int .i64 rows, .int .i64 width, .slice A n0 c0], .slice A1 n1 c1, .int .i64 d] w fun e w' => e = .returned (.bool true) ∧ Below w.heap.size w w' := by
  obtain ⟨m, hm⟩ : ∃ m, rowsOf rows = m := ⟨_, rfl⟩
  obtain ⟨n, hn⟩ : ∃ n, widthOf width = n := ⟨_, rfl⟩
  have hmb := rows_bd rows
  have hnb := width_bd width
  rw [hm] at hmb
  rw [hn] at hnb
  have HQ := Lib.hid hq
  have HR1 := Lib.hid hr1
  have CS := Lib.hid (fun w => sized_any rows width A n0 c0 w)
  rw [hm, hn] at CS
  have e8 : cl (m : Int) 8 = m := by unfold cl; omega
  have e128 : cl (n : Int) 128 = n := by unfold cl; omega
  have CN := Lib.hid (fun w => new_mn m n m n w e8 e128 (by omega) (by omega) (by omega) (by omega))
  have hnc := hq.nc
  have hcm := hq.cm
  unfold maxLen at hcm
  have HL := Lib.hid hq.len
  have hnm : ¬ m = 0 := by omega
  have hnn : ¬ n = 0 := by omega
  obtain ⟨q5, hmn⟩ : ∃ q, m * n = q := ⟨_, rfl⟩
  have hq1 : q5 ≤ 45 := by rw [← hmn]; exact Nat.le_trans (Nat.mul_le_mul hmb.2 hnb.2) (by decide)
  have HMN := Lib.hid hmn
  have HMC : Hid (Meets m n (cutOf cs m n)) := Lib.hid (cut_meets cs hmb.1 hnb.1)
  have HBX : Hid (Have w (w.alloc (.cells #[.int .i64 rows, .int .i64 width, .slice A n0 c0] 24)) [boxT w.heap.size 24 #[.int .i64 rows, .int .i64 width, .slice A n0 c0]]) := Lib.hid (box_new w _ _)
  clear hm hn hr1 e8 e128 hq hmn
  go_enter Try.func6, Try.ntmps6
  go_wp2_with (first
    | (go_at_call 9; (with_reducible refine (CN.out _).mono ?_); rintro e w3 ⟨p, F0, rfl, hnp, hnf, hnb4⟩; have HV3 := Lib.hid (HV2.out.push (pgT p F0 m n (zerosL m n)) hnb4 hnp hnf); clear hnp hnf hnb4 k0 k1 k2)
    | (go_at_call 16; (with_reducible refine (CS.out _).mono ?_); rintro e w2 ⟨rfl, hb⟩; have HV2 := Lib.hid (HV1.out.up hb); clear k0 k1 k2; obtain ⟨k0, k1, k2⟩ := box3 HV2.out.i0; clear hb)
    | (go_at_call 8; (with_reducible refine (shown_any _).mono ?_); rintro e w1 ⟨rfl, hb⟩; have HV1 := Lib.hid (HBX.out.up hb); obtain ⟨k0, k1, k2⟩ := box3 HV1.out.i0; clear hb))
  go_loopw [11] (fun iv wr => ∃ (k : Nat) (F : Nat → Prop) (L : List (List Int)), k ≤ n0 ∧ k ≤ 60 ∧ iv = .int .i64 k ∧ Have w wr [pgT p F m n L, boxT w.heap.size 24 #[.int .i64 rows, .int .i64 width, .slice A n0 c0]]) (fun iv _ => n0 - (intOf iv).toNat)
  case atStart => exact ⟨0, F0, zerosL m n, Nat.zero_le _, Nat.zero_le _, rfl, HV3.out⟩
  case round =>
    obtain ⟨k, F, L, hk, hk60, rfl, hv⟩ := hrel
    have HV4 := Lib.hid hv
    clear hv
    have HB4 := Lib.hid HV4.out.below
    obtain ⟨kb0, kb1, kb2⟩ := box3 HV4.out.i1
    by_cases hlt : k < n0 ∧ k < 60
    · obtain ⟨hk1, hk2⟩ := hlt
      obtain ⟨q, hq1⟩ : ∃ q, qs[k]? = some q := ⟨_, List.getElem?_eq_getElem (by rw [HL.out]; omega)⟩
      obtain ⟨a, g, o, rfl, hadd, d1w, d2w, hin⟩ := HQ.out.at hq1
      have d1 := cell_up d1w HB4.out
      have d2x := cell_up d2w HB4.out
      have HD2 := Lib.hid d2w
      have b1 := hin.db
      have IN1 := Lib.hid (hin.up HB4.out)
      obtain ⟨u, v, huv, hu, hv⟩ := cut_two q.zs
      have HUV := Lib.hid huv
      obtain ⟨U, hU, hUm⟩ := rem_nat u m hmb.1
      obtain ⟨V, hV, hVn⟩ := rem_nat v n hnb.1
      clear hq1 hin huv d1w d2w
      go_wp2_with (go_at_call 18; (with_reducible refine (cut2_any q.A q.n q.c q.zs u v _ IN1.out.rd IN1.out.len (Nat.le_trans IN1.out.nc IN1.out.cm) HUV.out).mono ?_); rintro e w5 ⟨A5, cap5, rfl, own5, rd5, hc5, hm5, hb5⟩; obtain ⟨gA, rfl, hgA, hlA⟩ := own_block own5; have HV5 := Lib.hid (HV4.out.push (rowT (some ⟨gA, 0, none⟩) [(u : Int), (v : Int)]) hb5 (own_row2 own5).1 (own_row2 own5).2); have cb2 := cell_up kb2 hb5; have d2 := cell_up d2x hb5; have cu : w5.cell? ⟨gA, 0, none⟩ = some (.int .i64 (u : Int)) := (by simpa [Ord.add_at] using rd5.at (j := 0) rfl); have cv : w5.cell? ⟨gA, 1, none⟩ = some (.int .i64 (v : Int)) := (by simpa [Ord.add_at] using rd5.at (j := 1) rfl); clear own5 rd5 hb5)
      go_region_held3 (fun w' => w'.cell? ⟨w.heap.size, 2, none⟩ = some (.slice (some a) n0 c0) ∧ w'.cell? ⟨gA, 0, none⟩ = some (.int .i64 (u : Int)) ∧ w'.cell? ⟨gA, 1, none⟩ = some (.int .i64 (v : Int)) ∧ w'.cell? ⟨g, o + 1, none⟩ = some (.int .i64 q.d)) (first | (refine ⟨?_, ?_, ?_, ?_⟩ <;> (first | (with_reducible assumption) | (with_reducible refine cell_up cb2 ?_) | (with_reducible refine cell_up cu ?_) | (with_reducible refine cell_up cv ?_) | (with_reducible refine cell_up d2 ?_)) <;> (repeat' (first | (with_reducible exact Below.refl _ _) | (with_reducible refine Below.drew ?_) | (with_reducible refine below_drewN ?_ _) | go_size)))) (first
        | (go_at_call 22; (with_reducible refine (put_any p F m n L (U : Int) (V : Int) q.d _ (pg_up (pgI HV5.out.i1) (by repeat' (first | (with_reducible exact Below.refl _ _) | (with_reducible assumption) | (with_reducible refine below_over ?_ _ _) | (with_reducible refine Lw.below_alloc ?_ _) | (with_reducible refine Below.drew ?_) | (with_reducible refine below_drewN ?_ _) | (with_reducible refine Below.setCell ?_ ?_ _) | go_size))) (by omega) (by omega) (by omega) (by omega) b1.1 b1.2).mono ?_); rintro e w6 ⟨rfl, F6, hnp, hnk, hnf⟩; have HV6 := Lib.hid ((HV5.out.up (by repeat' (first | (with_reducible exact Below.refl _ _) | (with_reducible assumption) | (with_reducible refine below_over ?_ _ _) | (with_reducible refine Lw.below_alloc ?_ _) | (with_reducible refine Below.drew ?_) | (with_reducible refine below_drewN ?_ _) | (with_reducible refine Below.setCell ?_ ?_ _) | go_size))).turn_1 (pgT p F6 m n (setL L (U : Int) (V : Int) q.d)) hnp hnk hnf); have x2 := (box3 HV6.out.i2).2.2; have xd := cell_up HD2.out HV6.out.below; have rx := rowI HV6.out.i0; have xu : w6.cell? ⟨gA, 0, none⟩ = some (.int .i64 (u : Int)) := (by simpa [Ord.add_at] using rx.at (j := 0) rfl); have xv : w6.cell? ⟨gA, 1, none⟩ = some (.int .i64 (v : Int)) := (by simpa [Ord.add_at] using rx.at (j := 1) rfl); clear hnp hnk hnf rx))
      go_wp2
      go_roundw
      case rel => exact ⟨k + 1, F6, setL L (U : Int) (V : Int) q.d, by omega, by omega, by go_num, (HV6.out.drop).up (by repeat' (first | (with_reducible exact Below.refl _ _) | (with_reducible assumption) | (with_reducible refine below_over ?_ _ _) | (with_reducible refine Lw.below_alloc ?_ _) | (with_reducible refine Below.drew ?_) | (with_reducible refine below_drewN ?_ _) | (with_reducible refine Below.setCell ?_ ?_ _) | go_size))⟩
      case measure => simp [intOf]; omega
    · have hend : k = n0 ∨ (k = 60 ∧ k < n0) := by omega
      have hdm := (pgI HV4.out.i0).dims
      have HFL := Lib.hid ((flat_dims hdm).trans HMN.out)
      have HSZ := Lib.hid (sz_dims hdm)
      have hxb := lea_in (cols := cutOf cs m n) hdm
      obtain ⟨x, hx⟩ : ∃ x, lea L (cutOf cs m n) = x := ⟨_, rfl⟩
      rw [hx] at hxb
      have HX := Lib.hid hx
      clear hlt hdm hx
      rcases hend with hkn0 | ⟨rfl, hkn⟩
      · have hkn1 : n0 = k := hkn0.symm
        subst hkn1
        clear hkn0
        by_cases hd0 : d < 0
        · have HNO := Lib.hid (rs_neg (L := L) HMC.out hd0)
          go_wp2_with (first
            | (go_at_call 13; (with_reducible refine (same_yes Ad Ae q5 capd cape L.flatten _ Rde.out Re.out HFL.out (by omega)).mono ?_); rintro e wf ⟨rfl, hb⟩; have HVf := Lib.hid (HVe.out.up hb); clear hb)
            | (go_at_call 14; (with_reducible refine (cells_q p2 F2 m n q5 L _ (pgI HVd.out.i0) HMN.out).mono ?_); rintro e we ⟨Ae, cape, rfl, hre, hce, hde, hne, hb⟩; have HVe := Lib.hid (HVd.out.up hb); have Re := Lib.hid (Row1.rd hre); have Rde := Lib.hid (Rd1.out.up hb); clear hre hne hb)
            | (go_at_call 14; (with_reducible refine (cells_q p Fb m n q5 L _ (pgI HVc.out.i2) HMN.out).mono ?_); rintro e wd ⟨Ad, capd, rfl, hrd, hcd, hdd, hnd, hb⟩; have HVd := Lib.hid (HVc.out.up hb); have Rd1 := Lib.hid (Row1.rd hrd); clear hrd hnd hb)
            | (go_at_call 19; (with_reducible refine (lea_m (pgI HVb.out.i2) (rowI HVb.out.i1) HMC.out hmb.2 hnb.2 HX.out).mono ?_); rintro e wc2 ⟨rfl, hb⟩; have HVc := Lib.hid (HVb.out.up hb); clear hb)
            | (go_at_call 11; (with_reducible refine (raise_2 HVa.out (cut_len _ _ _) (by omega) (cutrow_in hnb.1 (by omega)) d (by omega) (by omega) HNO.out).mono ?_); rintro e wb2 ⟨rfl, Fb, hvb⟩; have HVb := Lib.hid hvb; clear hvb)
            | (go_at_call 19; (with_reducible refine (lea_m (pgI HV9.out.i2) (rowI HV9.out.i1) HMC.out hmb.2 hnb.2 HX.out).mono ?_); rintro e wa ⟨rfl, hb⟩; have HVa := Lib.hid (HV9.out.up hb); clear hb)
            | (go_at_call 23; (with_reducible refine (copy_any p F m n L _ (pgI HV8.out.i1)).mono ?_); rintro e w9 ⟨p2, F2, rfl, hp2, hf2, hb9⟩; have HV9 := Lib.hid (HV8.out.push (pgT p2 F2 m n L) hb9 hp2 hf2); clear hp2 hf2 hb9)
            | (go_at_call 18; (with_reducible refine (rcut_any A1 n1 c1 cs m n _ (HR1.out.up HB4.out) hl1 (Nat.le_trans hn1 hc1) (by omega) (by omega) (by omega)).mono ?_); rintro e w8 ⟨A8, cap8, rfl, own8, rd8, hc8, hm8, hb8⟩; have HV8 := Lib.hid (HV4.out.push (rowT (some A8) (cutOf cs m n)) hb8 (own_row2 own8).1 (own_row2 own8).2); clear own8 rd8 hb8))
          go_ret
          exact ⟨rfl, HVf.out.below⟩
        cases hf : Wid.fit64 (x + d) with
        | false =>
          have HNO := Lib.hid (rs_over (L := L) (d := d) HMC.out (by omega) (by rw [HX.out]; exact hf))
          have hnf : ¬ (-9223372036854775808 ≤ x + d ∧ x + d < 9223372036854775808) := of_decide_eq_false hf
          have hd1 : 0 < d := by omega
          have hx1 : 0 < x := by omega
          clear hnf hf
          go_wp2_with (first
            | (go_at_call 13; (with_reducible refine (same_yes Ad Ae q5 capd cape L.flatten _ Rde.out Re.out HFL.out (by omega)).mono ?_); rintro e wf ⟨rfl, hb⟩; have HVf := Lib.hid (HVe.out.up hb); clear hb)
            | (go_at_call 14; (with_reducible refine (cells_q p2 F2 m n q5 L _ (pgI HVd.out.i0) HMN.out).mono ?_); rintro e we ⟨Ae, cape, rfl, hre, hce, hde, hne, hb⟩; have HVe := Lib.hid (HVd.out.up hb); have Re := Lib.hid (Row1.rd hre); have Rde := Lib.hid (Rd1.out.up hb); clear hre hne hb)
            | (go_at_call 14; (with_reducible refine (cells_q p Fb m n q5 L _ (pgI HVc.out.i2) HMN.out).mono ?_); rintro e wd ⟨Ad, capd, rfl, hrd, hcd, hdd, hnd, hb⟩; have HVd := Lib.hid (HVc.out.up hb); have Rd1 := Lib.hid (Row1.rd hrd); clear hrd hnd hb)
            | (go_at_call 19; (with_reducible refine (lea_m (pgI HVb.out.i2) (rowI HVb.out.i1) HMC.out hmb.2 hnb.2 HX.out).mono ?_); rintro e wc2 ⟨rfl, hb⟩; have HVc := Lib.hid (HVb.out.up hb); clear hb)
            | (go_at_call 11; (with_reducible refine (raise_2 HVa.out (cut_len _ _ _) (by omega) (cutrow_in hnb.1 (by omega)) d (by omega) (by omega) HNO.out).mono ?_); rintro e wb2 ⟨rfl, Fb, hvb⟩; have HVb := Lib.hid hvb; clear hvb)
            | (go_at_call 19; (with_reducible refine (lea_m (pgI HV9.out.i2) (rowI HV9.out.i1) HMC.out hmb.2 hnb.2 HX.out).mono ?_); rintro e wa ⟨rfl, hb⟩; have HVa := Lib.hid (HV9.out.up hb); clear hb)
            | (go_at_call 23; (with_reducible refine (copy_any p F m n L _ (pgI HV8.out.i1)).mono ?_); rintro e w9 ⟨p2, F2, rfl, hp2, hf2, hb9⟩; have HV9 := Lib.hid (HV8.out.push (pgT p2 F2 m n L) hb9 hp2 hf2); clear hp2 hf2 hb9)
            | (go_at_call 18; (with_reducible refine (rcut_any A1 n1 c1 cs m n _ (HR1.out.up HB4.out) hl1 (Nat.le_trans hn1 hc1) (by omega) (by omega) (by omega)).mono ?_); rintro e w8 ⟨A8, cap8, rfl, own8, rd8, hc8, hm8, hb8⟩; have HV8 := Lib.hid (HV4.out.push (rowT (some A8) (cutOf cs m n)) hb8 (own_row2 own8).1 (own_row2 own8).2); clear own8 rd8 hb8))
          go_ret
          exact ⟨rfl, HVf.out.below⟩
        | true =>
          have HYE0 := rs_yes (L := L) (d := d) HMC.out (by omega) (by rw [HX.out]; exact hf)
          rw [HX.out] at HYE0
          have hfb : -9223372036854775808 ≤ x + d ∧ x + d < 9223372036854775808 := of_decide_eq_true hf
          have hle := lea_raised (x := x + d) HSZ.out HMC.out (by rw [HX.out]; omega)
          have HCE : Hid (∀ r c, r < m → c < n → cel (raised L (cutOf cs m n) (x + d)) r c = if (cutOf cs m n)[r]? = some (c : Int) then max (cel L r c) (x + d) else cel L r c) := Lib.hid (fun r c hr hc => cel_raised HSZ.out HMC.out (x + d) hr hc)
          obtain ⟨y, hy⟩ : ∃ y, x + d = y := ⟨_, rfl⟩
          rw [hy] at HYE0 hle HCE hfb
          have hyb : -9223372036854775808 ≤ y ∧ y ≤ 9223372036854775807 := by omega
          have HYD := Lib.hid hy
          obtain ⟨L3, hL3⟩ : ∃ L3, raised L (cutOf cs m n) y = L3 := ⟨_, rfl⟩
          rw [hL3] at HYE0 hle HCE
          have HYE := Lib.hid HYE0
          have HLE := Lib.hid hle
          have hdn : 0 ≤ d := by omega
          have hdn2 : (0 : Int) ≤ d := hdn
          clear hf hy hL3 HYE0 hle hd0
          go_wp2_with (first
            | (go_at_call 19; (with_reducible refine (lea_m (pgI HVb.out.i2) (rowI HVb.out.i1) HMC.out hmb.2 hnb.2 HLE.out).mono ?_); rintro e wc2 ⟨rfl, hb⟩; have HVc := Lib.hid (HVb.out.up hb); clear hb)
            | (go_at_call 11; (with_reducible refine (raise_2 HVa.out (cut_len _ _ _) (by omega) (cutrow_in hnb.1 (by omega)) d (by omega) (by omega) HYE.out).mono ?_); rintro e wb2 ⟨rfl, Fb, hvb⟩; have HVb := Lib.hid hvb; clear hvb)
            | (go_at_call 19; (with_reducible refine (lea_m (pgI HV9.out.i2) (rowI HV9.out.i1) HMC.out hmb.2 hnb.2 HX.out).mono ?_); rintro e wa ⟨rfl, hb⟩; have HVa := Lib.hid (HV9.out.up hb); clear hb)
            | (go_at_call 23; (with_reducible refine (copy_any p F m n L _ (pgI HV8.out.i1)).mono ?_); rintro e w9 ⟨p2, F2, rfl, hp2, hf2, hb9⟩; have HV9 := Lib.hid (HV8.out.push (pgT p2 F2 m n L) hb9 hp2 hf2); clear hp2 hf2 hb9)
            | (go_at_call 18; (with_reducible refine (rcut_any A1 n1 c1 cs m n _ (HR1.out.up HB4.out) hl1 (Nat.le_trans hn1 hc1) (by omega) (by omega) (by omega)).mono ?_); rintro e w8 ⟨A8, cap8, rfl, own8, rd8, hc8, hm8, hb8⟩; have HV8 := Lib.hid (HV4.out.push (rowT (some A8) (cutOf cs m n)) hb8 (own_row2 own8).1 (own_row2 own8).2); clear own8 rd8 hb8))
          go_loopw [19] (fun rv wr => ∃ (r : Nat), r ≤ m ∧ rv = .int .i64 r ∧ Have w wr [pgT p2 F2 m n L, rowT (some A8) (cutOf cs m n), pgT p Fb m n L3, boxT w.heap.size 24 #[.int .i64 rows, .int .i64 width, .slice A n0 c0]]) (fun rv _ => m - (intOf rv).toNat)
          case atStart => exact ⟨0, Nat.zero_le _, rfl, HVc.out⟩
          case round =>
            obtain ⟨wo, rfl⟩ : ∃ wo, wo = wr := ⟨_, rfl⟩
            obtain ⟨r, hr, rfl, hv1⟩ := hrel
            have HVo := Lib.hid hv1
            clear hv1
            by_cases hrm : r < m
            · go_wp2
              go_loopw [20] (fun cv wr => ∃ (c : Nat), c ≤ n ∧ cv = .int .i64 c ∧ Have w wr [pgT p2 F2 m n L, rowT (some A8) (cutOf cs m n), pgT p Fb m n L3, boxT w.heap.size 24 #[.int .i64 rows, .int .i64 width, .slice A n0 c0]]) (fun cv _ => n - (intOf cv).toNat)
              case atStart => exact ⟨0, Nat.zero_le _, rfl, HVo.out⟩
              case round =>
                obtain ⟨c, hc, rfl, hv2⟩ := hrel
                have HVi := Lib.hid hv2
                clear hv2
                by_cases hcn : c < n
                · have hce := HCE.out r c hrm hcn
                  obtain ⟨v, hv, hvn⟩ := cut_get cs hrm hnb.1
                  obtain ⟨O, hO⟩ : ∃ O, cel L r c = O := ⟨_, rfl⟩
                  obtain ⟨P, hP⟩ : ∃ P, cel L3 r c = P := ⟨_, rfl⟩
                  rw [hO, hP, hv] at hce
                  have HO := Lib.hid hO
                  have HP := Lib.hid hP
                  have HVG := Lib.hid hv
                  have hcase : (P = O) ∨ (O < P ∧ P = y ∧ c = v) := by
                    by_cases hcv : c = v
                    · subst hcv
                      rw [if_pos rfl] at hce
                      by_cases h9 : O < y
                      · right; exact ⟨by omega, by omega, rfl⟩
                      · left; omega
                    · rw [if_neg (by simp; omega)] at hce
                      left; omega
                  clear hce hO hP hv
                  rcases hcase with hPO | ⟨h1, h2, h3⟩
                  · have HPP : Hid (cel L3 r c = O) := Lib.hid (HP.out.trans hPO)
                    clear HP hPO
                    go_wp2_with (first
                      | (go_at_call 24; (with_reducible refine (atc_any (pgI HVj.out.i2) r c (by omega) (by omega) HPP.out).mono ?_); rintro e wk ⟨rfl, hb⟩; have HVk := Lib.hid (HVj.out.up hb); clear hb)
                      | (go_at_call 24; (with_reducible refine (atc_any (pgI HVi.out.i0) r c (by omega) (by omega) HO.out).mono ?_); rintro e wj ⟨rfl, hb⟩; have HVj := Lib.hid (HVi.out.up hb); clear hb))
                    go_roundw
                    case rel => exact ⟨c + 1, by omega, by go_num, HVk.out⟩
                    case measure => simp [intOf]; omega
                  · subst h3
                    have hne1 : (P == O) = false := by simp; omega
                    have hne2 : decide (P = O) = false := by simp; omega
                    have hne3 : ¬ P < O := by omega
                    have hcv := HVG.out
                    subst h2
                    go_wp2_with (first
                      | (go_at_call 24; (with_reducible refine (atc_any (pgI HVj.out.i2) r c (by omega) (by omega) HP.out).mono ?_); rintro e wk ⟨rfl, hb⟩; have HVk := Lib.hid (HVj.out.up hb); have hcc := (rowI HVk.out.i1).at hcv; clear hb)
                      | (go_at_call 24; (with_reducible refine (atc_any (pgI HVi.out.i0) r c (by omega) (by omega) HO.out).mono ?_); rintro e wj ⟨rfl, hb⟩; have HVj := Lib.hid (HVi.out.up hb); clear hb))
                    go_roundw
                    case rel => exact ⟨c + 1, by omega, by go_num, HVk.out⟩
                    case measure => simp [intOf]; omega
                · have e : c = n := by omega
                  subst e
                  go_wp2
                  go_roundw
                  case rel => exact ⟨r + 1, by omega, by go_num, HVi.out⟩
                  case measure => simp [intOf]; omega
            · have e : r = m := by omega
              subst e
              have HBo := Lib.hid HVo.out.below
              have hyd := HYD.out
              go_wp2
              go_ret
              exact ⟨rfl, HBo.out⟩
      · skip
        by_cases hd0 : d < 0
        · have HNO := Lib.hid (rs_neg (L := L) HMC.out hd0)
          go_wp2_with (first
            | (go_at_call 13; (with_reducible refine (same_yes Ad Ae q5 capd cape L.flatten _ Rde.out Re.out HFL.out (by omega)).mono ?_); rintro e wf ⟨rfl, hb⟩; have HVf := Lib.hid (HVe.out.up hb); clear hb)
            | (go_at_call 14; (with_reducible refine (cells_q p2 F2 m n q5 L _ (pgI HVd.out.i0) HMN.out).mono ?_); rintro e we ⟨Ae, cape, rfl, hre, hce, hde, hne, hb⟩; have HVe := Lib.hid (HVd.out.up hb); have Re := Lib.hid (Row1.rd hre); have Rde := Lib.hid (Rd1.out.up hb); clear hre hne hb)
            | (go_at_call 14; (with_reducible refine (cells_q p Fb m n q5 L _ (pgI HVc.out.i2) HMN.out).mono ?_); rintro e wd ⟨Ad, capd, rfl, hrd, hcd, hdd, hnd, hb⟩; have HVd := Lib.hid (HVc.out.up hb); have Rd1 := Lib.hid (Row1.rd hrd); clear hrd hnd hb)
            | (go_at_call 19; (with_reducible refine (lea_m (pgI HVb.out.i2) (rowI HVb.out.i1) HMC.out hmb.2 hnb.2 HX.out).mono ?_); rintro e wc2 ⟨rfl, hb⟩; have HVc := Lib.hid (HVb.out.up hb); clear hb)
            | (go_at_call 11; (with_reducible refine (raise_2 HVa.out (cut_len _ _ _) (by omega) (cutrow_in hnb.1 (by omega)) d (by omega) (by omega) HNO.out).mono ?_); rintro e wb2 ⟨rfl, Fb, hvb⟩; have HVb := Lib.hid hvb; clear hvb)
            | (go_at_call 19; (with_reducible refine (lea_m (pgI HV9.out.i2) (rowI HV9.out.i1) HMC.out hmb.2 hnb.2 HX.out).mono ?_); rintro e wa ⟨rfl, hb⟩; have HVa := Lib.hid (HV9.out.up hb); clear hb)
            | (go_at_call 23; (with_reducible refine (copy_any p F m n L _ (pgI HV8.out.i1)).mono ?_); rintro e w9 ⟨p2, F2, rfl, hp2, hf2, hb9⟩; have HV9 := Lib.hid (HV8.out.push (pgT p2 F2 m n L) hb9 hp2 hf2); clear hp2 hf2 hb9)
            | (go_at_call 18; (with_reducible refine (rcut_any A1 n1 c1 cs m n _ (HR1.out.up HB4.out) hl1 (Nat.le_trans hn1 hc1) (by omega) (by omega) (by omega)).mono ?_); rintro e w8 ⟨A8, cap8, rfl, own8, rd8, hc8, hm8, hb8⟩; have HV8 := Lib.hid (HV4.out.push (rowT (some A8) (cutOf cs m n)) hb8 (own_row2 own8).1 (own_row2 own8).2); clear own8 rd8 hb8))
          go_ret
          exact ⟨rfl, HVf.out.below⟩
        cases hf : Wid.fit64 (x + d) with
        | false =>
          have HNO := Lib.hid (rs_over (L := L) (d := d) HMC.out (by omega) (by rw [HX.out]; exact hf))
          have hnf : ¬ (-9223372036854775808 ≤ x + d ∧ x + d < 9223372036854775808) := of_decide_eq_false hf
          have hd1 : 0 < d := by omega
          have hx1 : 0 < x := by omega
          clear hnf hf
          go_wp2_with (first
            | (go_at_call 13; (with_reducible refine (same_yes Ad Ae q5 capd cape L.flatten _ Rde.out Re.out HFL.out (by omega)).mono ?_); rintro e wf ⟨rfl, hb⟩; have HVf := Lib.hid (HVe.out.up hb); clear hb)
            | (go_at_call 14; (with_reducible refine (cells_q p2 F2 m n q5 L _ (pgI HVd.out.i0) HMN.out).mono ?_); rintro e we ⟨Ae, cape, rfl, hre, hce, hde, hne, hb⟩; have HVe := Lib.hid (HVd.out.up hb); have Re := Lib.hid (Row1.rd hre); have Rde := Lib.hid (Rd1.out.up hb); clear hre hne hb)
            | (go_at_call 14; (with_reducible refine (cells_q p Fb m n q5 L _ (pgI HVc.out.i2) HMN.out).mono ?_); rintro e wd ⟨Ad, capd, rfl, hrd, hcd, hdd, hnd, hb⟩; have HVd := Lib.hid (HVc.out.up hb); have Rd1 := Lib.hid (Row1.rd hrd); clear hrd hnd hb)
            | (go_at_call 19; (with_reducible refine (lea_m (pgI HVb.out.i2) (rowI HVb.out.i1) HMC.out hmb.2 hnb.2 HX.out).mono ?_); rintro e wc2 ⟨rfl, hb⟩; have HVc := Lib.hid (HVb.out.up hb); clear hb)
            | (go_at_call 11; (with_reducible refine (raise_2 HVa.out (cut_len _ _ _) (by omega) (cutrow_in hnb.1 (by omega)) d (by omega) (by omega) HNO.out).mono ?_); rintro e wb2 ⟨rfl, Fb, hvb⟩; have HVb := Lib.hid hvb; clear hvb)
            | (go_at_call 19; (with_reducible refine (lea_m (pgI HV9.out.i2) (rowI HV9.out.i1) HMC.out hmb.2 hnb.2 HX.out).mono ?_); rintro e wa ⟨rfl, hb⟩; have HVa := Lib.hid (HV9.out.up hb); clear hb)
            | (go_at_call 23; (with_reducible refine (copy_any p F m n L _ (pgI HV8.out.i1)).mono ?_); rintro e w9 ⟨p2, F2, rfl, hp2, hf2, hb9⟩; have HV9 := Lib.hid (HV8.out.push (pgT p2 F2 m n L) hb9 hp2 hf2); clear hp2 hf2 hb9)
            | (go_at_call 18; (with_reducible refine (rcut_any A1 n1 c1 cs m n _ (HR1.out.up HB4.out) hl1 (Nat.le_trans hn1 hc1) (by omega) (by omega) (by omega)).mono ?_); rintro e w8 ⟨A8, cap8, rfl, own8, rd8, hc8, hm8, hb8⟩; have HV8 := Lib.hid (HV4.out.push (rowT (some A8) (cutOf cs m n)) hb8 (own_row2 own8).1 (own_row2 own8).2); clear own8 rd8 hb8))
          go_ret
          exact ⟨rfl, HVf.out.below⟩
        | true =>
          have HYE0 := rs_yes (L := L) (d := d) HMC.out (by omega) (by rw [HX.out]; exact hf)
          rw [HX.out] at HYE0
          have hfb : -9223372036854775808 ≤ x + d ∧ x + d < 9223372036854775808 := of_decide_eq_true hf
          have hle := lea_raised (x := x + d) HSZ.out HMC.out (by rw [HX.out]; omega)
          have HCE : Hid (∀ r c, r < m → c < n → cel (raised L (cutOf cs m n) (x + d)) r c = if (cutOf cs m n)[r]? = some (c : Int) then max (cel L r c) (x + d) else cel L r c) := Lib.hid (fun r c hr hc => cel_raised HSZ.out HMC.out (x + d) hr hc)
          obtain ⟨y, hy⟩ : ∃ y, x + d = y := ⟨_, rfl⟩
          rw [hy] at HYE0 hle HCE hfb
          have hyb : -9223372036854775808 ≤ y ∧ y ≤ 9223372036854775807 := by omega
          have HYD := Lib.hid hy
          obtain ⟨L3, hL3⟩ : ∃ L3, raised L (cutOf cs m n) y = L3 := ⟨_, rfl⟩
          rw [hL3] at HYE0 hle HCE
          have HYE := Lib.hid HYE0
          have HLE := Lib.hid hle
          have hdn : 0 ≤ d := by omega
          have hdn2 : (0 : Int) ≤ d := hdn
          clear hf hy hL3 HYE0 hle hd0
          go_wp2_with (first
            | (go_at_call 19; (with_reducible refine (lea_m (pgI HVb.out.i2) (rowI HVb.out.i1) HMC.out hmb.2 hnb.2 HLE.out).mono ?_); rintro e wc2 ⟨rfl, hb⟩; have HVc := Lib.hid (HVb.out.up hb); clear hb)
            | (go_at_call 11; (with_reducible refine (raise_2 HVa.out (cut_len _ _ _) (by omega) (cutrow_in hnb.1 (by omega)) d (by omega) (by omega) HYE.out).mono ?_); rintro e wb2 ⟨rfl, Fb, hvb⟩; have HVb := Lib.hid hvb; clear hvb)
            | (go_at_call 19; (with_reducible refine (lea_m (pgI HV9.out.i2) (rowI HV9.out.i1) HMC.out hmb.2 hnb.2 HX.out).mono ?_); rintro e wa ⟨rfl, hb⟩; have HVa := Lib.hid (HV9.out.up hb); clear hb)
            | (go_at_call 23; (with_reducible refine (copy_any p F m n L _ (pgI HV8.out.i1)).mono ?_); rintro e w9 ⟨p2, F2, rfl, hp2, hf2, hb9⟩; have HV9 := Lib.hid (HV8.out.push (pgT p2 F2 m n L) hb9 hp2 hf2); clear hp2 hf2 hb9)
            | (go_at_call 18; (with_reducible refine (rcut_any A1 n1 c1 cs m n _ (HR1.out.up HB4.out) hl1 (Nat.le_trans hn1 hc1) (by omega) (by omega) (by omega)).mono ?_); rintro e w8 ⟨A8, cap8, rfl, own8, rd8, hc8, hm8, hb8⟩; have HV8 := Lib.hid (HV4.out.push (rowT (some A8) (cutOf cs m n)) hb8 (own_row2 own8).1 (own_row2 own8).2); clear own8 rd8 hb8))
          go_loopw [19] (fun rv wr => ∃ (r : Nat), r ≤ m ∧ rv = .int .i64 r ∧ Have w wr [pgT p2 F2 m n L, rowT (some A8) (cutOf cs m n), pgT p Fb m n L3, boxT w.heap.size 24 #[.int .i64 rows, .int .i64 width, .slice A n0 c0]]) (fun rv _ => m - (intOf rv).toNat)
          case atStart => exact ⟨0, Nat.zero_le _, rfl, HVc.out⟩
          case round =>
            obtain ⟨wo, rfl⟩ : ∃ wo, wo = wr := ⟨_, rfl⟩
            obtain ⟨r, hr, rfl, hv1⟩ := hrel
            have HVo := Lib.hid hv1
            clear hv1
            by_cases hrm : r < m
            · go_wp2
              go_loopw [20] (fun cv wr => ∃ (c : Nat), c ≤ n ∧ cv = .int .i64 c ∧ Have w wr [pgT p2 F2 m n L, rowT (some A8) (cutOf cs m n), pgT p Fb m n L3, boxT w.heap.size 24 #[.int .i64 rows, .int .i64 width, .slice A n0 c0]]) (fun cv _ => n - (intOf cv).toNat)
              case atStart => exact ⟨0, Nat.zero_le _, rfl, HVo.out⟩
              case round =>
                obtain ⟨c, hc, rfl, hv2⟩ := hrel
                have HVi := Lib.hid hv2
                clear hv2
                by_cases hcn : c < n
                · have hce := HCE.out r c hrm hcn
                  obtain ⟨v, hv, hvn⟩ := cut_get cs hrm hnb.1
                  obtain ⟨O, hO⟩ : ∃ O, cel L r c = O := ⟨_, rfl⟩
                  obtain ⟨P, hP⟩ : ∃ P, cel L3 r c = P := ⟨_, rfl⟩
                  rw [hO, hP, hv] at hce
                  have HO := Lib.hid hO
                  have HP := Lib.hid hP
                  have HVG := Lib.hid hv
                  have hcase : (P = O) ∨ (O < P ∧ P = y ∧ c = v) := by
                    by_cases hcv : c = v
                    · subst hcv
                      rw [if_pos rfl] at hce
                      by_cases h9 : O < y
                      · right; exact ⟨by omega, by omega, rfl⟩
                      · left; omega
                    · rw [if_neg (by simp; omega)] at hce
                      left; omega
                  clear hce hO hP hv
                  rcases hcase with hPO | ⟨h1, h2, h3⟩
                  · have HPP : Hid (cel L3 r c = O) := Lib.hid (HP.out.trans hPO)
                    clear HP hPO
                    go_wp2_with (first
                      | (go_at_call 24; (with_reducible refine (atc_any (pgI HVj.out.i2) r c (by omega) (by omega) HPP.out).mono ?_); rintro e wk ⟨rfl, hb⟩; have HVk := Lib.hid (HVj.out.up hb); clear hb)
                      | (go_at_call 24; (with_reducible refine (atc_any (pgI HVi.out.i0) r c (by omega) (by omega) HO.out).mono ?_); rintro e wj ⟨rfl, hb⟩; have HVj := Lib.hid (HVi.out.up hb); clear hb))
                    go_roundw
                    case rel => exact ⟨c + 1, by omega, by go_num, HVk.out⟩
                    case measure => simp [intOf]; omega
                  · subst h3
                    have hne1 : (P == O) = false := by simp; omega
                    have hne2 : decide (P = O) = false := by simp; omega
                    have hne3 : ¬ P < O := by omega
                    have hcv := HVG.out
                    subst h2
                    go_wp2_with (first
                      | (go_at_call 24; (with_reducible refine (atc_any (pgI HVj.out.i2) r c (by omega) (by omega) HP.out).mono ?_); rintro e wk ⟨rfl, hb⟩; have HVk := Lib.hid (HVj.out.up hb); have hcc := (rowI HVk.out.i1).at hcv; clear hb)
                      | (go_at_call 24; (with_reducible refine (atc_any (pgI HVi.out.i0) r c (by omega) (by omega) HO.out).mono ?_); rintro e wj ⟨rfl, hb⟩; have HVj := Lib.hid (HVi.out.up hb); clear hb))
                    go_roundw
                    case rel => exact ⟨c + 1, by omega, by go_num, HVk.out⟩
                    case measure => simp [intOf]; omega
                · have e : c = n := by omega
                  subst e
                  go_wp2
                  go_roundw
                  case rel => exact ⟨r + 1, by omega, by go_num, HVi.out⟩
                  case measure => simp [intOf]; omega
            · have e : r = m := by omega
              subst e
              have HBo := Lib.hid HVo.out.below
              have hyd := HYD.out
              go_wp2
              go_ret
              exact ⟨rfl, HBo.out⟩
namespace conserveRises
open Go.ChangeShapes Go.WideShapes Go.ChangeAt Go.Joins
set_option maxRecDepth 100000 in
theorem lifted (os : Os) (started : os.Started) (H : Type) (enc : TypeId × Value → H) :
    ReturnsInHanded {} Try.checked os 6 .any (Rows.conserveRisesSpec.pre6 enc Try.prog Try.f6 Rows.conserveRisesRow.domain false) (Rows.conserveRisesSpec.post enc Try.prog Try.f6 false true false false) := by
  refine Lw.lifted (C := Try.checked) (B := 4) (by kernel_rfl) os started (by kernel_rfl) Try.func6
    (ChangeSpec.witness6 (enc := enc) (C := Try.checked) false ⟨#[], #[.agg #[.int .i64 0, .int .i64 0, .slice none 0 0], .slice none 0 0, .int .i64 0], []⟩ 8 (by kernel_rfl) (by kernel_rfl) (by kernel_rfl) (by kernel_rfl)) rfl Try.underlying4 (by kernel_rfl) (by kernel_rfl) (by kernel_rfl) ?_ ?_
  · intro ds h
    rw [Try.params6] at h
    match ds, h with
    | [_, _, _], _ => rfl
  · intro W base args ds p hval hA
    rw [Try.params6] at hA hval
    obtain ⟨v0, vs0, d0, ds0, p0, q0, hargs, rfl, rfl, h0, r0⟩ := trodAll_cons hA
    obtain ⟨v1, vs1, d1, ds1, p1, q1, rfl, rfl, rfl, h1, r1⟩ := trodAll_cons r0
    obtain ⟨v2, vs2, d2, ds2, p2, q2, rfl, rfl, rfl, h2, r2⟩ := trodAll_cons r1
    obtain ⟨rfl, rfl, rfl⟩ := trodAll_nil r2
    obtain rfl : args = #[v0, v1, v2] := by cases args; simp_all
    obtain ⟨y0, u0, A0, n0, c0, qs0, rfl, rb0, ub0, hq0⟩ := open_play (hval 0 24 v0 rfl rfl) h0
    obtain ⟨A1, n1, c1, zs1, rfl, hA1, hn1, hc1, hr1, hl1, hz1⟩ := open_list_int (hval 1 30 v1 rfl rfl) h1
    obtain ⟨a2, rfl, rfl, rfl, w2⟩ := open_int Try.underlying2 (hval 2 2 v2 rfl rfl) h2
    have b2 := Lw.wf_i64 w2
    exact rises_law y0 u0 A0 n0 c0 qs0 W A1 n1 c1 zs1 hA1 hn1 hc1 hr1 hl1 hz1 a2 b2 hq0
theorem over : Rows.conserveRisesRow.holds Try.pinned (OpenSpec.ofChange Rows.conserveRisesSpec) :=
  OpenClaim.holds_of_wide 6 Try.f6 rfl rfl rfl rfl rfl rfl rfl ⟨rfl, rfl, rfl, rfl, rfl⟩ rfl rfl rfl rfl rfl (by kernel_rfl) Try.func6 (by kernel_rfl)
    (of_decide_eq_true (by kernel_rfl)) (by unfold Func.isWrapper; first | (rw [if_pos (by decide +kernel)]; kernel_rfl) | (rw [if_neg (by decide +kernel)]; exact ⟨rfl, rfl⟩))
    (fun os started H enc _ => lifted os started H enc)
theorem proved : Rows.ConserveRisesSaid :=
  over
#print axioms proved
end conserveRises
end Go.Proofs.Ytonbidohhgenlaa.Con
