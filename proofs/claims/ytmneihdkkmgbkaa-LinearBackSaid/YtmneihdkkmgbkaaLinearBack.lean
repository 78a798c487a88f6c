/- The statement LinearBack of layer 8 holds. Printed by wip/gen/linlaws2.py. -/
import Derived.Test.YtmneihdkkmgbkaaLinPlay
import Derived.Test.YtmneihdkkmgbkaaLaw
import Derived.Deep.LoopGhost
import Derived.Deep.RegionHeld3
import Derived.Deep.QuietTactic
import Derived.BigQuiet
namespace Go.Proofs.Ytmneihdkkmgbkaa.Lin
open Go Go.RowKit Lw Grd
set_option linter.unusedVariables false
set_option linter.unusedSimpArgs false
theorem lst_int_c : Try.prog.cellsOf 3 = 1 := by kernel_rfl
theorem open_list_int {H : Type} {enc : TypeId × Value → H} {W : World} {v : Value} {d : DataW H} {p : List MemPlace} {base : Nat} (hv : Value.okWide Try.prog W .any base 28 v)
    (h : DataW.Trod enc Try.prog W 0 (fun _ => true) true 28 v d p) :
    ∃ (A : Option Addr) (n cap : Nat) (zs : List Int), v = .slice A n cap ∧ (A = none → n = 0 ∧ cap = 0) ∧ n ≤ cap ∧ cap ≤ maxLen ∧ Rd .i64 W A zs ∧ zs.length = n ∧ (∀ v ∈ zs, -9223372036854775808 ≤ v ∧ v ≤ 9223372036854775807) := by
  obtain ⟨a0, len, cap, rfl⟩ := Go.WideShapes.okWide_slice Try.underlying28 hv
  obtain ⟨fuel, hf⟩ := h
  rcases Go.ChangeShapes.open_ints Try.underlying28 Try.underlying3 lst_int_c hf with ⟨hcs, _⟩ | ⟨a, len', cap', zs, hcs, _, hl, hm, hz, _, hcell, hwz⟩
  · simp [Value.cells] at hcs
    obtain ⟨rfl, rfl, rfl⟩ := hcs
    exact ⟨none, 0, 0, [], rfl, fun _ => ⟨rfl, rfl⟩, Nat.le_refl _, by simp, rd_nil _ _ _, rfl, fun v h => by simp at h⟩
  · simp [Value.cells] at hcs
    obtain ⟨rfl, rfl, rfl⟩ := hcs
    have hz2 : zs.length = cap := by simpa using hz
    refine ⟨some a, len, cap, zs.take len, rfl, (fun h => by cases h), hl, hm, ?_, by simp; omega, ?_⟩
    · intro k v hk
      rw [List.getElem?_take] at hk
      split at hk
      · refine ⟨a, rfl, ?_⟩
        rw [hcell k (by omega)]
        simp [hk]
      · cases hk
    · intro v hv
      exact Lw.wf_i64 (hwz v (List.mem_of_mem_take hv))
theorem small_q (d : Int) (w : World) (d0 : -9223372036854775808 ≤ d) (d1 : d ≤ 9223372036854775807) :
    Calls Try.prog 25 #[.int .i64 d] w fun e w' => e = .returned (.int .i64 (Int.tmod d 1099511627776)) ∧ w' = w :=
  (small_any d w d0 d1).mono fun e w' h => ⟨h.1, h.2.symm⟩
theorem read_meets {m n : Nat} {L : List (List Int)} {cols : List Int} (h : Meets m n cols) : readOf m n L cols = named L cols ∧ rdCode m n cols = 0 := by
  unfold readOf rdCode
  rw [if_pos h, if_pos h]
  exact ⟨rfl, rfl⟩
theorem named_sz {m n : Nat} {L : List (List Int)} {cols : List Int} (h : Sz m n L) (hc : Meets m n cols) : (named L cols).length = m := by rw [named_len (by rw [hc.2.1, h.1]), h.1]
theorem meets_in {m n : Nat} {cols : List Int} (h : Meets m n cols) (hn : n ≤ 1000) : In64 cols := fun v hv => by have := h.2.2 v hv; omega
theorem changed_back {m n : Nat} {L : List (List Int)} {cols : List Int} (h : Sz m n L) (hc : Meets m n cols) (d : Int) : changed (changed L cols d) cols (-d) = L := by
  have h1 := sz_changed h hc.2.1 d
  refine sz_ext (sz_changed h1 hc.2.1 (-d)) h fun r c hr hcn => ?_
  rw [cel_changed h1 hc (-d) hr hcn, cel_changed h hc d hr hcn]
  split <;> omega
theorem fits_back {m n : Nat} {L : List (List Int)} {cols : List Int} (h : Dims m n L) (hc : Meets m n cols) (d : Int) : chFits (changed L cols d) cols (-d) = true := by
  have hs := sz_dims h
  have h1 := sz_changed hs hc.2.1 d
  unfold chFits
  refine List.all_eq_true.2 fun x hx => ?_
  obtain ⟨r, hr, e⟩ := List.mem_iff_getElem.1 hx
  have hl := named_len (L := changed L cols d) (cols := cols) (by rw [hc.2.1, h1.1])
  rw [h1.1] at hl
  have hrm : r < m := by omega
  obtain ⟨v, hv, hvn⟩ := meets_get hc hrm
  have e2 := named_cel h1 hc hrm hv
  rw [List.getElem?_eq_getElem hr, e, cel_changed hs hc d hrm hvn, if_pos hv] at e2
  injection e2 with e2
  have hrl : r < L.length := by rw [h.len]; exact hrm
  have hrow := h.rows _ (List.getElem_mem hrl)
  have hcl : v < (L[r]).length := by omega
  have hb : -9223372036854775808 ≤ cel L r v ∧ cel L r v ≤ 9223372036854775807 := by
    unfold cel
    rw [List.getElem?_eq_getElem hrl]
    simp only [Option.getD_some]
    rw [List.getElem?_eq_getElem hcl]
    exact hrow.2 _ (List.getElem_mem hcl)
  rw [e2]
  exact (Wid.fit64_yes (by omega) (by omega)).1
theorem back_no {m n : Nat} {L : List (List Int)} {cols : List Int} {d : Int} (hm : Meets m n cols) (hf : chFits L cols d = false) : chCode m n L cols d = 4 ∧ chRes m n L cols d = L := by
  unfold chCode chRes
  rw [if_pos hm, if_neg (by rw [hf]; decide), if_neg (by rw [hf]; simp)]
  exact ⟨rfl, rfl⟩
/-- A change of a grid by columns that are a thing of their own. -/
theorem change_h {w0 w : World} {p : Addr} {F : Nat → Prop} {m n : Nat} {L : List (List Int)} {A : Addr} {cap : Nat} {cols : List Int} {t : Thing} {ts : List Thing} (h : Have w0 w (rowT (some A) cols :: t :: pgT p F m n L :: ts)) (hm : Meets m n cols) (hm5 : m ≤ 5) (hn9 : n ≤ 9) (d : Int) (d0 : -9223372036854775808 ≤ d) (d1 : d ≤ 9223372036854775807) {c : Int} {L2 : List (List Int)} (hc : chCode m n L cols d = c ∧ chRes m n L cols d = L2) :
    Calls Try.prog 12 #[.pointer (some p), .slice (some A) m cap, .int .i64 d] w fun e w' => e = .returned (.int .i64 c) ∧ ∃ F', Have w0 w' (rowT (some A) cols :: t :: pgT p F' m n L2 :: ts) := by
  obtain ⟨rfl, rfl⟩ := hc
  have hpg : PG w p F m n L := h.2.2.2.2.2.2.1
  refine (change_any p F m n L (some A) m cap cols d w hpg (Row1.rd h.1) (fun a ha hf => h.2.2.1 (pgT p F m n L) (by simp) a.block ⟨a, ha, rfl⟩ hf) hm.2.1 (by omega) (meets_in hm (by omega)) d0 d1).mono fun e w' ⟨he, F', hnp, hnk, hnf⟩ => ?_
  exact ⟨he, F', h.turn2 (pgT p F' m n _) hnp hnk hnf⟩
theorem pg2 {w0 w : World} {t u : Thing} {p : Addr} {F : Nat → Prop} {m n : Nat} {L : List (List Int)} {ts : List Thing} (h : Have w0 w (t :: u :: pgT p F m n L :: ts)) : PG w p F m n L := h.2.2.2.2.2.2.1
theorem row_at1 {w0 w : World} {t : Thing} {A : Option Addr} {Z : List Int} {ts : List Thing} (h : Have w0 w (t :: rowT A Z :: ts)) : Rd .i64 w A Z := Row1.rd h.2.2.2.1
theorem cut_two (cols : List Int) : ∃ u v : Nat, cutOf cols 2 1000 = [(u : Int), (v : Int)] ∧ u < 1000 ∧ v < 1000 := by
  obtain ⟨u, hu, hu2⟩ := cut_get cols (m := 2) (n := 1000) (r := 0) (by omega) (by omega)
  obtain ⟨v, hv, hv2⟩ := cut_get cols (m := 2) (n := 1000) (r := 1) (by omega) (by omega)
  have hl := cut_len cols 2 1000
  refine ⟨u, v, ?_, hu2, hv2⟩
  match hc : cutOf cols 2 1000, hl with
  | [x, y], _ =>
    rw [hc] at hu hv
    simp at hu hv
    rw [hu, hv]
theorem cut2_any (A : Option Addr) (N cap : Nat) (cols : List Int) (u v : Nat) (w : World) (hc : Rd .i64 w A cols) (hl : cols.length = N) (hN : N ≤ maxLen) (huv : cutOf cols 2 1000 = [(u : Int), (v : Int)]) :
    Calls Try.prog 27 #[.slice A N cap, .int .i64 2, .int .i64 1000] w fun e w' => ∃ (A2 : Addr) (cap2 : Nat), e = .returned (.slice (some A2) 2 cap2) ∧ w'.ownsRow w.heap.size 3 1 (.slice (some A2) 2 cap2) 2 (([(u : Int), (v : Int)]).map (Value.int .i64)) ∧ Rd .i64 w' (some A2) [(u : Int), (v : Int)] ∧ 2 ≤ cap2 ∧ cap2 ≤ maxLen ∧ Below w.heap.size w w' := by
  have h := rcut_any A N cap cols 2 1000 w hc hl hN (by omega) (by omega) (by omega)
  rw [huv] at h
  exact h
theorem rem_nat (u m : Nat) (hm : 1 ≤ m) : ∃ U : Nat, Int.tmod (u : Int) m = U ∧ U < m := ⟨u % m, by rw [Int.tmod_eq_emod_of_nonneg (by omega)]; rfl, Nat.mod_lt _ hm⟩
theorem own_row1 {w : World} {B : Nat} {e : TypeId} {A : Addr} {n cap : Nat} {zs : List Int} (h : w.ownsRow B e 1 (.slice (some A) n cap) n (zs.map (Value.int .i64))) : Row1 w (some A) zs := by
  obtain ⟨g, rfl, _, hm⟩ := Ord.mid_own h
  exact mid_row hm
theorem own_ge1 {w : World} {B : Nat} {e : TypeId} {A : Addr} {n cap : Nat} {zs : List Int} (h : w.ownsRow B e 1 (.slice (some A) n cap) n (zs.map (Value.int .i64))) : ∀ k, (rowT (some A) zs).F k → B ≤ k := by
  obtain ⟨g, rfl, hg, _⟩ := Ord.mid_own h
  rintro k ⟨a, ha, rfl⟩
  injection ha with ha
  subst ha
  exact hg
set_option maxRecDepth 100000 in
set_option maxHeartbeats 4000000 in
theorem back_law (rows width : Int) (A : Option Addr) (n0 c0 : Nat) (qs : List StepV) (w : World) (A1 : Option Addr) (n1 c1 : Nat) (cs : List Int) (hA1 : A1 = none → n1 = 0 ∧ c1 = 0) (hn1 : n1 ≤ c1) (hc1 : c1 ≤ maxLen) (hr1 : Rd .i64 w A1 cs) (hl1 : cs.length = n1) (hz1 : In64 cs) (d : Int) (hd0 : -9223372036854775808 ≤ d ∧ d ≤ 9223372036854775807) (hq : Steps w A n0 c0 qs) :
    Calls Try.prog 8 #[.agg #[.int .i64 rows, .int .i64 width, .slice A n0 c0], .slice A1 n1 c1, .int .i64 d] w fun e w' => e = .returned (.bool true) ∧ Below w.heap.size w w' := by
  obtain ⟨m, hm⟩ : ∃ m, rowsOf rows = m := ⟨_, rfl⟩
  obtain ⟨n, hn⟩ : ∃ n, widthOf width = n := ⟨_, rfl⟩
  have hmb := rows_bd rows
  have hnb := width_bd width
  rw [hm] at hmb
  rw [hn] at hnb
  have HQ := Lib.hid hq
  have HBX : Hid (Have w (w.alloc (.cells #[.int .i64 rows, .int .i64 width, .slice A n0 c0] 45)) [boxT w.heap.size 45 #[.int .i64 rows, .int .i64 width, .slice A n0 c0]]) := Lib.hid (box_new w _ _)
  have HR1 := Lib.hid hr1
  have CS := Lib.hid (fun w => sized_any rows width A n0 c0 w)
  rw [hm, hn] at CS
  have e8 : cl (m : Int) 8 = m := by unfold cl; omega
  have e128 : cl (n : Int) 128 = n := by unfold cl; omega
  have CN := Lib.hid (fun w => new_mn m n m n w e8 e128 (by omega) (by omega) (by omega) (by omega))
  have hnc := hq.nc
  have hcm := hq.cm
  unfold maxLen at hcm
  have HL := Lib.hid hq.len
  have hnm : ¬ m = 0 := by omega
  have hnn : ¬ n = 0 := by omega
  obtain ⟨q5, hmn⟩ : ∃ q, m * n = q := ⟨_, rfl⟩
  have hq1 : q5 ≤ 45 := by rw [← hmn]; exact Nat.le_trans (Nat.mul_le_mul hmb.2 hnb.2) (by decide)
  have HMN := Lib.hid hmn
  clear hm hn hr1 e8 e128 hq hmn
  go_enter Try.func8, Try.ntmps8
  go_wp2_with (first
    | (go_at_call 10; (with_reducible refine (CN.out _).mono ?_); rintro e w2 ⟨p, F0, rfl, hnp, hnf, hnb4⟩; have HV2 := Lib.hid (HV1.out.push (pgT p F0 m n (zerosL m n)) hnb4 hnp hnf); clear hnp hnf hnb4 k0 k1 k2)
    | (go_at_call 23; (with_reducible refine (CS.out _).mono ?_); rintro e wz ⟨rfl, hb⟩; have HV1' := Lib.hid (HV1.out.up hb); clear HV1 HBW1; have HV1 := Lib.hid HV1'.out; clear HV1'; have HBW1 := Lib.hid HV1.out.below; clear k0 k1 k2; obtain ⟨k0, k1, k2⟩ := box3 HV1.out.1; clear hb)
    | (go_at_call 9; (with_reducible refine (shown_any _).mono ?_); rintro e w1 ⟨rfl, hb⟩; have HV1 := Lib.hid (HBX.out.up hb); have HBW1 := Lib.hid HV1.out.below; obtain ⟨k0, k1, k2⟩ := box3 HV1.out.1; clear hb))
  go_loopw [11] (fun iv wr => ∃ (k : Nat) (F : Nat → Prop) (L : List (List Int)), k ≤ n0 ∧ k ≤ 60 ∧ iv = .int .i64 k ∧ Have w wr [pgT p F m n L, boxT w.heap.size 45 #[.int .i64 rows, .int .i64 width, .slice A n0 c0]]) (fun iv _ => n0 - (intOf iv).toNat)
  case atStart => exact ⟨0, F0, zerosL m n, Nat.zero_le _, Nat.zero_le _, rfl, HV2.out⟩
  case round =>
    obtain ⟨k, F, L, hk, hk60, rfl, hv⟩ := hrel
    have HV3 := Lib.hid hv
    clear hv
    have HB3 := Lib.hid HV3.out.below
    obtain ⟨kb0, kb1, kb2⟩ := box3 HV3.out.2.2.2.1
    by_cases hlt : k < n0 ∧ k < 60
    · obtain ⟨hk1, hk2⟩ := hlt
      obtain ⟨q, hq1⟩ : ∃ q, qs[k]? = some q := ⟨_, List.getElem?_eq_getElem (by rw [HL.out]; omega)⟩
      obtain ⟨a, g, o, rfl, hadd, d1w, d2w, hin⟩ := HQ.out.at hq1
      have d1 := cell_up d1w HB3.out
      have d2x := cell_up d2w HB3.out
      have HD2 := Lib.hid d2w
      have b1 := hin.db
      have IN1 := Lib.hid (hin.up HB3.out)
      obtain ⟨u, v, huv, hu, hv⟩ := cut_two q.zs
      have HUV := Lib.hid huv
      obtain ⟨U, hU, hUm⟩ := rem_nat u m hmb.1
      obtain ⟨V, hV, hVn⟩ := rem_nat v n hnb.1
      clear hq1 hin huv d1w d2w
      go_wp2_with (go_at_call 27; (with_reducible refine (cut2_any q.A q.n q.c q.zs u v _ IN1.out.rd IN1.out.len (Nat.le_trans IN1.out.nc IN1.out.cm) HUV.out).mono ?_); rintro e w5 ⟨A5, cap5, rfl, own5, rd5, hc5, hm5, hb5⟩; obtain ⟨gA, rfl, hgA, hlA⟩ := own_block own5; have HV5 := Lib.hid (HV3.out.push (rowT (some ⟨gA, 0, none⟩) [(u : Int), (v : Int)]) hb5 (own_row1 own5) (own_ge1 own5)); have cb2 := cell_up kb2 hb5; have d2 := cell_up d2x hb5; have cu : w5.cell? ⟨gA, 0, none⟩ = some (.int .i64 (u : Int)) := (by simpa [Ord.add_at] using rd5.at (j := 0) rfl); have cv : w5.cell? ⟨gA, 1, none⟩ = some (.int .i64 (v : Int)) := (by simpa [Ord.add_at] using rd5.at (j := 1) rfl); clear own5 rd5 hb5)
      go_region_held3 (fun w' => w'.cell? ⟨w.heap.size, 2, none⟩ = some (.slice (some a) n0 c0) ∧ w'.cell? ⟨gA, 0, none⟩ = some (.int .i64 (u : Int)) ∧ w'.cell? ⟨gA, 1, none⟩ = some (.int .i64 (v : Int)) ∧ w'.cell? ⟨g, o + 1, none⟩ = some (.int .i64 q.d)) (first | (refine ⟨?_, ?_, ?_, ?_⟩ <;> (first | (with_reducible assumption) | (with_reducible refine cell_up cb2 ?_) | (with_reducible refine cell_up cu ?_) | (with_reducible refine cell_up cv ?_) | (with_reducible refine cell_up d2 ?_)) <;> (repeat' (first | (with_reducible exact Below.refl _ _) | (with_reducible refine Below.drew ?_) | (with_reducible refine below_drewN ?_ _) | go_size)))) (first
        | (go_at_call 29; (with_reducible refine (put_any p F m n L (U : Int) (V : Int) q.d _ (pg_up (pg0 HV5.out.drop) (by repeat' (first | (with_reducible exact Below.refl _ _) | (with_reducible assumption) | (with_reducible refine below_over ?_ _ _) | (with_reducible refine Lw.below_alloc ?_ _) | (with_reducible refine Below.drew ?_) | (with_reducible refine below_drewN ?_ _) | (with_reducible refine Below.setCell ?_ ?_ _) | go_size))) (by omega) (by omega) (by omega) (by omega) b1.1 b1.2).mono ?_); rintro e w6 ⟨rfl, F6, hnp, hnk, hnf⟩; have HV6 := Lib.hid ((HV5.out.up (by repeat' (first | (with_reducible exact Below.refl _ _) | (with_reducible assumption) | (with_reducible refine below_over ?_ _ _) | (with_reducible refine Lw.below_alloc ?_ _) | (with_reducible refine Below.drew ?_) | (with_reducible refine below_drewN ?_ _) | (with_reducible refine Below.setCell ?_ ?_ _) | go_size))).turn1 (pgT p F6 m n (setL L (U : Int) (V : Int) q.d)) hnp hnk hnf); have x2 := (box3 HV6.out.2.2.2.2.2.2.1).2.2; have xd := cell_up HD2.out HV6.out.below; have rx := Row1.rd HV6.out.1; have xu : w6.cell? ⟨gA, 0, none⟩ = some (.int .i64 (u : Int)) := (by simpa [Ord.add_at] using rx.at (j := 0) rfl); have xv : w6.cell? ⟨gA, 1, none⟩ = some (.int .i64 (v : Int)) := (by simpa [Ord.add_at] using rx.at (j := 1) rfl); clear hnp hnk hnf rx))
      go_wp2
      go_roundw
      case rel => exact ⟨k + 1, F6, setL L (U : Int) (V : Int) q.d, by omega, by omega, by go_num, (HV6.out.drop).up (by repeat' (first | (with_reducible exact Below.refl _ _) | (with_reducible assumption) | (with_reducible refine below_over ?_ _ _) | (with_reducible refine Lw.below_alloc ?_ _) | (with_reducible refine Below.drew ?_) | (with_reducible refine below_drewN ?_ _) | (with_reducible refine Below.setCell ?_ ?_ _) | go_size))⟩
      case measure => simp [intOf]; omega
    · have hend : k = n0 ∨ (k = 60 ∧ k < n0) := by omega
      have hdm := (PG.dims HV3.out.1)
      have HFL := Lib.hid ((flat_dims hdm).trans HMN.out)
      have HDM := Lib.hid hdm
      clear hlt hdm
      rcases hend with rfl | ⟨rfl, hkn⟩
      · cases hf : chFits L (cutOf cs m n) d with
        | false =>
          have HNO := Lib.hid (back_no (cut_meets cs hmb.1 hnb.1) hf)
          clear hf
          go_wp2_with (first
            | (go_at_call 20; (with_reducible refine (same_yes Aa A7 q5 capa cap7 L.flatten _ RDa.out (row_at1 HVa.out) HFL.out (by omega)).mono ?_); rintro e wb ⟨rfl, hb⟩; have HBWb := Lib.hid (below_call HVa.out.below hb (Nat.le_refl _)); clear hb)
            | (go_at_call 21; (with_reducible refine (cells_q p _ m n q5 L _ (pg2 HV9.out) HMN.out).mono ?_); rintro e wa ⟨Aa, capa, rfl, hra, hca, hda, hna, hb⟩; have HVa := Lib.hid ((HV9.out).up hb); have RDa := Lib.hid (Row1.rd hra); clear hra hna hb)
            | (go_at_call 12; (with_reducible refine (change_h HV8.out (cut_meets cs hmb.1 hnb.1) hmb.2 hnb.2 d (by omega) (by omega) HNO.out).mono ?_); rintro e w9 ⟨rfl, F9, hv9⟩; have HV9 := Lib.hid hv9; have HBHV9 := Lib.hid hv9.below; clear hv9)
            | (go_at_call 27; (with_reducible refine (rcut_any A1 n1 c1 cs m n _ (HR1.out.up HBW7.out) hl1 (Nat.le_trans hn1 hc1) (by omega) (by omega) (by omega)).mono ?_); rintro e w8 ⟨A8, cap8, rfl, own8, rd8, hc8, hm8, hb8⟩; have HV8 := Lib.hid (HV7.out.push (rowT (some A8) (cutOf cs m n)) hb8 (own_row1 own8) (own_ge1 own8)); clear own8 rd8 hb8)
            | (go_at_call 21; (with_reducible refine (cells_q p F m n q5 L _ (pg0 HV3.out) HMN.out).mono ?_); rintro e w7 ⟨A7, cap7, rfl, hr7, hc7, hd7, hn7, hb⟩; have HV7 := Lib.hid (HV3.out.push (rowT A7 L.flatten) hb hr7 (fun k hk => by obtain ⟨a, ha, rfl⟩ := hk; exact hn7 a ha)); have HBW7 := Lib.hid HV7.out.below; clear hr7 hn7 hb))
          go_ret
          exact ⟨rfl, HBWb.out⟩
        | true =>
          have HYE := Lib.hid (ch_ok (cut_meets cs hmb.1 hnb.1) hf)
          have HBA := Lib.hid (ch_ok (cut_meets cs hmb.1 hnb.1) (fits_back HDM.out (cut_meets cs hmb.1 hnb.1) d))
          rw [changed_back (sz_dims HDM.out) (cut_meets cs hmb.1 hnb.1) d] at HBA
          clear hf
          by_cases hdm : d = -9223372036854775808
          · subst hdm
            clear HBA
            go_wp2_with (first
            | (go_at_call 12; (with_reducible refine (change_h HV8.out (cut_meets cs hmb.1 hnb.1) hmb.2 hnb.2 (-9223372036854775808) (by omega) (by omega) HYE.out).mono ?_); rintro e w9 ⟨rfl, F9, hv9⟩; have HV9 := Lib.hid hv9; have HBHV9 := Lib.hid hv9.below; clear hv9)
            | (go_at_call 27; (with_reducible refine (rcut_any A1 n1 c1 cs m n _ (HR1.out.up HBW7.out) hl1 (Nat.le_trans hn1 hc1) (by omega) (by omega) (by omega)).mono ?_); rintro e w8 ⟨A8, cap8, rfl, own8, rd8, hc8, hm8, hb8⟩; have HV8 := Lib.hid (HV7.out.push (rowT (some A8) (cutOf cs m n)) hb8 (own_row1 own8) (own_ge1 own8)); clear own8 rd8 hb8)
            | (go_at_call 21; (with_reducible refine (cells_q p F m n q5 L _ (pg0 HV3.out) HMN.out).mono ?_); rintro e w7 ⟨A7, cap7, rfl, hr7, hc7, hd7, hn7, hb⟩; have HV7 := Lib.hid (HV3.out.push (rowT A7 L.flatten) hb hr7 (fun k hk => by obtain ⟨a, ha, rfl⟩ := hk; exact hn7 a ha)); have HBW7 := Lib.hid HV7.out.below; clear hr7 hn7 hb))
            go_ret
            exact ⟨rfl, HBHV9.out⟩
          · go_wp2_with (first
            | (go_at_call 20; (with_reducible refine (same_yes Aa A7 q5 capa cap7 L.flatten _ RDa.out (row_at1 HVa.out) HFL.out (by omega)).mono ?_); rintro e wb ⟨rfl, hb⟩; have HBWb := Lib.hid (below_call HVa.out.below hb (Nat.le_refl _)); clear hb)
            | (go_at_call 21; (with_reducible refine (cells_q p _ m n q5 L _ (pg2 HVc.out) HMN.out).mono ?_); rintro e wa ⟨Aa, capa, rfl, hra, hca, hda, hna, hb⟩; have HVa := Lib.hid ((HVc.out).up hb); have RDa := Lib.hid (Row1.rd hra); clear hra hna hb)
            | (go_at_call 12; (with_reducible refine (change_h HV9.out (cut_meets cs hmb.1 hnb.1) hmb.2 hnb.2 (-d) (by omega) (by omega) HBA.out).mono ?_); rintro e w9 ⟨rfl, Fc, hv9⟩; have HVc := Lib.hid hv9; have HBHVc := Lib.hid hv9.below; clear hv9)
            | (go_at_call 12; (with_reducible refine (change_h HV8.out (cut_meets cs hmb.1 hnb.1) hmb.2 hnb.2 d (by omega) (by omega) HYE.out).mono ?_); rintro e w9 ⟨rfl, F9, hv9⟩; have HV9 := Lib.hid hv9; have HBHV9 := Lib.hid hv9.below; clear hv9)
            | (go_at_call 27; (with_reducible refine (rcut_any A1 n1 c1 cs m n _ (HR1.out.up HBW7.out) hl1 (Nat.le_trans hn1 hc1) (by omega) (by omega) (by omega)).mono ?_); rintro e w8 ⟨A8, cap8, rfl, own8, rd8, hc8, hm8, hb8⟩; have HV8 := Lib.hid (HV7.out.push (rowT (some A8) (cutOf cs m n)) hb8 (own_row1 own8) (own_ge1 own8)); clear own8 rd8 hb8)
            | (go_at_call 21; (with_reducible refine (cells_q p F m n q5 L _ (pg0 HV3.out) HMN.out).mono ?_); rintro e w7 ⟨A7, cap7, rfl, hr7, hc7, hd7, hn7, hb⟩; have HV7 := Lib.hid (HV3.out.push (rowT A7 L.flatten) hb hr7 (fun k hk => by obtain ⟨a, ha, rfl⟩ := hk; exact hn7 a ha)); have HBW7 := Lib.hid HV7.out.below; clear hr7 hn7 hb))
            go_ret
            exact ⟨rfl, HBWb.out⟩
      · cases hf : chFits L (cutOf cs m n) d with
        | false =>
          have HNO := Lib.hid (back_no (cut_meets cs hmb.1 hnb.1) hf)
          clear hf
          go_wp2_with (first
            | (go_at_call 20; (with_reducible refine (same_yes Aa A7 q5 capa cap7 L.flatten _ RDa.out (row_at1 HVa.out) HFL.out (by omega)).mono ?_); rintro e wb ⟨rfl, hb⟩; have HBWb := Lib.hid (below_call HVa.out.below hb (Nat.le_refl _)); clear hb)
            | (go_at_call 21; (with_reducible refine (cells_q p _ m n q5 L _ (pg2 HV9.out) HMN.out).mono ?_); rintro e wa ⟨Aa, capa, rfl, hra, hca, hda, hna, hb⟩; have HVa := Lib.hid ((HV9.out).up hb); have RDa := Lib.hid (Row1.rd hra); clear hra hna hb)
            | (go_at_call 12; (with_reducible refine (change_h HV8.out (cut_meets cs hmb.1 hnb.1) hmb.2 hnb.2 d (by omega) (by omega) HNO.out).mono ?_); rintro e w9 ⟨rfl, F9, hv9⟩; have HV9 := Lib.hid hv9; have HBHV9 := Lib.hid hv9.below; clear hv9)
            | (go_at_call 27; (with_reducible refine (rcut_any A1 n1 c1 cs m n _ (HR1.out.up HBW7.out) hl1 (Nat.le_trans hn1 hc1) (by omega) (by omega) (by omega)).mono ?_); rintro e w8 ⟨A8, cap8, rfl, own8, rd8, hc8, hm8, hb8⟩; have HV8 := Lib.hid (HV7.out.push (rowT (some A8) (cutOf cs m n)) hb8 (own_row1 own8) (own_ge1 own8)); clear own8 rd8 hb8)
            | (go_at_call 21; (with_reducible refine (cells_q p F m n q5 L _ (pg0 HV3.out) HMN.out).mono ?_); rintro e w7 ⟨A7, cap7, rfl, hr7, hc7, hd7, hn7, hb⟩; have HV7 := Lib.hid (HV3.out.push (rowT A7 L.flatten) hb hr7 (fun k hk => by obtain ⟨a, ha, rfl⟩ := hk; exact hn7 a ha)); have HBW7 := Lib.hid HV7.out.below; clear hr7 hn7 hb))
          go_ret
          exact ⟨rfl, HBWb.out⟩
        | true =>
          have HYE := Lib.hid (ch_ok (cut_meets cs hmb.1 hnb.1) hf)
          have HBA := Lib.hid (ch_ok (cut_meets cs hmb.1 hnb.1) (fits_back HDM.out (cut_meets cs hmb.1 hnb.1) d))
          rw [changed_back (sz_dims HDM.out) (cut_meets cs hmb.1 hnb.1) d] at HBA
          clear hf
          by_cases hdm : d = -9223372036854775808
          · subst hdm
            clear HBA
            go_wp2_with (first
            | (go_at_call 12; (with_reducible refine (change_h HV8.out (cut_meets cs hmb.1 hnb.1) hmb.2 hnb.2 (-9223372036854775808) (by omega) (by omega) HYE.out).mono ?_); rintro e w9 ⟨rfl, F9, hv9⟩; have HV9 := Lib.hid hv9; have HBHV9 := Lib.hid hv9.below; clear hv9)
            | (go_at_call 27; (with_reducible refine (rcut_any A1 n1 c1 cs m n _ (HR1.out.up HBW7.out) hl1 (Nat.le_trans hn1 hc1) (by omega) (by omega) (by omega)).mono ?_); rintro e w8 ⟨A8, cap8, rfl, own8, rd8, hc8, hm8, hb8⟩; have HV8 := Lib.hid (HV7.out.push (rowT (some A8) (cutOf cs m n)) hb8 (own_row1 own8) (own_ge1 own8)); clear own8 rd8 hb8)
            | (go_at_call 21; (with_reducible refine (cells_q p F m n q5 L _ (pg0 HV3.out) HMN.out).mono ?_); rintro e w7 ⟨A7, cap7, rfl, hr7, hc7, hd7, hn7, hb⟩; have HV7 := Lib.hid (HV3.out.push (rowT A7 L.flatten) hb hr7 (fun k hk => by obtain ⟨a, ha, rfl⟩ := hk; exact hn7 a ha)); have HBW7 := Lib.hid HV7.out.below; clear hr7 hn7 hb))
            go_ret
            exact ⟨rfl, HBHV9.out⟩
          · go_wp2_with (first
            | (go_at_call 20; (with_reducible refine (same_yes Aa A7 q5 capa cap7 L.flatten _ RDa.out (row_at1 HVa.out) HFL.out (by omega)).mono ?_); rintro e wb ⟨rfl, hb⟩; have HBWb := Lib.hid (below_call HVa.out.below hb (Nat.le_refl _)); clear hb)
            | (go_at_call 21; (with_reducible refine (cells_q p _ m n q5 L _ (pg2 HVc.out) HMN.out).mono ?_); rintro e wa ⟨Aa, capa, rfl, hra, hca, hda, hna, hb⟩; have HVa := Lib.hid ((HVc.out).up hb); have RDa := Lib.hid (Row1.rd hra); clear hra hna hb)
            | (go_at_call 12; (with_reducible refine (change_h HV9.out (cut_meets cs hmb.1 hnb.1) hmb.2 hnb.2 (-d) (by omega) (by omega) HBA.out).mono ?_); rintro e w9 ⟨rfl, Fc, hv9⟩; have HVc := Lib.hid hv9; have HBHVc := Lib.hid hv9.below; clear hv9)
            | (go_at_call 12; (with_reducible refine (change_h HV8.out (cut_meets cs hmb.1 hnb.1) hmb.2 hnb.2 d (by omega) (by omega) HYE.out).mono ?_); rintro e w9 ⟨rfl, F9, hv9⟩; have HV9 := Lib.hid hv9; have HBHV9 := Lib.hid hv9.below; clear hv9)
            | (go_at_call 27; (with_reducible refine (rcut_any A1 n1 c1 cs m n _ (HR1.out.up HBW7.out) hl1 (Nat.le_trans hn1 hc1) (by omega) (by omega) (by omega)).mono ?_); rintro e w8 ⟨A8, cap8, rfl, own8, rd8, hc8, hm8, hb8⟩; have HV8 := Lib.hid (HV7.out.push (rowT (some A8) (cutOf cs m n)) hb8 (own_row1 own8) (own_ge1 own8)); clear own8 rd8 hb8)
            | (go_at_call 21; (with_reducible refine (cells_q p F m n q5 L _ (pg0 HV3.out) HMN.out).mono ?_); rintro e w7 ⟨A7, cap7, rfl, hr7, hc7, hd7, hn7, hb⟩; have HV7 := Lib.hid (HV3.out.push (rowT A7 L.flatten) hb hr7 (fun k hk => by obtain ⟨a, ha, rfl⟩ := hk; exact hn7 a ha)); have HBW7 := Lib.hid HV7.out.below; clear hr7 hn7 hb))
            go_ret
            exact ⟨rfl, HBWb.out⟩
namespace linearBack
open Go.ChangeShapes Go.WideShapes Go.ChangeAt Go.Joins
set_option maxRecDepth 100000 in
theorem lifted (os : Os) (started : os.Started) (H : Type) (enc : TypeId × Value → H) :
    ReturnsInHanded {} Try.checked os 8 .any (Rows.linearBackSpec.pre6 enc Try.prog Try.f8 Rows.linearBackRow.domain false) (Rows.linearBackSpec.post enc Try.prog Try.f8 false true false false) := by
  refine Lw.lifted (C := Try.checked) (B := 4) (by kernel_rfl) os started (by kernel_rfl) Try.func8
    (ChangeSpec.witness6 (enc := enc) (C := Try.checked) false ⟨#[], #[.agg #[.int .i64 0, .int .i64 0, .slice none 0 0], .slice none 0 0, .int .i64 0], []⟩ 8 (by kernel_rfl) (by kernel_rfl) (by kernel_rfl) (by kernel_rfl)) rfl Try.underlying4 (by kernel_rfl) (by kernel_rfl) (by kernel_rfl) ?_ ?_
  · intro ds h
    rw [Try.params8] at h
    match ds, h with
    | [_, _, _], _ => rfl
  · intro W base args ds p hval hA
    rw [Try.params8] at hA hval
    obtain ⟨v0, vs0, d0, ds0, p0, q0, hargs, rfl, rfl, h0, r0⟩ := trodAll_cons hA
    obtain ⟨v1, vs1, d1, ds1, p1, q1, rfl, rfl, rfl, h1, r1⟩ := trodAll_cons r0
    obtain ⟨v2, vs2, d2, ds2, p2, q2, rfl, rfl, rfl, h2, r2⟩ := trodAll_cons r1
    obtain ⟨rfl, rfl, rfl⟩ := trodAll_nil r2
    obtain rfl : args = #[v0, v1, v2] := by cases args; simp_all
    obtain ⟨y0, u0, A0, n0, c0, qs0, rfl, rb0, ub0, hq0⟩ := open_play (hval 0 45 v0 rfl rfl) h0
    obtain ⟨A1, n1, c1, zs1, rfl, hA1, hn1, hc1, hr1, hl1, hz1⟩ := open_list_int (hval 1 28 v1 rfl rfl) h1
    obtain ⟨a2, rfl, rfl, rfl, w2⟩ := open_int Try.underlying2 (hval 2 2 v2 rfl rfl) h2
    have b2 := Lw.wf_i64 w2
    exact back_law y0 u0 A0 n0 c0 qs0 W A1 n1 c1 zs1 hA1 hn1 hc1 hr1 hl1 hz1 a2 b2 hq0
theorem over : Rows.linearBackRow.holds Try.pinned (OpenSpec.ofChange Rows.linearBackSpec) :=
  OpenClaim.holds_of_wide 8 Try.f8 rfl rfl rfl rfl rfl rfl rfl ⟨rfl, rfl, rfl, rfl, rfl⟩ rfl rfl rfl rfl rfl (by kernel_rfl) Try.func8 (by kernel_rfl)
    (of_decide_eq_true (by kernel_rfl)) (by unfold Func.isWrapper; first | (rw [if_pos (by decide +kernel)]; kernel_rfl) | (rw [if_neg (by decide +kernel)]; exact ⟨rfl, rfl⟩))
    (fun os started H enc _ => lifted os started H enc)
theorem proved : Rows.LinearBackSaid :=
  over
#print axioms proved
end linearBack
end Go.Proofs.Ytmneihdkkmgbkaa.Lin
