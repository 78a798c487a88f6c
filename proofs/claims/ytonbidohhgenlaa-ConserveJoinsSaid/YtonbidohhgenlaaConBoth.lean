/- both and own of layer 9's laws. Printed by wip/gen/conboth.py. -/
import Derived.Test.YtonbidohhgenlaaConLawA
import Derived.Deep.LoopGhost
import Derived.Deep.RegionHeld3
import Derived.Deep.QuietTactic
import Derived.BigQuiet
namespace Go.Proofs.Ytonbidohhgenlaa.Con
open Go Go.RowKit Lw Grd Lin
set_option linter.unusedVariables false
set_option linter.unusedSimpArgs false
/-- What the steps from the one place to the other add. -/
def opsB (f t m n : Nat) (qs : List StepV) : Ops := ((qs.take (min 60 t)).drop f).map (fun q => (cutOf q.zs m n, dv true q.d))
def opsK (k f t m n : Nat) (qs : List StepV) : Ops := ((qs.take (min k t)).drop f).map (fun q => (cutOf q.zs m n, dv true q.d))
theorem opsK_all {k f t m n : Nat} {qs : List StepV} (h : min k qs.length = min 60 qs.length) : opsK k f t m n qs = opsB f t m n qs := by
  unfold opsK opsB
  rw [show qs.take (min k t) = qs.take (min 60 t) from List.take_eq_take_iff.2 (by omega)]
theorem opsK_skip {k f t m n : Nat} {qs : List StepV} (h : k < f ∨ t ≤ k) : opsK (k + 1) f t m n qs = opsK k f t m n qs := by
  unfold opsK
  rcases h with h | h
  · rw [List.drop_of_length_le (by rw [List.length_take]; omega), List.drop_of_length_le (by rw [List.length_take]; omega)]
  · rw [show qs.take (min (k + 1) t) = qs.take (min k t) from List.take_eq_take_iff.2 (by omega)]
theorem opsK_next {k f t m n : Nat} {qs : List StepV} {q : StepV} (hq : qs[k]? = some q) (h1 : f ≤ k) (h2 : k < t) : opsK (k + 1) f t m n qs = opsK k f t m n qs ++ [(cutOf q.zs m n, dv true q.d)] := by
  obtain ⟨hk, e⟩ := List.getElem?_eq_some_iff.1 hq
  unfold opsK
  rw [show min (k + 1) t = k + 1 by omega, show min k t = k by omega, List.take_succ_eq_append_getElem hk, e, List.drop_append_of_le_length (by rw [List.length_take]; omega), List.map_append]
  rfl
theorem opsK_ok (k f t : Nat) {m n : Nat} (qs : List StepV) (hm : 1 ≤ m) (hn : 1 ≤ n) : OpsOk m n 1099511627776 (opsK k f t m n qs) ∧ Plus 1099511627776 (opsK k f t m n qs) := by
  have key : ∀ o ∈ opsK k f t m n qs, Meets m n o.1 ∧ 0 ≤ o.2 ∧ o.2 ≤ 1099511627776 := by
    intro o ho
    unfold opsK at ho
    obtain ⟨q, _, rfl⟩ := List.mem_map.1 ho
    exact ⟨cut_meets _ hm hn, dv_plain q.d, (dv_bd true q.d).2⟩
  exact ⟨fun o ho => ⟨(key o ho).1, by have := (key o ho).2; omega, (key o ho).2.2⟩, fun o ho => (key o ho).2⟩
theorem opsK_len (k f t m n : Nat) (qs : List StepV) : (opsK k f t m n qs).length ≤ k := by
  unfold opsK
  rw [List.length_map, List.length_drop, List.length_take]
  omega
theorem opsK_zero (f t m n : Nat) (qs : List StepV) : opsK 0 f t m n qs = [] := by
  unfold opsK
  simp
theorem opsB_K (f t m n : Nat) (qs : List StepV) : opsB f t m n qs = opsK 60 f t m n qs := rfl
theorem opsB_part (t m n : Nat) (qs : List StepV) (ht : t ≤ 60) : opsB 0 t m n qs ++ opsB t 60 m n qs = opsB 0 60 m n qs := by
  unfold opsB
  rw [← List.map_append, show min 60 t = t by omega, show min 60 60 = 60 by omega]
  congr 1
  rw [List.drop_zero, List.drop_zero]
  have h := List.take_append_drop t (qs.take 60)
  rw [List.take_take, show min t 60 = t by omega] at h
  exact h
/-- A row of rows. -/
theorem row_at2 {w : World} {B : Nat} {eo : TypeId} {hdr : Value} {Ah : Option Addr} {M ch : Nat} {R : List Row} (h : RR w B eo hdr R) (he : hdr = .slice Ah M ch) {j m : Nat} {Z : List Int} (hj : (nums R)[j]? = some Z) (hZ : Z.length = m) :
    ∃ (ad : Addr) (g cap : Nat), Ah = some ad ∧ w.cell? (ad.add j) = some (.slice (some ⟨g, 0, none⟩) m cap) ∧ m ≤ cap ∧ cap ≤ maxLen ∧ Rd .i64 w (some ⟨g, 0, none⟩) Z ∧ (g, cap, Z) ∈ R := by
  unfold nums at hj
  rw [List.getElem?_map] at hj
  obtain ⟨r, hr, e2⟩ := Option.map_eq_some_iff.1 hj
  obtain ⟨A, cap, e3, _, _, _, hc⟩ := h.hd
  rw [he] at e3
  injection e3 with e3 _ _
  subst e3
  obtain ⟨ad, hA, hcell⟩ := hc j r hr
  obtain ⟨_, _, h3, h4, _, h6⟩ := h.rows r (List.mem_of_getElem? hr)
  obtain ⟨gr, cr, zr⟩ := r
  simp only at e2 h3 h4 h6
  subst e2
  refine ⟨ad, gr, cr, hA, ?_, by omega, h4, h6, List.mem_of_getElem? hr⟩
  rw [hcell]
  unfold rowHd
  rw [hZ]
theorem rr_rd {w : World} {B : Nat} {eo : TypeId} {hdr : Value} {R : List Row} (h : RR w B eo hdr R) {g cap : Nat} {Z : List Int} (hm : (g, cap, Z) ∈ R) : Rd .i64 w (some ⟨g, 0, none⟩) Z := (h.rows _ hm).2.2.2.2.2
theorem rr_F {B : Nat} {eo : TypeId} {hdr : Value} {R : List Row} {g cap : Nat} {Z : List Int} (hm : (g, cap, Z) ∈ R) : (rrT B eo hdr R).F g := .inr ⟨_, hm, rfl⟩
/-- A raise of the third thing by a row of the second. -/
theorem raise_h {w0 w : World} {t : Thing} {B : Nat} {eo : TypeId} {hdr : Value} {R : List Row} {p : Addr} {F : Nat → Prop} {m n : Nat} {L : List (List Int)} {ts : List Thing} (h : Have w0 w (t :: rrT B eo hdr R :: pgT p F m n L :: ts)) {g cap : Nat} {Z : List Int} (hr : (g, cap, Z) ∈ R) (hZ : Z.length = m) (hn1 : 1 ≤ n) (hz : In64 Z) (d : Int) (d0 : -9223372036854775808 ≤ d) (d1 : d ≤ 9223372036854775807) {c : Int} {L2 : List (List Int)} (hc : rsCode m n L Z d = c ∧ rsRes m n L Z d = L2) :
    Calls Try.prog 11 #[.pointer (some p), .slice (some ⟨g, 0, none⟩) m cap, .int .i64 d] w fun e w' => e = .returned (.int .i64 c) ∧ ∃ F', Have w0 w' (t :: rrT B eo hdr R :: pgT p F' m n L2 :: ts) := by
  obtain ⟨rfl, rfl⟩ := hc
  have hp := pgI h.i2
  have hm8 := hp.dims.m8
  refine (raise_any p F m n L (some ⟨g, 0, none⟩) m cap Z d w hp (rr_rd (rrI h.i1) hr) (fun a ha hf => ?_) hZ (by omega) hz d0 d1).mono fun e w' ⟨he, F', hnp, hnk, hnf⟩ => ?_
  · injection ha with ha
    subst ha
    exact h.ap12 g (rr_F hr) hf
  · exact ⟨he, F', h.turn_2 (pgT p F' m n _) hnp hnk hnf⟩
theorem change_hh {w0 w : World} {B : Nat} {eo : TypeId} {hdr : Value} {R : List Row} {p : Addr} {F : Nat → Prop} {m n : Nat} {L : List (List Int)} {ts : List Thing} (h : Have w0 w (pgT p F m n L :: rrT B eo hdr R :: ts)) {g cap : Nat} {Z : List Int} (hr : (g, cap, Z) ∈ R) (hZ : Z.length = m) (hn1 : 1 ≤ n) (hz : In64 Z) (d : Int) (d0 : -9223372036854775808 ≤ d) (d1 : d ≤ 9223372036854775807) {c : Int} {L2 : List (List Int)} (hc : chCode m n L Z d = c ∧ chRes m n L Z d = L2) :
    Calls Try.prog 32 #[.pointer (some p), .slice (some ⟨g, 0, none⟩) m cap, .int .i64 d] w fun e w' => e = .returned (.int .i64 c) ∧ ∃ F', Have w0 w' (pgT p F' m n L2 :: rrT B eo hdr R :: ts) := by
  obtain ⟨rfl, rfl⟩ := hc
  have hp := pgI h.i0
  have hm8 := hp.dims.m8
  refine (change_any p F m n L (some ⟨g, 0, none⟩) m cap Z d w hp (rr_rd (rrI h.i1) hr) (fun a ha hf => ?_) hZ (by omega) hz d0 d1).mono fun e w' ⟨he, F', hnp, hnk, hnf⟩ => ?_
  · injection ha with ha
    subst ha
    exact h.ap01 g hf (rr_F hr)
  · exact ⟨he, F', h.turn_0 (pgT p F' m n _) hnp hnk hnf⟩
theorem no_rows (B : Nat) (eo : TypeId) : ∀ k, ¬ (rrT B eo (.slice none 0 0) []).F k := fun k h2 => by
  rcases h2 with h2 | ⟨r, hr, _⟩
  · simp [Value.ownBlock] at h2
  · simp at hr
set_option maxRecDepth 100000 in
set_option maxHeartbeats 4000000 in
theorem both_any (rows width : Int) (A : Option Addr) (n0 c0 : Nat) (qs : List StepV) (m n f t : Nat) (f0 t0 : Int) (w : World) (hm : rowsOf rows = m) (hn : widthOf width = n) (hq : Lin.Steps w A n0 c0 qs) (hf0 : f0 = f) (ht0 : t0 = t) (hf61 : f ≤ 61) (ht61 : t ≤ 61) :
    Calls Try.prog 17 #[.agg #[.int .i64 rows, .int .i64 width, .slice A n0 c0], .int .i64 f0, .int .i64 t0] w fun e w' => ∃ (p p2 : Addr) (F F2 : Nat → Prop) (hdr : Value) (R : List Row), e = .returned (.tuple #[.pointer (some p), .pointer (some p2), hdr]) ∧ Have w w' [pgT p2 F2 m n (chAll (zerosL m n) (opsB f t m n qs)), rrT w.heap.size 30 hdr R, pgT p F m n (rsAll (zerosL m n) (opsB f t m n qs))] ∧ nums R = (qs.take 60).map (fun q => cutOf q.zs m n) := by
  obtain ⟨j0, hj, hj0, hj1, hj2⟩ := info_parts ints_info
  have hmb := rows_bd rows
  have hnb := width_bd width
  have CS := Lib.hid (fun w => sized_any rows width A n0 c0 w)
  rw [hm] at hmb CS
  rw [hn] at hnb CS
  clear hm hn
  have e8 : cl (m : Int) 8 = m := by unfold cl; omega
  have e128 : cl (n : Int) 128 = n := by unfold cl; omega
  have CN := Lib.hid (fun w => new_mn m n m n w e8 e128 (by omega) (by omega) (by omega) (by omega))
  have HQ := Lib.hid hq
  have hnc := hq.nc
  have hcm := hq.cm
  unfold maxLen at hcm
  have HL := Lib.hid hq.len
  have HBX : Hid (Have w (w.alloc (.cells #[.int .i64 rows, .int .i64 width, .slice A n0 c0] 24)) [boxT w.heap.size 24 #[.int .i64 rows, .int .i64 width, .slice A n0 c0]]) := Lib.hid (box_new w _ _)
  subst hf0 ht0
  clear hq e8 e128
  go_enter Try.func17, Try.ntmps17
  go_wp2_with (first
    | (go_at_call 9; (with_reducible refine (CN.out _).mono ?_); rintro e w3 ⟨p2, F2, rfl, hnp, hnf, hnb4⟩; have HV3 := Lib.hid (HV2.out.push (pgT p2 F2 m n (zerosL m n)) hnb4 hnp hnf); have ZZZ := Lib.hid True.intro; clear hnp hnf hnb4)
    | (go_at_call 9; (with_reducible refine (CN.out _).mono ?_); rintro e w2 ⟨p, F, rfl, hnp, hnf, hnb4⟩; have HV2 := Lib.hid (HV1.out.push (pgT p F m n (zerosL m n)) hnb4 hnp hnf); clear hnp hnf hnb4)
    | (go_at_call 16; (with_reducible refine (CS.out _).mono ?_); rintro e w1 ⟨rfl, hb⟩; have HV1 := Lib.hid (HBX.out.up hb); clear hb))
  go_loopw [13, 14] (fun all i wr => ∃ (k : Nat) (F F2 : Nat → Prop) (hdr : Value) (R : List Row), k ≤ n0 ∧ k ≤ 60 ∧ i = .int .i64 k ∧ hdr = all ∧ Have w wr [pgT p2 F2 m n (chAll (zerosL m n) (opsK k f t m n qs)), rrT w.heap.size 30 hdr R, pgT p F m n (rsAll (zerosL m n) (opsK k f t m n qs)), boxT w.heap.size 24 #[.int .i64 rows, .int .i64 width, .slice A n0 c0]] ∧ nums R = (qs.take k).map (fun q => cutOf q.zs m n)) (fun _ i _ => n0 - (intOf i).toNat)
  case atStart => exact ⟨0, F, F2, .slice none 0 0, [], Nat.zero_le _, Nat.zero_le _, rfl, rfl, by rw [opsK_zero]; exact HV3.out.ins_1 (rrT w.heap.size 30 (.slice none 0 0) []) (rr_start _ _ _) (no_rows _ _), rfl⟩
  case round =>
    obtain ⟨k, F, F2, hdr, R, hk, hk60, rfl, rfl, hhv, hR⟩ := hrel
    have HV3 := Lib.hid hhv
    have HR := Lib.hid hR
    have hRl : R.length = k := by
      have := congrArg List.length hR
      rw [nums_len, List.length_map, List.length_take, HL.out] at this
      omega
    clear hhv hR
    have cb := box_cell HV3.out.i3 (i := 2) (v := .slice A n0 c0) rfl
    by_cases hlt : k < n0 ∧ k < 60
    · obtain ⟨hk1, hk2⟩ := hlt
      have hwb := HV3.out.below
      obtain ⟨q1, hq1⟩ : ∃ q1, qs[k]? = some q1 := ⟨_, List.getElem?_eq_getElem (by rw [HL.out]; omega)⟩
      obtain ⟨a, g, o, rfl, hadd, c1w, c2w, hin⟩ := HQ.out.at hq1
      have IN1 := Lib.hid (hin.up hwb)
      have c1 := cell_up c1w hwb
      have HC2 := Lib.hid c2w
      have b1 := hin.db
      have CL6 := Lib.hid (cut_len q1.zs m n)
      have CI6 := Lib.hid (cutrow_in (cols := q1.zs) (m := m) hnb.1 (by omega))
      have HNX : Hid ((qs.take (k + 1)).map (fun q => cutOf q.zs m n) = (qs.take k).map (fun q => cutOf q.zs m n) ++ [cutOf q1.zs m n]) := Lib.hid (by
        obtain ⟨h1, h2⟩ := List.getElem?_eq_some_iff.1 hq1
        rw [List.take_succ_eq_append_getElem h1, List.map_append, h2]
        rfl)
      have HQ1 := Lib.hid hq1
      have hs5 : w.heap.size ≤ wr.heap.size := hwb.size
      clear hq1 hin c1w c2w hwb
      by_cases hkf : k < f
      · have HSK := Lib.hid (opsK_skip (k := k) (f := f) (t := t) (m := m) (n := n) (qs := qs) (.inl hkf))
        go_wp2_with (first
          | (at_builtin; (refine app_val rfl _ _ 42 rfl w.heap.size 30 j0 (.slice none 0 0) 24 intss_u hj hj0 hj1 hj2 (by decide) hdr R.length (R.map rowHd) rfl ((rr_up (rrI HV3.out.i1) HB6.out).outer.alloc _) (.slice (some ⟨g6, 0, none⟩) m cap6) w6.heap.size rfl (cell_one_new _ _ _) rfl (by unfold maxLen; omega) (by omega) (by simp; omega) ?_); intro g7 cap7 w7 own7 grow7 hg7 hlt7; have hx7 := HV3.out.row_push HB6.out hs5 hg6 hl6 CL6.out hc6 hm6 RD6.out own7 grow7 hg7; rw [hRl] at hx7; have HV7 := Lib.hid hx7.1; clear hx7 own7 grow7 hg7; have cb7 := box_cell HV7.out.i3 (i := 2) (v := .slice (some a) n0 c0) rfl; have c27 := cell_up HC2.out HV7.out.below; have HIN : Hid ((g6, cap6, cutOf q1.zs m n) ∈ R ++ [(g6, cap6, cutOf q1.zs m n)]) := Lib.hid (by simp))
          | (go_at_call 18; (with_reducible refine (rcut_any q1.A q1.n q1.c q1.zs m n _ IN1.out.rd IN1.out.len (Nat.le_trans IN1.out.nc IN1.out.cm) (by omega) (by omega) (by omega)).mono ?_); rintro e w6 ⟨A6, cap6, rfl, own6, rd6, hc6, hm6, hb6⟩; obtain ⟨g6, rfl, hg6, hl6⟩ := own_block own6; have RD6 := Lib.hid rd6; have HB6 := Lib.hid hb6; have hs6 : w.heap.size ≤ w6.heap.size := Nat.le_trans hs5 HB6.out.size; clear own6 rd6 hb6))
        go_roundw
        case rel => exact ⟨k + 1, F, F2, _, R ++ [(g6, cap6, cutOf q1.zs m n)], by omega, by omega, by go_num, rfl, by rw [HSK.out]; exact HV7.out, by rw [HNX.out, ← HR.out]; simp [nums]⟩
        case measure => simp [intOf]; omega
      by_cases hkt : t ≤ k
      · have HSK := Lib.hid (opsK_skip (k := k) (f := f) (t := t) (m := m) (n := n) (qs := qs) (.inr hkt))
        go_wp2_with (first
          | (at_builtin; (refine app_val rfl _ _ 42 rfl w.heap.size 30 j0 (.slice none 0 0) 24 intss_u hj hj0 hj1 hj2 (by decide) hdr R.length (R.map rowHd) rfl ((rr_up (rrI HV3.out.i1) HB6.out).outer.alloc _) (.slice (some ⟨g6, 0, none⟩) m cap6) w6.heap.size rfl (cell_one_new _ _ _) rfl (by unfold maxLen; omega) (by omega) (by simp; omega) ?_); intro g7 cap7 w7 own7 grow7 hg7 hlt7; have hx7 := HV3.out.row_push HB6.out hs5 hg6 hl6 CL6.out hc6 hm6 RD6.out own7 grow7 hg7; rw [hRl] at hx7; have HV7 := Lib.hid hx7.1; clear hx7 own7 grow7 hg7; have cb7 := box_cell HV7.out.i3 (i := 2) (v := .slice (some a) n0 c0) rfl; have c27 := cell_up HC2.out HV7.out.below; have HIN : Hid ((g6, cap6, cutOf q1.zs m n) ∈ R ++ [(g6, cap6, cutOf q1.zs m n)]) := Lib.hid (by simp))
          | (go_at_call 18; (with_reducible refine (rcut_any q1.A q1.n q1.c q1.zs m n _ IN1.out.rd IN1.out.len (Nat.le_trans IN1.out.nc IN1.out.cm) (by omega) (by omega) (by omega)).mono ?_); rintro e w6 ⟨A6, cap6, rfl, own6, rd6, hc6, hm6, hb6⟩; obtain ⟨g6, rfl, hg6, hl6⟩ := own_block own6; have RD6 := Lib.hid rd6; have HB6 := Lib.hid hb6; have hs6 : w.heap.size ≤ w6.heap.size := Nat.le_trans hs5 HB6.out.size; clear own6 rd6 hb6))
        go_roundw
        case rel => exact ⟨k + 1, F, F2, _, R ++ [(g6, cap6, cutOf q1.zs m n)], by omega, by omega, by go_num, rfl, by rw [HSK.out]; exact HV7.out, by rw [HNX.out, ← HR.out]; simp [nums]⟩
        case measure => simp [intOf]; omega
      have hok := opsK_ok k f t qs hmb.1 hnb.1
      have HST := Lib.hid (both_ok hok.1 hok.2 (Nat.le_trans (opsK_len k f t m n qs) hk60) (by omega) (by omega) (o := (cutOf q1.zs m n, dv true q1.d)) (cut_meets q1.zs hmb.1 hnb.1) ⟨dv_plain q1.d, (dv_bd true q1.d).2⟩)
      have hnx := opsK_next (f := f) (t := t) (m := m) (n := n) HQ1.out (by omega) (by omega)
      have hdb := dv_bd true q1.d
      obtain ⟨D, hD⟩ : ∃ D, dv true q1.d = D := ⟨_, rfl⟩
      have HDD := Lib.hid hD
      rw [hD] at hdb hnx HST
      simp only at HST
      rw [← hnx] at HST
      have hfk : f ≤ k := by omega
      have hkt2 : k < t := by omega
      have hfk2 : ¬ (k : Int) < (f : Int) := by omega
      have hkt3 : ¬ (t : Int) ≤ (k : Int) := by omega
      clear hok hnx hD hkf hkt
      go_wp2_with (first
        | (go_at_call 32; (with_reducible refine (change_hh HV8.out HIN.out CL6.out hnb.1 CI6.out D (by omega) (by omega) HST.out.2).mono ?_); rintro e w9 ⟨rfl, F9, hv9⟩; have HV9 := Lib.hid hv9; clear hv9)
        | (go_at_call 11; (with_reducible refine (raise_h HV7.out HIN.out CL6.out hnb.1 CI6.out D (by omega) (by omega) HST.out.1).mono ?_); rintro e w8 ⟨rfl, F8, hv8⟩; have HV8 := Lib.hid hv8; clear hv8)
        | (go_at_call 31; (with_reducible refine (plain_any q1.d _ b1.1 b1.2).mono ?_); rintro e wx ⟨rfl, hw⟩; subst wx; rw [HDD.out])
        | (at_builtin; (refine app_val rfl _ _ 42 rfl w.heap.size 30 j0 (.slice none 0 0) 24 intss_u hj hj0 hj1 hj2 (by decide) hdr R.length (R.map rowHd) rfl ((rr_up (rrI HV3.out.i1) HB6.out).outer.alloc _) (.slice (some ⟨g6, 0, none⟩) m cap6) w6.heap.size rfl (cell_one_new _ _ _) rfl (by unfold maxLen; omega) (by omega) (by simp; omega) ?_); intro g7 cap7 w7 own7 grow7 hg7 hlt7; have hx7 := HV3.out.row_push HB6.out hs5 hg6 hl6 CL6.out hc6 hm6 RD6.out own7 grow7 hg7; rw [hRl] at hx7; have HV7 := Lib.hid hx7.1; clear hx7 own7 grow7 hg7; have cb7 := box_cell HV7.out.i3 (i := 2) (v := .slice (some a) n0 c0) rfl; have c27 := cell_up HC2.out HV7.out.below; have HIN : Hid ((g6, cap6, cutOf q1.zs m n) ∈ R ++ [(g6, cap6, cutOf q1.zs m n)]) := Lib.hid (by simp))
        | (go_at_call 18; (with_reducible refine (rcut_any q1.A q1.n q1.c q1.zs m n _ IN1.out.rd IN1.out.len (Nat.le_trans IN1.out.nc IN1.out.cm) (by omega) (by omega) (by omega)).mono ?_); rintro e w6 ⟨A6, cap6, rfl, own6, rd6, hc6, hm6, hb6⟩; obtain ⟨g6, rfl, hg6, hl6⟩ := own_block own6; have RD6 := Lib.hid rd6; have HB6 := Lib.hid hb6; have hs6 : w.heap.size ≤ w6.heap.size := Nat.le_trans hs5 HB6.out.size; clear own6 rd6 hb6))
      go_roundw
      case rel => exact ⟨k + 1, F8, F9, _, R ++ [(g6, cap6, cutOf q1.zs m n)], by omega, by omega, by go_num, rfl, HV9.out, by rw [HNX.out, ← HR.out]; simp [nums]⟩
      case measure => simp [intOf]; omega
    · have hend : k = n0 ∨ (k = 60 ∧ k < n0) := by omega
      have hall : min k qs.length = min 60 qs.length := by rw [HL.out]; omega
      have HV4 := HV3.out.drop_3
      have HR4 := HR.out
      rw [opsK_all hall] at HV4
      rw [show qs.take k = qs.take 60 from List.take_eq_take_iff.2 (by rw [HL.out]; omega)] at HR4
      have HV9 := Lib.hid HV4
      have HR9 := Lib.hid HR4
      clear HV4 HR4 hall hlt
      rcases hend with rfl | ⟨rfl, hkn⟩
      · go_wp2
        go_ret3
        exact ⟨p, p2, F, F2, hdr, R, rfl, HV9.out, HR9.out⟩
      · go_wp2
        go_ret3
        exact ⟨p, p2, F, F2, hdr, R, rfl, HV9.out, HR9.out⟩
set_option maxRecDepth 100000 in
set_option maxHeartbeats 4000000 in
theorem own_any (rows width : Int) (A : Option Addr) (n0 c0 : Nat) (qs : List StepV) (m n N ch : Nat) (Ah A5 : Option Addr) (cap5 : Nat) (Z : List Int) (w : World) (hq : Lin.Steps w A n0 c0 qs) (hN : N = min 60 n0) (hNc : N ≤ ch) (hch : ch ≤ maxLen) (hZ : Rd .i64 w A5 Z) (hZl : Z.length = m) (hm : m ≤ 8)
    (hrows : ∀ (j : Nat) (q : StepV), j < N → qs[j]? = some q → ∃ (ad gad : Addr) (cap : Nat), Ah = some ad ∧ w.cell? (ad.add j) = some (.slice (some gad) m cap) ∧ m ≤ cap ∧ cap ≤ maxLen ∧ Rd .i64 w (some gad) (cutOf q.zs m n)) :
    Calls Try.prog 20 #[.agg #[.int .i64 rows, .int .i64 width, .slice A n0 c0], .slice Ah N ch, .slice A5 m cap5] w fun e w' => e = .returned (.int .i64 (Lin.own Z (opsB 0 60 m n qs))) ∧ Below w.heap.size w w' := by
  have HQ := Lib.hid hq
  have HL := Lib.hid hq.len
  have HZ := Lib.hid hZ
  have HRW := Lib.hid hrows
  have hnc := hq.nc
  have hcm := hq.cm
  unfold maxLen at hcm hch
  have HOL : Hid ((opsB 0 60 m n qs).length = N) := Lib.hid (by unfold opsB; rw [List.length_map, List.length_drop, List.length_take, hq.len]; omega)
  have HOG : Hid (∀ (k : Nat) (q : StepV), k < N → qs[k]? = some q → (opsB 0 60 m n qs)[k]? = some (cutOf q.zs m n, dv true q.d)) := Lib.hid (fun k q hk hq2 => by
    unfold opsB
    rw [List.getElem?_map, List.drop_zero, List.getElem?_take, if_pos (by omega), hq2]
    rfl)
  have HPL : Hid (Plus 1099511627776 (opsB 0 60 m n qs)) := Lib.hid (by
    intro o ho
    unfold opsB at ho
    obtain ⟨q, _, rfl⟩ := List.mem_map.1 ho
    exact ⟨dv_plain q.d, (dv_bd true q.d).2⟩)
  obtain ⟨ops, hops⟩ : ∃ ops, opsB 0 60 m n qs = ops := ⟨_, rfl⟩
  rw [hops] at HOL HOG HPL ⊢
  have HBX : Hid (Have w (w.alloc (.cells #[.int .i64 rows, .int .i64 width, .slice A n0 c0] 24)) [boxT w.heap.size 24 #[.int .i64 rows, .int .i64 width, .slice A n0 c0]]) := Lib.hid (box_new w _ _)
  have hNb : N ≤ 60 ∧ N ≤ n0 ∧ (60 ≤ N ∨ n0 ≤ N) := by omega
  clear hq hZ hrows hops hN
  go_enter Try.func20, Try.ntmps20
  go_wp2
  go_loopw [7, 8] (fun sv iv wr => ∃ (j : Nat), j ≤ N ∧ iv = .int .i64 j ∧ sv = .int .i64 (Lin.own Z (ops.take j)) ∧ Have w wr [boxT w.heap.size 24 #[.int .i64 rows, .int .i64 width, .slice A n0 c0]]) (fun _ iv _ => N - (intOf iv).toNat)
  case atStart => exact ⟨0, Nat.zero_le _, rfl, rfl, HBX.out⟩
  case round =>
    obtain ⟨j, hj, rfl, rfl, hv⟩ := hrel
    have HV := Lib.hid hv
    have hwb := hv.below
    have HWB := Lib.hid hwb
    clear hv
    have hob := own_bd (cols := Z) (fun o ho => HPL.out o (List.mem_of_mem_take (i := j) ho))
    have hjl : (ops.take j).length ≤ j := by rw [List.length_take]; omega
    obtain ⟨X, hX⟩ : ∃ X, Lin.own Z (ops.take j) = X := ⟨_, rfl⟩
    rw [hX] at hob ⊢
    have hob1 : 0 ≤ X ∧ X ≤ 65970697666560 := by omega
    have HX := Lib.hid hX
    clear hob hjl hX
    by_cases hjn : j < N
    · obtain ⟨q, hq1⟩ : ∃ q, qs[j]? = some q := ⟨_, List.getElem?_eq_getElem (by rw [HL.out]; omega)⟩
      have HO := HOG.out j q hjn hq1
      have hon := own_next (cols := Z) HO
      rw [HX.out] at hon
      simp only at hon
      obtain ⟨ad1, gad1, cap1, rfl, cA, hcap1, hcap2, hrd⟩ := HRW.out j q hjn hq1
      have cA2 := cell_up cA hwb
      unfold maxLen at hcap2
      have RDJ := Lib.hid (hrd.up hwb)
      obtain ⟨a, g, o, rfl, hadd, d1, d2, hin⟩ := HQ.out.at hq1
      have HD2 := Lib.hid d2
      have b1 := hin.db
      have RDZ := Lib.hid (HZ.out.up hwb)
      have hdb := dv_bd true q.d
      obtain ⟨D, hD⟩ : ∃ D, dv true q.d = D := ⟨_, rfl⟩
      have HDD := Lib.hid hD
      rw [hD] at hon hdb
      have HCL := Lib.hid (cut_len q.zs m n)
      clear cA hq1 HO hrd hin d1 d2 hwb hD
      by_cases hsame : cutOf q.zs m n = Z
      · rw [if_pos hsame] at hon
        have E1 := Lib.hid hon
        have HSM := Lib.hid hsame
        clear hon hsame
        go_wp2_with (first
          | (go_at_call 31; (with_reducible refine (plain_any q.d _ b1.1 b1.2).mono ?_); rintro e wx ⟨rfl, hw⟩; subst wx; rw [HDD.out])
          | (go_at_call 34; (with_reducible refine (rsame8_any (some gad1) A5 m m cap1 cap5 (cutOf q.zs m n) Z _ RDJ.out RDZ.out HCL.out hZl (by omega) (by omega)).mono ?_); rintro e w7 ⟨he, hb⟩; rw [decide_eq_true HSM.out] at he; subst he; have HV7 := Lib.hid (HV.out.up hb); have cb7 := box_cell HV7.out.i0 (i := 2) (v := .slice (some a) n0 c0) rfl; have c27 := cell_up HD2.out HV7.out.below; clear hb))
        go_roundw
        case rel => exact ⟨j + 1, by omega, by go_num, by rw [E1.out], HV7.out⟩
        case measure => simp [intOf]; omega
      · rw [if_neg hsame] at hon
        have hon2 : Lin.own Z (ops.take (j + 1)) = X := by omega
        have E1 := Lib.hid hon2
        have HSM := Lib.hid hsame
        clear hon hon2 hsame
        go_wp2_with (first
          | (go_at_call 34; (with_reducible refine (rsame8_any (some gad1) A5 m m cap1 cap5 (cutOf q.zs m n) Z _ RDJ.out RDZ.out HCL.out hZl (by omega) (by omega)).mono ?_); rintro e w7 ⟨he, hb⟩; rw [decide_eq_false HSM.out] at he; subst he; have HV7 := Lib.hid (HV.out.up hb); clear hb))
        go_roundw
        case rel => exact ⟨j + 1, by omega, by go_num, by rw [E1.out], HV7.out⟩
        case measure => simp [intOf]; omega
    · have e : j = N := by omega
      have e1 : ops.take j = ops := List.take_of_length_le (by rw [HOL.out]; omega)
      have hX := HX.out
      rw [e1] at hX
      have HX2 := Lib.hid hX
      clear e1 hX
      go_wp2
      go_ret
      exact ⟨ret_i HX2.out.symm, HWB.out⟩
end Go.Proofs.Ytonbidohhgenlaa.Con
