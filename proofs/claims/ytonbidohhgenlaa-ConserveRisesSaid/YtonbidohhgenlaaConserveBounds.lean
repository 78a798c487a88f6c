/- The statement ConserveBounds of layer 9 holds. Printed by wip/gen/con*.py. -/
import Derived.Test.YtonbidohhgenlaaConBoth
import Derived.Test.YtonbidohhgenlaaLaw
import Derived.Deep.LoopGhost
import Derived.Deep.RegionHeld3
import Derived.Deep.QuietTactic
import Derived.BigQuiet
namespace Go.Proofs.Ytonbidohhgenlaa.Con
open Go Go.RowKit Lw Grd Lin
set_option linter.unusedVariables false
set_option linter.unusedSimpArgs false
theorem lst_int_c : Try.prog.cellsOf 3 = 1 := by kernel_rfl
set_option maxRecDepth 100000 in
theorem open_list_int {H : Type} {enc : TypeId × Value → H} {W : World} {v : Value} {d : DataW H} {p : List MemPlace} {base : Nat} (hv : Value.okWide Try.prog W .any base 30 v)
    (h : DataW.Trod enc Try.prog W 0 (fun _ => true) true 30 v d p) :
    ∃ (A : Option Addr) (n cap : Nat) (zs : List Int), v = .slice A n cap ∧ (A = none → n = 0 ∧ cap = 0) ∧ n ≤ cap ∧ cap ≤ maxLen ∧ Rd .i64 W A zs ∧ zs.length = n ∧ (∀ v ∈ zs, -9223372036854775808 ≤ v ∧ v ≤ 9223372036854775807) := by
  obtain ⟨a0, len, cap, rfl⟩ := Go.WideShapes.okWide_slice Try.underlying30 hv
  obtain ⟨fuel, hf⟩ := h
  rcases Go.ChangeShapes.open_ints Try.underlying30 Try.underlying3 lst_int_c hf with ⟨hcs, _⟩ | ⟨a, len', cap', zs, hcs, _, hl, hm, hz, _, hcell, hwz⟩
  · simp [Value.cells] at hcs
    obtain ⟨rfl, rfl, rfl⟩ := hcs
    exact ⟨none, 0, 0, [], rfl, fun _ => ⟨rfl, rfl⟩, Nat.le_refl _, by simp, rd_nil _ _ _, rfl, fun v h => by simp at h⟩
  · simp [Value.cells] at hcs
    obtain ⟨rfl, rfl, rfl⟩ := hcs
    have hz2 : zs.length = cap := by simpa using hz
    refine ⟨some a, len, cap, zs.take len, rfl, (fun h => by cases h), hl, hm, ?_, by simp; omega, ?_⟩
    · intro k v hk
      rw [List.getElem?_take] at hk
      split at hk
      · refine ⟨a, rfl, ?_⟩
        rw [hcell k (by omega)]
        simp [hk]
      · cases hk
    · intro v hv
      exact Lw.wf_i64 (hwz v (List.mem_of_mem_take hv))
theorem flat_cel {m n : Nat} {L : List (List Int)} (h : Sz m n L) {i : Nat} (hi : i < m * n) : L.flatten[i]? = some (cel L (i / n) (i % n)) ∧ i / n < m ∧ i % n < n := by
  have hn : 0 < n := by
    rcases Nat.eq_zero_or_pos n with e | e
    · rw [e] at hi; simp at hi
    · exact e
  have h1 : i / n < m := Nat.div_lt_of_lt_mul (by rw [Nat.mul_comm]; exact hi)
  have h2 : i % n < n := Nat.mod_lt _ hn
  refine ⟨?_, h1, h2⟩
  have h3 : i / n < L.length := by rw [h.1]; exact h1
  have h4 := flat_get (i / n) (i % n) h.2 h3 h2
  rw [Nat.div_add_mod' i n] at h4
  rw [h4]
  unfold cel
  rw [List.getElem?_eq_getElem h3]
  simp only [Option.getD_some]
  have h5 := h.2 _ (List.getElem_mem h3)
  rw [List.getElem?_eq_getElem (by omega)]
  rfl
theorem lea_m {p : Addr} {F : Nat → Prop} {m n : Nat} {L : List (List Int)} {A : Option Addr} {cap : Nat} {cols : List Int} {w : World} (h : PG w p F m n L) (hc : Rd .i64 w A cols) (hm : Meets m n cols) (hm5 : m ≤ 5) (hn9 : n ≤ 9) {x : Int} (hx : lea L cols = x) :
    Calls Try.prog 19 #[.pointer (some p), .slice A m cap] w fun e w' => e = .returned (.tuple #[.int .i64 x, .int .i64 0]) ∧ Below w.heap.size w w' := by
  subst hx
  refine (least_any p F m n L A m cap cols w h hc hm.2.1 (by omega) (fun v hv => by have := hm.2.2 v hv; omega)).mono fun e w' ⟨he, hb⟩ => ?_
  have e1 : readOf m n L cols = named L cols := if_pos hm
  have e2 : rdCode m n cols = 0 := if_pos hm
  rw [e1, e2] at he
  exact ⟨he, hb⟩
/-- The columns of all steps, and those that were handed in behind them. -/
theorem nums_all {R : List Row} {qs : List StepV} {m n N : Nat} (hR : nums R = (qs.take 60).map (fun q => cutOf q.zs m n)) (hN : R.length = N) (x : Row) : (∀ j q, j < N → qs[j]? = some q → (nums (R ++ [x]))[j]? = some (cutOf q.zs m n)) ∧ (∀ j, j < N → ∃ q, qs[j]? = some q ∧ (nums (R ++ [x]))[j]? = some (cutOf q.zs m n)) ∧ (nums (R ++ [x]))[N]? = some x.2.2 := by
  have hl : (nums R).length = N := by rw [nums_len, hN]
  have hl2 : N = min 60 qs.length := by rw [← hN]; exact rows_len hR
  have e : nums (R ++ [x]) = nums R ++ [x.2.2] := by simp [nums]
  rw [e]
  have h1 : ∀ j q, j < N → qs[j]? = some q → (nums R ++ [x.2.2])[j]? = some (cutOf q.zs m n) := fun j q hj hq => by
    rw [List.getElem?_append_left (by omega), hR, List.getElem?_map, List.getElem?_take, if_pos (by omega), hq]
    rfl
  refine ⟨h1, fun j hj => ⟨qs[j]'(by omega), List.getElem?_eq_getElem _, h1 j _ hj (List.getElem?_eq_getElem _)⟩, ?_⟩
  rw [List.getElem?_append_right (by omega), hl, Nat.sub_self]
  rfl
set_option maxRecDepth 100000 in
set_option maxHeartbeats 4000000 in
theorem bounds_law (rows width : Int) (A : Option Addr) (n0 c0 : Nat) (qs : List StepV) (w : World) (A1 : Option Addr) (n1 c1 : Nat) (cs : List Int) (hA1 : A1 = none → n1 = 0 ∧ c1 = 0) (hn1 : n1 ≤ c1) (hc1 : c1 ≤ maxLen) (hr1 : Rd .i64 w A1 cs) (hl1 : cs.length = n1) (hz1 : In64 cs) (hq : Lin.Steps w A n0 c0 qs) :
    Calls Try.prog 4 #[.agg #[.int .i64 rows, .int .i64 width, .slice A n0 c0], .slice A1 n1 c1] w fun e w' => e = .returned (.bool true) ∧ Below w.heap.size w w' := by
  obtain ⟨j0, hj, hj0, hj1, hj2⟩ := info_parts ints_info
  obtain ⟨m, hm⟩ : ∃ m, rowsOf rows = m := ⟨_, rfl⟩
  obtain ⟨n, hn⟩ : ∃ n, widthOf width = n := ⟨_, rfl⟩
  have hmb := rows_bd rows
  have hnb := width_bd width
  rw [hm] at hmb
  rw [hn] at hnb
  have HQ := Lib.hid hq
  have HR1 := Lib.hid hr1
  have hnc := hq.nc
  have hcm := hq.cm
  unfold maxLen at hcm
  have hok := opsK_ok 60 0 60 qs hmb.1 hnb.1
  have D1 := Lib.hid (fun w hq => both_any rows width A n0 c0 qs m n 0 60 0 60 w hm hn hq rfl rfl (by omega) (by omega))
  have hrose := rose_all (rose_zero m n) hok.1 hok.2
  have hwi := rose_dims hok.1 hok.2 (opsK_len _ _ _ _ _ _)
  rw [← opsB_K] at hrose hwi
  rw [List.nil_append] at hrose
  obtain ⟨LG, hLG⟩ : ∃ L, rsAll (zerosL m n) (opsB 0 60 m n qs) = L := ⟨_, rfl⟩
  obtain ⟨LH, hLH⟩ : ∃ L, chAll (zerosL m n) (opsB 0 60 m n qs) = L := ⟨_, rfl⟩
  rw [hLG, hLH] at D1 hrose hwi
  have HLO : Hid (∀ cols, Meets m n cols → Lin.own cols (opsB 0 60 m n qs) ≤ lea LG cols ∧ lea LG cols ≤ lea LH cols ∧ 0 ≤ lea LG cols) := Lib.hid (fun cols hc => hrose.lea_own hc)
  have HRO := Lib.hid hrose
  have HDG : Hid (Dims m n LG) := Lib.hid (dims_of hrose.sg hwi.2 (by omega) (by omega) (by omega))
  have HDH : Hid (Dims m n LH) := Lib.hid (dims_of hrose.sh hwi.1 (by omega) (by omega) (by omega))
  obtain ⟨q5, hmn⟩ : ∃ q, m * n = q := ⟨_, rfl⟩
  have hq5 : q5 ≤ 45 := by rw [← hmn]; exact Nat.le_trans (Nat.mul_le_mul hmb.2 hnb.2) (by decide)
  have hmni : (m : Int) * (n : Int) = (q5 : Int) := by rw [← hmn]; simp
  have HMN := Lib.hid hmn
  obtain ⟨N, hN⟩ : ∃ N, N = min 60 qs.length := ⟨_, rfl⟩
  have HNQ := Lib.hid hN
  have HNQ2 : Hid (N = min 60 n0) := Lib.hid (by rw [hN, hq.len])
  have hN60 : N ≤ 60 := by omega
  obtain ⟨M, hM⟩ : ∃ M, M = N + 1 := ⟨_, rfl⟩
  have hMi : (M : Int) - 1 = (N : Int) := by omega
  have CL6 := Lib.hid (cut_len cs m n)
  have CS := Lib.hid (fun w => sized_any rows width A n0 c0 w)
  rw [hm, hn] at CS
  have HBX : Hid (Have w (w.alloc (.cells #[.int .i64 rows, .int .i64 width, .slice A n0 c0] 24)) [boxT w.heap.size 24 #[.int .i64 rows, .int .i64 width, .slice A n0 c0]]) := Lib.hid (box_new w _ _)
  clear hm hn hr1 hq hok hrose hwi hmn hLG hLH hN
  go_enter Try.func4, Try.ntmps4
  go_wp2_with (first
    | (at_builtin; (refine app_val rfl _ _ 42 rfl w2.heap.size 30 j0 (.slice none 0 0) 24 intss_u hj hj0 hj1 hj2 (by decide) hdr R.length (R.map rowHd) rfl ((rr_up (rrI HV3.out.i1) HB6.out).outer.alloc _) (.slice (some ⟨g6, 0, none⟩) m cap6) w6.heap.size rfl (cell_one_new _ _ _) rfl (by have := HRN.out; unfold maxLen; omega) (by have := HRN.out; omega) (by have := HS23.out; simp; omega) ?_); intro g7 cap7 w7 own7 grow7 hg7 hlt7; have hx7 := HV3.out.row_push HB6.out HS23.out hg6 hl6 CL6.out hc6 hm6 RD6.out own7 grow7 hg7; simp only [HRN.out] at hx7 ⊢; have HV7 := Lib.hid hx7.1; clear hx7 own7 grow7 hg7)
    | (go_at_call 18; (with_reducible refine (rcut_any A1 n1 c1 cs m n _ (HR1.out.up HBW3.out) hl1 (Nat.le_trans hn1 hc1) (by omega) (by omega) (by omega)).mono ?_); rintro e w6 ⟨A6, cap6, rfl, own6, rd6, hc6, hm6, hb6⟩; obtain ⟨g6, rfl, hg6, hl6⟩ := own_block own6; have RD6 := Lib.hid rd6; have HB6 := Lib.hid hb6; have hs6 := HB6.out.size; have hs30 := HBW3.out.size; clear own6 rd6 hb6)
    | (go_at_call 17; (with_reducible refine (D1.out _ (HQ.out.up HBW2.out)).mono ?_); rintro e w3 ⟨p, p2, F, F2, hdr, R, rfl, hv, hR⟩; have HV3 := Lib.hid (HV2.out.join hv); simp only [List.cons_append, List.nil_append] at HV3; have HR := Lib.hid hR; have hs3 := HBW2.out.size; have HBW3 := Lib.hid HV3.out.below; have HS23 : Hid (w2.heap.size ≤ w3.heap.size) := Lib.hid (hv.below.size); have HRN : Hid (R.length = N) := Lib.hid (by rw [HNQ.out]; exact rows_len hR); clear hv hR k0 k1 k2)
    | (go_at_call 16; (with_reducible refine (CS.out _).mono ?_); rintro e w2 ⟨rfl, hb⟩; have HV2 := Lib.hid (HV1.out.up hb); clear k0 k1 k2; obtain ⟨k0, k1, k2⟩ := box3 HV2.out.i0; have HBW2 := Lib.hid HV2.out.below; clear hb)
    | (go_at_call 8; (with_reducible refine (shown_any _).mono ?_); rintro e w1 ⟨rfl, hb⟩; have HV1 := Lib.hid (HBX.out.up hb); obtain ⟨k0, k1, k2⟩ := box3 HV1.out.i0; clear hb))
  have HNA := Lib.hid (nums_all HR.out HRN.out (g6, cap6, cutOf cs m n))
  obtain ⟨gad7, hg7⟩ : ∃ a : Addr, (⟨g7, 0, none⟩ : Addr) = a := ⟨_, rfl⟩
  rw [← hM, hg7] at HV7 ⊢
  have hcap7 : M ≤ cap7 ∧ cap7 ≤ 9223372036854775807 := by
    obtain ⟨A', cap', e, h1, h2, -⟩ := (rrI HV7.out.i1).hd
    injection e with e1 e2 e3
    unfold maxLen at h2
    omega
  have hsl0 : (0 : Int) ≤ (N : Int) := by omega
  have hsl1 : (N : Int) ≤ (cap7 : Int) := by omega
  have hsw : IntKind.i64.wrap ((M : Int) - 1) = (N : Int) := by rw [hMi, IntKind.wrap_i64]; omega
  have hsw2 : IntKind.i64.wrap (N : Int) = (N : Int) := by rw [IntKind.wrap_i64]; omega
  have hsc : ¬ cap7 = 0 := by omega
  clear hg7 hs3 hs6 hs30 hM
  go_loopw [11] (fun iv wr => ∃ (i : Nat), i ≤ M ∧ iv = .int .i64 i ∧ Have w wr [pgT p2 F2 m n LH, rrT w2.heap.size 30 (.slice (some gad7) M cap7) (R ++ [(g6, cap6, cutOf cs m n)]), pgT p F m n LG, boxT w.heap.size 24 #[.int .i64 rows, .int .i64 width, .slice A n0 c0]]) (fun iv _ => M - (intOf iv).toNat)
  case atStart => exact ⟨0, Nat.zero_le _, rfl, HV7.out⟩
  case round =>
    obtain ⟨i, hi, rfl, hv⟩ := hrel
    have HVr := Lib.hid hv
    clear hv
    have HBr := Lib.hid HVr.out.below
    by_cases hiM : i < M
    · obtain ⟨b0, b1, b2⟩ := box3 HVr.out.i3
      obtain ⟨Z, hZi, hZm⟩ : ∃ Z, (nums (R ++ [(g6, cap6, cutOf cs m n)]))[i]? = some Z ∧ Meets m n Z := by
        by_cases hiN : i < N
        · obtain ⟨q, hq, e⟩ := HNA.out.2.1 i hiN
          exact ⟨_, e, cut_meets q.zs hmb.1 hnb.1⟩
        · have e : i = N := by omega
          subst e
          exact ⟨_, HNA.out.2.2, cut_meets cs hmb.1 hnb.1⟩
      obtain ⟨ad, gi, capi, hA7, cA, hci, hcm7, hrd, _⟩ := row_at2 (rrI HVr.out.i1) rfl hZi hZm.2.1
      injection hA7 with hA7
      subst hA7
      obtain ⟨gadi, hgadi⟩ : ∃ gadi : Addr, (⟨gi, 0, none⟩ : Addr) = gadi := ⟨_, rfl⟩
      rw [hgadi] at cA hrd
      have RDZ := Lib.hid hrd
      have HZM := Lib.hid hZm
      have HZL := Lib.hid hZm.2.1
      have hLO := HLO.out Z hZm
      obtain ⟨x, hx⟩ : ∃ x, lea LG Z = x := ⟨_, rfl⟩
      obtain ⟨y, hy⟩ : ∃ y, lea LH Z = y := ⟨_, rfl⟩
      obtain ⟨z, hz⟩ : ∃ z, Lin.own Z (opsB 0 60 m n qs) = z := ⟨_, rfl⟩
      rw [hx, hy, hz] at hLO
      obtain ⟨hzx, hxy, hx0⟩ := hLO
      have hg1 : decide (y < x) = false := decide_eq_false (by omega)
      have hg2 : decide (x > y) = false := decide_eq_false (by omega)
      have hg3 : decide (x < z) = false := decide_eq_false (by omega)
      have hg4 : ¬ y < x := by omega
      have hg5 : ¬ x < z := by omega
      have HX := Lib.hid hx
      have HY := Lib.hid hy
      have HZ := Lib.hid hz
      have HRW : Hid (∀ wx, Below wr.heap.size wr wx → ∀ (j : Nat) (q : StepV), j < N → qs[j]? = some q → ∃ (ad gad : Addr) (cap : Nat), some gad7 = some ad ∧ wx.cell? (ad.add j) = some (.slice (some gad) m cap) ∧ m ≤ cap ∧ cap ≤ maxLen ∧ Rd .i64 wx (some gad) (cutOf q.zs m n)) := Lib.hid (fun wx hbx j q hj hq => by
        obtain ⟨ad, gj, capj, hA8, cA8, h1, h2, h3, _⟩ := row_at2 (rrI HVr.out.i1) rfl (HNA.out.1 j q hj hq) (cut_len _ _ _)
        exact ⟨ad, ⟨gj, 0, none⟩, capj, hA8, cell_up cA8 hbx, h1, h2, h3.up hbx⟩)
      clear hZi hZm hrd hx hy hz hgadi
      unfold maxLen at hcm7
      go_wp2_with (first
        | (go_at_call 19; (with_reducible refine (lea_m (pgI HVs.out.i0) (RDZ.out.up HBs.out) HZM.out hmb.2 hnb.2 HY.out).mono ?_); rintro e w9 ⟨rfl, hb⟩; have HVt := Lib.hid (HVs.out.up hb); have HBt := Lib.hid (below_call HBs.out hb (Nat.le_refl _)); have cA9 := cell_up cA8 hb; have d0 := (box3 HVt.out.i3).1; have d1 := (box3 HVt.out.i3).2.1; have d2 := (box3 HVt.out.i3).2.2; clear hb)
        | (go_at_call 19; (with_reducible refine (lea_m (pgI HVr.out.i2) RDZ.out HZM.out hmb.2 hnb.2 HX.out).mono ?_); rintro e w8 ⟨rfl, hb⟩; have HVs := Lib.hid (HVr.out.up hb); have HBs := Lib.hid hb; have cA8 := cell_up cA hb; clear hb))
      go_region_held3 (fun w' => w'.cell? ⟨w.heap.size, 0, none⟩ = some (.int .i64 rows) ∧ w'.cell? ⟨w.heap.size, 1, none⟩ = some (.int .i64 width) ∧ w'.cell? ⟨w.heap.size, 2, none⟩ = some (.slice A n0 c0) ∧ w'.cell? (gad7.add i) = some (.slice (some gadi) m capi)) (first | (refine ⟨?_, ?_, ?_, ?_⟩ <;> (first | (with_reducible assumption) | (with_reducible refine cell_up d0 ?_) | (with_reducible refine cell_up d1 ?_) | (with_reducible refine cell_up d2 ?_) | (with_reducible refine cell_up cA9 ?_)) <;> (repeat' (first | (with_reducible exact Below.refl _ _) | (with_reducible assumption) | (with_reducible refine below_over ?_ _ _) | (with_reducible refine Lw.below_alloc ?_ _) | (with_reducible refine Below.drew ?_) | (with_reducible refine below_drewN ?_ _) | (with_reducible refine Below.setCell ?_ ?_ _) | go_size)))) (first
        | (go_at_call 20; (with_reducible refine (own_any rows width A n0 c0 qs m n N cap7 (some gad7) (some gadi) capi Z _ ((HQ.out.up HBr.out).up (below_call HBt.out (by repeat' (first | (with_reducible exact Below.refl _ _) | (with_reducible assumption) | (with_reducible refine below_over ?_ _ _) | (with_reducible refine Lw.below_alloc ?_ _) | (with_reducible refine Below.drew ?_) | (with_reducible refine below_drewN ?_ _) | (with_reducible refine Below.setCell ?_ ?_ _) | go_size)) (Nat.le_refl _))) HNQ2.out (by omega) (by unfold maxLen; omega) (RDZ.out.up (below_call HBt.out (by repeat' (first | (with_reducible exact Below.refl _ _) | (with_reducible assumption) | (with_reducible refine below_over ?_ _ _) | (with_reducible refine Lw.below_alloc ?_ _) | (with_reducible refine Below.drew ?_) | (with_reducible refine below_drewN ?_ _) | (with_reducible refine Below.setCell ?_ ?_ _) | go_size)) (Nat.le_refl _))) HZL.out (by omega) (HRW.out _ (below_call HBt.out (by repeat' (first | (with_reducible exact Below.refl _ _) | (with_reducible assumption) | (with_reducible refine below_over ?_ _ _) | (with_reducible refine Lw.below_alloc ?_ _) | (with_reducible refine Below.drew ?_) | (with_reducible refine below_drewN ?_ _) | (with_reducible refine Below.setCell ?_ ?_ _) | go_size)) (Nat.le_refl _)))).mono ?_); rintro e wa ⟨rfl, hb⟩; rw [HZ.out]; have HVu := Lib.hid (HVt.out.up (below_call (by repeat' (first | (with_reducible exact Below.refl _ _) | (with_reducible assumption) | (with_reducible refine below_over ?_ _ _) | (with_reducible refine Lw.below_alloc ?_ _) | (with_reducible refine Below.drew ?_) | (with_reducible refine below_drewN ?_ _) | (with_reducible refine Below.setCell ?_ ?_ _) | go_size)) hb (Nat.le_refl _))); have x0 := (box3 HVu.out.i3).1; have x1 := (box3 HVu.out.i3).2.1; have x2 := (box3 HVu.out.i3).2.2; have xA := cell_up cA9 (below_call (by repeat' (first | (with_reducible exact Below.refl _ _) | (with_reducible assumption) | (with_reducible refine below_over ?_ _ _) | (with_reducible refine Lw.below_alloc ?_ _) | (with_reducible refine Below.drew ?_) | (with_reducible refine below_drewN ?_ _) | (with_reducible refine Below.setCell ?_ ?_ _) | go_size)) hb (Nat.le_refl _)); clear hb))
      all_goals go_wp2
      all_goals go_roundw
      all_goals first
        | exact ⟨i + 1, by omega, by go_num, HVu.out⟩
        | (simp [intOf]; omega)
    · have e : i = M := by omega
      have G1 := Lib.hid (pgI HVr.out.i2)
      have G2 := Lib.hid (pgI HVr.out.i0)
      have HFL := Lib.hid ((flat_dims HDG.out).trans HMN.out)
      have HFL2 := Lib.hid ((flat_dims HDH.out).trans HMN.out)
      clear hiM
      subst e
      go_wp2_with (first
        | (go_at_call 14; (with_reducible refine (cells_q p2 F2 m n q5 LH _ (pg_up G2.out HB4.out) HMN.out).mono ?_); rintro e w5x ⟨A5, cap5, rfl, hr5, hc5, hd5, hn5, hb⟩; have R5 := Lib.hid (Row1.rd hr5); have R45 := Lib.hid (R4.out.up hb); have HB5 := Lib.hid (below_call HBr.out (below_call HB4.out hb (Nat.le_refl _)) (Nat.le_refl _)); clear hr5 hn5 hb)
        | (go_at_call 14; (with_reducible refine (cells_q p F m n q5 LG _ G1.out HMN.out).mono ?_); rintro e w4x ⟨A4, cap4, rfl, hr4, hc4, hd4, hn4, hb⟩; have R4 := Lib.hid (Row1.rd hr4); have HB4 := Lib.hid hb; clear hr4 hn4 hb))
      go_loopw [18] (fun iv wr => ∃ (j : Nat), j ≤ q5 ∧ iv = .int .i64 j ∧ Below w.heap.size w wr ∧ Rd .i64 wr A4 LG.flatten ∧ Rd .i64 wr A5 LH.flatten) (fun iv _ => q5 - (intOf iv).toNat)
      case atStart => exact ⟨0, Nat.zero_le _, rfl, HB5.out, R45.out, R5.out⟩
      case round =>
        obtain ⟨j, hj, rfl, hbw, hra, hrb⟩ := hrel
        have HBW := Lib.hid hbw
        have RA := Lib.hid hra
        have RB := Lib.hid hrb
        clear hbw hra hrb
        by_cases hjq : j < q5
        · have hjm : j < m * n := by rw [HMN.out]; exact hjq
          obtain ⟨e1, hr1x, hc1x⟩ := flat_cel HRO.out.sg hjm
          obtain ⟨e2, -, -⟩ := flat_cel HRO.out.sh hjm
          have hnn := HRO.out.nn _ _ hr1x hc1x
          have hle := HRO.out.le _ _ hr1x hc1x
          obtain ⟨xg, hxg⟩ : ∃ x, cel LG (j / n) (j % n) = x := ⟨_, rfl⟩
          obtain ⟨xh, hxh⟩ : ∃ x, cel LH (j / n) (j % n) = x := ⟨_, rfl⟩
          rw [hxg] at e1 hnn hle
          rw [hxh] at e2 hle
          obtain ⟨aA, rfl, cA⟩ := RA.out j xg e1
          obtain ⟨aB, rfl, cB⟩ := RB.out j xh e2
          clear e1 e2 hxg hxh hjm hr1x hc1x
          go_wp2
          go_quiet (fail)
          go_wp2
          go_roundw
          case rel => exact ⟨j + 1, by omega, by go_num, below_call HBW.out (by repeat' (first | (with_reducible exact Below.refl _ _) | (with_reducible assumption) | (with_reducible refine below_over ?_ _ _) | (with_reducible refine Lw.below_alloc ?_ _) | (with_reducible refine Below.drew ?_) | (with_reducible refine below_drewN ?_ _) | (with_reducible refine Below.setCell ?_ ?_ _) | go_size)) (Nat.le_refl _), RA.out.up (by repeat' (first | (with_reducible exact Below.refl _ _) | (with_reducible assumption) | (with_reducible refine below_over ?_ _ _) | (with_reducible refine Lw.below_alloc ?_ _) | (with_reducible refine Below.drew ?_) | (with_reducible refine below_drewN ?_ _) | (with_reducible refine Below.setCell ?_ ?_ _) | go_size)), RB.out.up (by repeat' (first | (with_reducible exact Below.refl _ _) | (with_reducible assumption) | (with_reducible refine below_over ?_ _ _) | (with_reducible refine Lw.below_alloc ?_ _) | (with_reducible refine Below.drew ?_) | (with_reducible refine below_drewN ?_ _) | (with_reducible refine Below.setCell ?_ ?_ _) | go_size))⟩
          case measure => simp [intOf]; omega
        · have e : j = q5 := by omega
          go_wp2
          go_ret
          exact ⟨rfl, HBW.out⟩
namespace conserveBounds
open Go.ChangeShapes Go.WideShapes Go.ChangeAt Go.Joins
set_option maxRecDepth 100000 in
theorem lifted (os : Os) (started : os.Started) (H : Type) (enc : TypeId × Value → H) :
    ReturnsInHanded {} Try.checked os 4 .any (Rows.conserveBoundsSpec.pre6 enc Try.prog Try.f4 Rows.conserveBoundsRow.domain false) (Rows.conserveBoundsSpec.post enc Try.prog Try.f4 false true false false) := by
  refine Lw.lifted (C := Try.checked) (B := 4) (by kernel_rfl) os started (by kernel_rfl) Try.func4
    (ChangeSpec.witness6 (enc := enc) (C := Try.checked) false ⟨#[], #[.agg #[.int .i64 0, .int .i64 0, .slice none 0 0], .slice none 0 0], []⟩ 8 (by kernel_rfl) (by kernel_rfl) (by kernel_rfl) (by kernel_rfl)) rfl Try.underlying4 (by kernel_rfl) (by kernel_rfl) (by kernel_rfl) ?_ ?_
  · intro ds h
    rw [Try.params4] at h
    match ds, h with
    | [_, _], _ => rfl
  · intro W base args ds p hval hA
    rw [Try.params4] at hA hval
    obtain ⟨v0, vs0, d0, ds0, p0, q0, hargs, rfl, rfl, h0, r0⟩ := trodAll_cons hA
    obtain ⟨v1, vs1, d1, ds1, p1, q1, rfl, rfl, rfl, h1, r1⟩ := trodAll_cons r0
    obtain ⟨rfl, rfl, rfl⟩ := trodAll_nil r1
    obtain rfl : args = #[v0, v1] := by cases args; simp_all
    obtain ⟨y0, u0, A0, n0, c0, qs0, rfl, rb0, ub0, hq0⟩ := open_play (hval 0 24 v0 rfl rfl) h0
    obtain ⟨A1, n1, c1, zs1, rfl, hA1, hn1, hc1, hr1, hl1, hz1⟩ := open_list_int (hval 1 30 v1 rfl rfl) h1
    exact bounds_law y0 u0 A0 n0 c0 qs0 W A1 n1 c1 zs1 hA1 hn1 hc1 hr1 hl1 hz1 hq0
theorem over : Rows.conserveBoundsRow.holds Try.pinned (OpenSpec.ofChange Rows.conserveBoundsSpec) :=
  OpenClaim.holds_of_wide 4 Try.f4 rfl rfl rfl rfl rfl rfl rfl ⟨rfl, rfl, rfl, rfl, rfl⟩ rfl rfl rfl rfl rfl (by kernel_rfl) Try.func4 (by kernel_rfl)
    (of_decide_eq_true (by kernel_rfl)) (by unfold Func.isWrapper; first | (rw [if_pos (by decide +kernel)]; kernel_rfl) | (rw [if_neg (by decide +kernel)]; exact ⟨rfl, rfl⟩))
    (fun os started H enc _ => lifted os started H enc)
theorem proved : Rows.ConserveBoundsSaid :=
  over
#print axioms proved
end conserveBounds
end Go.Proofs.Ytonbidohhgenlaa.Con
