/- Texts that statements lean on, put together: SkCopy, ExaDef, ExaCode, ExaRef, ExaLawA, ExaShr, LevCode, Many, PcsMath, PcsRef, PcsCov, PcsDef. -/
import Derived.Test.YtkflggojiiebeaaGreatVad
namespace Go.Proofs.YtkflggojiiebeaaGreat.Sk
open Go Go.RowKit Lw Grd Lin Con Shp
set_option linter.unusedVariables false
set_option linter.unusedSimpArgs false
theorem pgI {w : World} {p : Addr} {F : Nat → Prop} {m n : Nat} {L : List (List Int)} (h : (pgT p F m n L).I w) : PG w p F m n L := h
theorem made_rd {X : World} {n g : Nat} {T : TypeId} (h : X.heap.size = g) : Rd .i64 (X.alloc (.cells (madeCells #[.int .i64 0] n) T)) (some ⟨g, 0, none⟩) (List.replicate n 0) := by
  subst h
  exact (Grd.mid_made X n T).rd
theorem at2_in64 {m n : Nat} {L : List (List Int)} (hd : Dims m n L) {r c : Int} : -9223372036854775808 ≤ at2 L r c ∧ at2 L r c ≤ 9223372036854775807 := by
  unfold at2
  split
  · omega
  · cases h1 : L[r.toNat]? with
    | none => simp
    | some row =>
      simp only [Option.getD_some]
      cases h2 : row[c.toNat]? with
      | none => simp
      | some v => exact (hd.rows row (List.mem_of_getElem? h1)).2 v (List.mem_of_getElem? h2)
theorem int_info : (Tryz.prog.info? 3).map (fun i => (i.zero, i.size, i.bytes)) = some (some (.int .i64 0), 1, 8) := by kernel_rfl
theorem ints_u : Tryz.prog.underlying 228 = some (.slice 3) := by kernel_rfl
set_option maxRecDepth 100000 in
theorem scheck_no (p : Addr) (F : Nat → Prop) (c : Cfg) (l : Int) (L : List (List Int)) (k d : Int) (w : World) (h : SK w p F c l L) (k0 : 0 ≤ k) (k1 : k ≤ 18446744073709551615) (hk : keys c l ≤ k) :
    Calls Tryz.prog 206 #[.pointer (some p), .int .u64 k, .int .i64 d] w fun e w' => e = .returned (.int .i64 2) ∧ Below w.heap.size w w' := by
  have CN := Lib.hid (scolumns_no p F c l L k w h k0 k1 hk)
  clear h
  go_enter Tryz.func206, Tryz.ntmps206
  go_wp2_with (go_at_call 212; (with_reducible refine CN.out.mono ?_); rintro e w1 ⟨rfl, hb1⟩; have HB1 := Lib.hid hb1; clear hb1)
  go_ret
  exact ⟨rfl, HB1.out⟩
set_option maxRecDepth 100000 in
set_option maxHeartbeats 4000000 in
theorem scheck_lin (p : Addr) (F : Nat → Prop) (c : Cfg) (l : Int) (L : List (List Int)) (k d : Int) (w : World) (h : SK w p F c l L) (k0 : 0 ≤ k) (k1 : k ≤ 18446744073709551615) (d0 : -9223372036854775808 ≤ d) (d1 : d ≤ 9223372036854775807) (hk : k < keys c l) (hm : c.md = 1) :
    Calls Tryz.prog 206 #[.pointer (some p), .int .u64 k, .int .i64 d] w fun e w' => e = .returned (.int .i64 (chCode (rws c) (wds c) L (cols c l k) d)) ∧ Below w.heap.size w w' := by
  obtain ⟨i0, hi, hi0, hi1, hi2⟩ := info_parts int_info
  have HS := Lib.hid h
  have hd := h.dims
  have hme := cols_meet k0 hk
  obtain ⟨hr, hok, hl0, hl1, b, gp, G, rfl, hb, hg, hGb, rfl⟩ := h
  have hbl := size_of_heap hb
  have c0w := grd_cell hb 0 (v := .pointer (some gp)) rfl
  have CY := Lib.hid (scolumns_yes _ _ c l L k w HS.out k0 k1 hk)
  have WY : Hid (∀ w', Below w.heap.size w w' → Calls Tryz.prog 214 #[.pointer (some ⟨b, 0, none⟩)] w' fun e w2 => e = .returned (.agg #[.func (.func 219) #[] #[], .func (.func 217) #[] #[], .bool true]) ∧ Below w'.heap.size w' w2) := Lib.hid (fun w' hb2 => way_lin _ _ c l L w' (HS.out.up hb2) hm)
  have hcl : (cols c l k).length = rws c := hme.2.1
  have hrw := rws_bd hr
  have RW := Lib.hid (fun w' hd => rows_any gp G (rws c) (wds c) L w' hd)
  have NW := Lib.hid (fun w' => new_any ((rws c : Nat) : Int) 1 w' (by omega) (by omega) (by omega) (by omega))
  have e1 : cl ((rws c : Nat) : Int) 8 = rws c := by rw [cl_of (by omega) (by omega)]; omega
  have e2 : cl 1 128 = 1 := by rw [cl_of (by omega) (by omega)]; rfl
  rw [e1, e2, ← trial_zero L (cols c l k)] at NW
  have AT := Lib.hid (fun (r v : Int) w' hd h0 h1 h2 h3 => at_any gp G (rws c) (wds c) L r v w' hd h0 h1 h2 h3)
  have NA := Lib.hid (fun r v (hv : (cols c l k)[r]? = some v) => named_at hd hme hv)
  have NB := Lib.hid (fun r x (hr2 : r < rws c) (hx : (named L (cols c l k))[r]? = some x) => trial_put (m := rws c) hr2 hx)
  have hin := cols_in c l k
  have HIN := Lib.hid hin
  have HAB := Lib.hid (fun r v => at2_in64 hd (r := r) (c := v))
  have CH := Lib.hid (fun tp TF A w' hp hrd hap => change_any tp TF (rws c) 1 (trialL L (cols c l k) (rws c) (rws c)) (some A) (rws c) (rws c) (List.replicate (rws c) 0) d w' hp hrd hap (by simp) (by omega) (in64_zero _) d0 d1)
  rw [trial_ch hd hme] at CH
  obtain ⟨V, hV⟩ : ∃ V, chCode (rws c) (wds c) L (cols c l k) d = V := ⟨_, rfl⟩
  rw [hV] at CH ⊢
  have HG := Lib.hid hg
  obtain ⟨m, hmm⟩ : ∃ m, rws c = m := ⟨_, rfl⟩
  rw [hmm] at CY RW NW NB CH hrw hcl HG AT
  obtain ⟨cs, hcs⟩ : ∃ cs, cols c l k = cs := ⟨_, rfl⟩
  rw [hcs] at CY NW NA NB CH hcl HIN
  have hm8 : 1 ≤ m ∧ m ≤ 8 := ⟨hrw.1, hrw.2.1⟩
  have HCL := Lib.hid hcl
  have hmk : ∀ w, (Instr.makeSlice 228 (.int .i64 (m : Int)) (.int .i64 (m : Int))).run Tryz.prog w = .ok (.slice (some ⟨w.heap.size, 0, none⟩) m m) (w.alloc (.cells (madeCells #[.int .i64 0] m) 3)) := by
    intro w
    have h := run_make (P := Tryz.prog) w 228 3 i0 (.int .i64 0) ints_u hi hi0 .i64 .i64 m m (by omega) (Int.le_refl _) (by rw [hi2]; omega) (by omega)
    rw [hi1] at h
    simpa [Value.cells] using h
  have HMK := Lib.hid hmk
  have hfd : ∀ w : World, (Instr.field 299 (.agg #[.func (.func 219) #[] #[], .func (.func 217) #[] #[], .bool true]) 0).run Tryz.prog w = .ok (.func (.func 219) #[] #[]) w := fun _ => by kernel_rfl
  have HFD := Lib.hid hfd
  clear hb hg hcl hrw hV hm hk hd hme hin hmm hcs e1 e2 hi hi0 hi1 hi2 hmk hfd
  go_enter Tryz.func206, Tryz.ntmps206
  go_wp2_with (first
    | (go_at_call 212; (with_reducible refine (CY.out).mono ?_); rintro e w1 ⟨g, rfl, hm1, hg1, hb1⟩; have HV1 := Lib.hid ((Have.nil w).push (midT g cs) hb1 hm1 (fun k hk => by subst hk; exact hg1)); clear hm1 hg1 hb1; have c0 := cell_up c0w HV1.out.below)
    | (go_at_call 213; (with_reducible refine (RW.out _ (pg_up HG.out HV1.out.below)).mono ?_); rintro e w2 ⟨rfl, hb⟩; have HV2 := Lib.hid (HV1.out.up hb); clear hb c0)
    | (go_at_call 117; (with_reducible refine (NW.out _).mono ?_); rintro e w3 ⟨tp, TF0, rfl, h1, h2, hb⟩; have HV3 := Lib.hid (HV2.out.push (pgT tp TF0 m 1 (trialL L cs m 0)) hb h1 h2); clear h1 h2 hb))
  go_loopw [29] (fun iv wr => ∃ (r : Nat) (TF : Nat → Prop), r ≤ m ∧ iv = .int .i64 r ∧ Have w wr [pgT tp TF m 1 (trialL L cs m r), midT g cs]) (fun iv _ => m - (intOf iv).toNat)
  case atStart => exact ⟨0, TF0, Nat.zero_le _, rfl, HV3.out⟩
  case round =>
    obtain ⟨r, TF, hr, rfl, hv⟩ := hrel
    have HVr := Lib.hid hv
    clear hv
    have c0 := cell_up c0w HVr.out.below
    by_cases hrm : r < m
    · obtain ⟨v, hv1⟩ : ∃ v, cs[r]? = some v := ⟨_, List.getElem?_eq_getElem (by rw [HCL.out]; exact hrm)⟩
      have hcv := (midI HVr.out.i1).cell hv1
      have hvb := HIN.out v (List.mem_of_getElem? hv1)
      have hna := NA.out r v hv1
      have hab := HAB.out (r : Int) v
      obtain ⟨x, hx⟩ : ∃ x, at2 L (r : Int) v = x := ⟨_, rfl⟩
      rw [hx] at hna hab
      have hnb := NB.out r x hrm hna
      have CA := Lib.hid (fun w' hb => AT.out (r : Int) v w' (pg_up HG.out hb) (by omega) (by omega) hvb.1 hvb.2)
      rw [hx] at CA
      have CPT := Lib.hid (fun w' hp => put_any tp TF m 1 (trialL L cs m r) (r : Int) 0 x w' hp (by omega) (by omega) (by omega) (by omega) hab.1 hab.2)
      rw [hnb] at CPT
      obtain ⟨bb, hbb⟩ : ∃ bb, in2 (trialL L cs m r) (r : Int) 0 = bb := ⟨_, rfl⟩
      rw [hbb] at CPT
      obtain ⟨ga, hga⟩ : ∃ ga : Addr, (⟨g, 0, none⟩ : Addr) = ga := ⟨_, rfl⟩
      rw [← Ord.add_at, hga] at hcv
      rw [hga]
      have hrm2 : (r : Int) < (m : Int) := by omega
      clear hx hna hnb hab hvb hv1 hbb
      go_wp2_with (first
        | (go_at_call 201; (with_reducible refine (CA.out _ (below_call HVr.out.below (by repeat' (first | (with_reducible first | exact Below.refl _ _ | assumption | refine below_over ?_ _ _ | refine Lw.below_alloc ?_ _ | refine Below.drew ?_ | refine below_drewN ?_ _ | refine Below.setCell ?_ ?_ _) | go_size)) (Nat.le_refl _))).mono ?_); rintro e w5 ⟨rfl, hb⟩; have HV5 := Lib.hid (HVr.out.up hb); clear hb)
        | (go_at_call 200; (with_reducible refine (CPT.out _ (pgI HV5.out.i0)).mono ?_); rintro e w6 ⟨rfl, T6, h1, h2, h3⟩; have HV6 := Lib.hid (HV5.out.turn_0 (pgT tp T6 m 1 (trialL L cs m (r + 1))) h1 h2 h3); clear h1 h2 h3))
      go_roundw
      case rel => exact ⟨r + 1, T6, by omega, by go_num, HV6.out⟩
      case measure => simp [intOf]; omega
    · have e : r = m := by omega
      subst e
      have hlt3 : ¬ (r : Int) < (r : Int) := by omega
      have TLT := Lib.hid (fun q (hq : TF q) => (pgT tp TF _ _ _).lt wr HVr.out.i0 q hq)
      have hmk := HMK.out
      have hfd := HFD.out
      clear hrm
      go_upto_region 10 with fail
      go_region_held3 (fun w' => w'.cell? ⟨b, 0, none⟩ = some (.pointer (some gp))) (first | (with_reducible assumption) | (with_reducible refine cell_up c0 ?_ <;> (repeat' (first | (with_reducible first | exact Below.refl _ _ | assumption | refine below_over ?_ _ _ | refine Lw.below_alloc ?_ _ | refine Below.drew ?_ | refine below_drewN ?_ _ | refine Below.setCell ?_ ?_ _) | go_size)))) (first
        | (go_at_call 214; (with_reducible refine (WY.out _ (below_call HVr.out.below (by repeat' (first | (with_reducible first | exact Below.refl _ _ | assumption | refine below_over ?_ _ _ | refine Lw.below_alloc ?_ _ | refine Below.drew ?_ | refine below_drewN ?_ _ | refine Below.setCell ?_ ?_ _) | go_size)) (Nat.le_refl _))).mono ?_); rintro e w' ⟨rfl, hb2⟩; obtain ⟨bs, d2, rfl⟩ := below_grow hb2; clear hb2)
        | (go_at_call 219; (with_reducible refine (CH.out tp TF _ _ (pg_up (pgI HVr.out.i0) (by repeat' (first | (with_reducible first | exact Below.refl _ _ | assumption | refine below_over ?_ _ _ | refine Lw.below_alloc ?_ _ | refine Below.drew ?_ | refine below_drewN ?_ _ | refine Below.setCell ?_ ?_ _) | go_size))) (by first | exact made_rd (by first | rfl | (simp; done)) | exact (made_rd (by first | rfl | (simp; done))).up (by repeat' (first | (with_reducible first | exact Below.refl _ _ | assumption | refine below_over ?_ _ _ | refine Lw.below_alloc ?_ _ | refine Below.drew ?_ | refine below_drewN ?_ _ | refine Below.setCell ?_ ?_ _) | go_size))) (fun a ha hq => by injection ha with ha; subst ha; have := TLT.out _ hq; simp at this <;> omega)).mono ?_); rintro e w6 ⟨rfl, T6, h1, h2, h3⟩; have HV6 := Lib.hid ((HVr.out.up (by repeat' (first | (with_reducible first | exact Below.refl _ _ | assumption | refine below_over ?_ _ _ | refine Lw.below_alloc ?_ _ | refine Below.drew ?_ | refine below_drewN ?_ _ | refine Below.setCell ?_ ?_ _) | go_size))).turn_0 (pgT tp T6 _ _ _) h1 h2 h3); have x0 := cell_up c0w HV6.out.below; clear h1 h2 h3 c0; have c0 := x0; clear x0))
      all_goals go_wp2
      all_goals go_ret
      all_goals exact ⟨rfl, HV6.out.below⟩
set_option maxRecDepth 100000 in
set_option maxHeartbeats 4000000 in
theorem scheck_con (p : Addr) (F : Nat → Prop) (c : Cfg) (l : Int) (L : List (List Int)) (k d : Int) (w : World) (h : SK w p F c l L) (k0 : 0 ≤ k) (k1 : k ≤ 18446744073709551615) (d0 : -9223372036854775808 ≤ d) (d1 : d ≤ 9223372036854775807) (hk : k < keys c l) (hm : c.md = 2) :
    Calls Tryz.prog 206 #[.pointer (some p), .int .u64 k, .int .i64 d] w fun e w' => e = .returned (.int .i64 (rsCode (rws c) (wds c) L (cols c l k) d)) ∧ Below w.heap.size w w' := by
  obtain ⟨i0, hi, hi0, hi1, hi2⟩ := info_parts int_info
  have HS := Lib.hid h
  have hd := h.dims
  have hme := cols_meet k0 hk
  obtain ⟨hr, hok, hl0, hl1, b, gp, G, rfl, hb, hg, hGb, rfl⟩ := h
  have hbl := size_of_heap hb
  have c0w := grd_cell hb 0 (v := .pointer (some gp)) rfl
  have CY := Lib.hid (scolumns_yes _ _ c l L k w HS.out k0 k1 hk)
  have WY : Hid (∀ w', Below w.heap.size w w' → Calls Tryz.prog 214 #[.pointer (some ⟨b, 0, none⟩)] w' fun e w2 => e = .returned (.agg #[.func (.func 216) #[] #[], .func (.func 217) #[] #[], .bool false]) ∧ Below w'.heap.size w' w2) := Lib.hid (fun w' hb2 => way_con _ _ c l L w' (HS.out.up hb2) hm)
  have hcl : (cols c l k).length = rws c := hme.2.1
  have hrw := rws_bd hr
  have RW := Lib.hid (fun w' hd => rows_any gp G (rws c) (wds c) L w' hd)
  have NW := Lib.hid (fun w' => new_any ((rws c : Nat) : Int) 1 w' (by omega) (by omega) (by omega) (by omega))
  have e1 : cl ((rws c : Nat) : Int) 8 = rws c := by rw [cl_of (by omega) (by omega)]; omega
  have e2 : cl 1 128 = 1 := by rw [cl_of (by omega) (by omega)]; rfl
  rw [e1, e2, ← trial_zero L (cols c l k)] at NW
  have AT := Lib.hid (fun (r v : Int) w' hd h0 h1 h2 h3 => at_any gp G (rws c) (wds c) L r v w' hd h0 h1 h2 h3)
  have NA := Lib.hid (fun r v (hv : (cols c l k)[r]? = some v) => named_at hd hme hv)
  have NB := Lib.hid (fun r x (hr2 : r < rws c) (hx : (named L (cols c l k))[r]? = some x) => trial_put (m := rws c) hr2 hx)
  have hin := cols_in c l k
  have HIN := Lib.hid hin
  have HAB := Lib.hid (fun r v => at2_in64 hd (r := r) (c := v))
  have CH := Lib.hid (fun tp TF A w' hp hrd hap => raise_any tp TF (rws c) 1 (trialL L (cols c l k) (rws c) (rws c)) (some A) (rws c) (rws c) (List.replicate (rws c) 0) d w' hp hrd hap (by simp) (by omega) (in64_zero _) d0 d1)
  rw [trial_rs hd hme] at CH
  obtain ⟨V, hV⟩ : ∃ V, rsCode (rws c) (wds c) L (cols c l k) d = V := ⟨_, rfl⟩
  rw [hV] at CH ⊢
  have HG := Lib.hid hg
  obtain ⟨m, hmm⟩ : ∃ m, rws c = m := ⟨_, rfl⟩
  rw [hmm] at CY RW NW NB CH hrw hcl HG AT
  obtain ⟨cs, hcs⟩ : ∃ cs, cols c l k = cs := ⟨_, rfl⟩
  rw [hcs] at CY NW NA NB CH hcl HIN
  have hm8 : 1 ≤ m ∧ m ≤ 8 := ⟨hrw.1, hrw.2.1⟩
  have HCL := Lib.hid hcl
  have hmk : ∀ w, (Instr.makeSlice 228 (.int .i64 (m : Int)) (.int .i64 (m : Int))).run Tryz.prog w = .ok (.slice (some ⟨w.heap.size, 0, none⟩) m m) (w.alloc (.cells (madeCells #[.int .i64 0] m) 3)) := by
    intro w
    have h := run_make (P := Tryz.prog) w 228 3 i0 (.int .i64 0) ints_u hi hi0 .i64 .i64 m m (by omega) (Int.le_refl _) (by rw [hi2]; omega) (by omega)
    rw [hi1] at h
    simpa [Value.cells] using h
  have HMK := Lib.hid hmk
  have hfd : ∀ w : World, (Instr.field 299 (.agg #[.func (.func 216) #[] #[], .func (.func 217) #[] #[], .bool false]) 0).run Tryz.prog w = .ok (.func (.func 216) #[] #[]) w := fun _ => by kernel_rfl
  have HFD := Lib.hid hfd
  clear hb hg hcl hrw hV hm hk hd hme hin hmm hcs e1 e2 hi hi0 hi1 hi2 hmk hfd
  go_enter Tryz.func206, Tryz.ntmps206
  go_wp2_with (first
    | (go_at_call 212; (with_reducible refine (CY.out).mono ?_); rintro e w1 ⟨g, rfl, hm1, hg1, hb1⟩; have HV1 := Lib.hid ((Have.nil w).push (midT g cs) hb1 hm1 (fun k hk => by subst hk; exact hg1)); clear hm1 hg1 hb1; have c0 := cell_up c0w HV1.out.below)
    | (go_at_call 213; (with_reducible refine (RW.out _ (pg_up HG.out HV1.out.below)).mono ?_); rintro e w2 ⟨rfl, hb⟩; have HV2 := Lib.hid (HV1.out.up hb); clear hb c0)
    | (go_at_call 117; (with_reducible refine (NW.out _).mono ?_); rintro e w3 ⟨tp, TF0, rfl, h1, h2, hb⟩; have HV3 := Lib.hid (HV2.out.push (pgT tp TF0 m 1 (trialL L cs m 0)) hb h1 h2); clear h1 h2 hb))
  go_loopw [29] (fun iv wr => ∃ (r : Nat) (TF : Nat → Prop), r ≤ m ∧ iv = .int .i64 r ∧ Have w wr [pgT tp TF m 1 (trialL L cs m r), midT g cs]) (fun iv _ => m - (intOf iv).toNat)
  case atStart => exact ⟨0, TF0, Nat.zero_le _, rfl, HV3.out⟩
  case round =>
    obtain ⟨r, TF, hr, rfl, hv⟩ := hrel
    have HVr := Lib.hid hv
    clear hv
    have c0 := cell_up c0w HVr.out.below
    by_cases hrm : r < m
    · obtain ⟨v, hv1⟩ : ∃ v, cs[r]? = some v := ⟨_, List.getElem?_eq_getElem (by rw [HCL.out]; exact hrm)⟩
      have hcv := (midI HVr.out.i1).cell hv1
      have hvb := HIN.out v (List.mem_of_getElem? hv1)
      have hna := NA.out r v hv1
      have hab := HAB.out (r : Int) v
      obtain ⟨x, hx⟩ : ∃ x, at2 L (r : Int) v = x := ⟨_, rfl⟩
      rw [hx] at hna hab
      have hnb := NB.out r x hrm hna
      have CA := Lib.hid (fun w' hb => AT.out (r : Int) v w' (pg_up HG.out hb) (by omega) (by omega) hvb.1 hvb.2)
      rw [hx] at CA
      have CPT := Lib.hid (fun w' hp => put_any tp TF m 1 (trialL L cs m r) (r : Int) 0 x w' hp (by omega) (by omega) (by omega) (by omega) hab.1 hab.2)
      rw [hnb] at CPT
      obtain ⟨bb, hbb⟩ : ∃ bb, in2 (trialL L cs m r) (r : Int) 0 = bb := ⟨_, rfl⟩
      rw [hbb] at CPT
      obtain ⟨ga, hga⟩ : ∃ ga : Addr, (⟨g, 0, none⟩ : Addr) = ga := ⟨_, rfl⟩
      rw [← Ord.add_at, hga] at hcv
      rw [hga]
      have hrm2 : (r : Int) < (m : Int) := by omega
      clear hx hna hnb hab hvb hv1 hbb
      go_wp2_with (first
        | (go_at_call 201; (with_reducible refine (CA.out _ (below_call HVr.out.below (by repeat' (first | (with_reducible first | exact Below.refl _ _ | assumption | refine below_over ?_ _ _ | refine Lw.below_alloc ?_ _ | refine Below.drew ?_ | refine below_drewN ?_ _ | refine Below.setCell ?_ ?_ _) | go_size)) (Nat.le_refl _))).mono ?_); rintro e w5 ⟨rfl, hb⟩; have HV5 := Lib.hid (HVr.out.up hb); clear hb)
        | (go_at_call 200; (with_reducible refine (CPT.out _ (pgI HV5.out.i0)).mono ?_); rintro e w6 ⟨rfl, T6, h1, h2, h3⟩; have HV6 := Lib.hid (HV5.out.turn_0 (pgT tp T6 m 1 (trialL L cs m (r + 1))) h1 h2 h3); clear h1 h2 h3))
      go_roundw
      case rel => exact ⟨r + 1, T6, by omega, by go_num, HV6.out⟩
      case measure => simp [intOf]; omega
    · have e : r = m := by omega
      subst e
      have hlt3 : ¬ (r : Int) < (r : Int) := by omega
      have TLT := Lib.hid (fun q (hq : TF q) => (pgT tp TF _ _ _).lt wr HVr.out.i0 q hq)
      have hmk := HMK.out
      have hfd := HFD.out
      clear hrm
      go_upto_region 10 with fail
      go_region_held3 (fun w' => w'.cell? ⟨b, 0, none⟩ = some (.pointer (some gp))) (first | (with_reducible assumption) | (with_reducible refine cell_up c0 ?_ <;> (repeat' (first | (with_reducible first | exact Below.refl _ _ | assumption | refine below_over ?_ _ _ | refine Lw.below_alloc ?_ _ | refine Below.drew ?_ | refine below_drewN ?_ _ | refine Below.setCell ?_ ?_ _) | go_size)))) (first
        | (go_at_call 214; (with_reducible refine (WY.out _ (below_call HVr.out.below (by repeat' (first | (with_reducible first | exact Below.refl _ _ | assumption | refine below_over ?_ _ _ | refine Lw.below_alloc ?_ _ | refine Below.drew ?_ | refine below_drewN ?_ _ | refine Below.setCell ?_ ?_ _) | go_size)) (Nat.le_refl _))).mono ?_); rintro e w' ⟨rfl, hb2⟩; obtain ⟨bs, d2, rfl⟩ := below_grow hb2; clear hb2)
        | (go_at_call 216; (with_reducible refine (CH.out tp TF _ _ (pg_up (pgI HVr.out.i0) (by repeat' (first | (with_reducible first | exact Below.refl _ _ | assumption | refine below_over ?_ _ _ | refine Lw.below_alloc ?_ _ | refine Below.drew ?_ | refine below_drewN ?_ _ | refine Below.setCell ?_ ?_ _) | go_size))) (by first | exact made_rd (by first | rfl | (simp; done)) | exact (made_rd (by first | rfl | (simp; done))).up (by repeat' (first | (with_reducible first | exact Below.refl _ _ | assumption | refine below_over ?_ _ _ | refine Lw.below_alloc ?_ _ | refine Below.drew ?_ | refine below_drewN ?_ _ | refine Below.setCell ?_ ?_ _) | go_size))) (fun a ha hq => by injection ha with ha; subst ha; have := TLT.out _ hq; simp at this <;> omega)).mono ?_); rintro e w6 ⟨rfl, T6, h1, h2, h3⟩; have HV6 := Lib.hid ((HVr.out.up (by repeat' (first | (with_reducible first | exact Below.refl _ _ | assumption | refine below_over ?_ _ _ | refine Lw.below_alloc ?_ _ | refine Below.drew ?_ | refine below_drewN ?_ _ | refine Below.setCell ?_ ?_ _) | go_size))).turn_0 (pgT tp T6 _ _ _) h1 h2 h3); have x0 := cell_up c0w HV6.out.below; clear h1 h2 h3 c0; have c0 := x0; clear x0))
      all_goals go_wp2
      all_goals go_ret
      all_goals exact ⟨rfl, HV6.out.below⟩
set_option maxRecDepth 100000 in
set_option maxHeartbeats 4000000 in
theorem scheck_med (p : Addr) (F : Nat → Prop) (c : Cfg) (l : Int) (L : List (List Int)) (k d : Int) (w : World) (h : SK w p F c l L) (k0 : 0 ≤ k) (k1 : k ≤ 18446744073709551615) (d0 : -9223372036854775808 ≤ d) (d1 : d ≤ 9223372036854775807) (hk : k < keys c l) (hm : c.md = 3) :
    Calls Tryz.prog 206 #[.pointer (some p), .int .u64 k, .int .i64 d] w fun e w' => e = .returned (.int .i64 (chCode (rws c) (wds c) L (cols c l k) d)) ∧ Below w.heap.size w w' := by
  obtain ⟨i0, hi, hi0, hi1, hi2⟩ := info_parts int_info
  have HS := Lib.hid h
  have hd := h.dims
  have hme := cols_meet k0 hk
  obtain ⟨hr, hok, hl0, hl1, b, gp, G, rfl, hb, hg, hGb, rfl⟩ := h
  have hbl := size_of_heap hb
  have c0w := grd_cell hb 0 (v := .pointer (some gp)) rfl
  have CY := Lib.hid (scolumns_yes _ _ c l L k w HS.out k0 k1 hk)
  have WY : Hid (∀ w', Below w.heap.size w w' → Calls Tryz.prog 214 #[.pointer (some ⟨b, 0, none⟩)] w' fun e w2 => e = .returned (.agg #[.func (.func 219) #[] #[], .func (.func 218) #[] #[], .bool true]) ∧ Below w'.heap.size w' w2) := Lib.hid (fun w' hb2 => way_med _ _ c l L w' (HS.out.up hb2) hm)
  have hcl : (cols c l k).length = rws c := hme.2.1
  have hrw := rws_bd hr
  have RW := Lib.hid (fun w' hd => rows_any gp G (rws c) (wds c) L w' hd)
  have NW := Lib.hid (fun w' => new_any ((rws c : Nat) : Int) 1 w' (by omega) (by omega) (by omega) (by omega))
  have e1 : cl ((rws c : Nat) : Int) 8 = rws c := by rw [cl_of (by omega) (by omega)]; omega
  have e2 : cl 1 128 = 1 := by rw [cl_of (by omega) (by omega)]; rfl
  rw [e1, e2, ← trial_zero L (cols c l k)] at NW
  have AT := Lib.hid (fun (r v : Int) w' hd h0 h1 h2 h3 => at_any gp G (rws c) (wds c) L r v w' hd h0 h1 h2 h3)
  have NA := Lib.hid (fun r v (hv : (cols c l k)[r]? = some v) => named_at hd hme hv)
  have NB := Lib.hid (fun r x (hr2 : r < rws c) (hx : (named L (cols c l k))[r]? = some x) => trial_put (m := rws c) hr2 hx)
  have hin := cols_in c l k
  have HIN := Lib.hid hin
  have HAB := Lib.hid (fun r v => at2_in64 hd (r := r) (c := v))
  have CH := Lib.hid (fun tp TF A w' hp hrd hap => change_any tp TF (rws c) 1 (trialL L (cols c l k) (rws c) (rws c)) (some A) (rws c) (rws c) (List.replicate (rws c) 0) d w' hp hrd hap (by simp) (by omega) (in64_zero _) d0 d1)
  rw [trial_ch hd hme] at CH
  obtain ⟨V, hV⟩ : ∃ V, chCode (rws c) (wds c) L (cols c l k) d = V := ⟨_, rfl⟩
  rw [hV] at CH ⊢
  have HG := Lib.hid hg
  obtain ⟨m, hmm⟩ : ∃ m, rws c = m := ⟨_, rfl⟩
  rw [hmm] at CY RW NW NB CH hrw hcl HG AT
  obtain ⟨cs, hcs⟩ : ∃ cs, cols c l k = cs := ⟨_, rfl⟩
  rw [hcs] at CY NW NA NB CH hcl HIN
  have hm8 : 1 ≤ m ∧ m ≤ 8 := ⟨hrw.1, hrw.2.1⟩
  have HCL := Lib.hid hcl
  have hmk : ∀ w, (Instr.makeSlice 228 (.int .i64 (m : Int)) (.int .i64 (m : Int))).run Tryz.prog w = .ok (.slice (some ⟨w.heap.size, 0, none⟩) m m) (w.alloc (.cells (madeCells #[.int .i64 0] m) 3)) := by
    intro w
    have h := run_make (P := Tryz.prog) w 228 3 i0 (.int .i64 0) ints_u hi hi0 .i64 .i64 m m (by omega) (Int.le_refl _) (by rw [hi2]; omega) (by omega)
    rw [hi1] at h
    simpa [Value.cells] using h
  have HMK := Lib.hid hmk
  have hfd : ∀ w : World, (Instr.field 299 (.agg #[.func (.func 219) #[] #[], .func (.func 218) #[] #[], .bool true]) 0).run Tryz.prog w = .ok (.func (.func 219) #[] #[]) w := fun _ => by kernel_rfl
  have HFD := Lib.hid hfd
  clear hb hg hcl hrw hV hm hk hd hme hin hmm hcs e1 e2 hi hi0 hi1 hi2 hmk hfd
  go_enter Tryz.func206, Tryz.ntmps206
  go_wp2_with (first
    | (go_at_call 212; (with_reducible refine (CY.out).mono ?_); rintro e w1 ⟨g, rfl, hm1, hg1, hb1⟩; have HV1 := Lib.hid ((Have.nil w).push (midT g cs) hb1 hm1 (fun k hk => by subst hk; exact hg1)); clear hm1 hg1 hb1; have c0 := cell_up c0w HV1.out.below)
    | (go_at_call 213; (with_reducible refine (RW.out _ (pg_up HG.out HV1.out.below)).mono ?_); rintro e w2 ⟨rfl, hb⟩; have HV2 := Lib.hid (HV1.out.up hb); clear hb c0)
    | (go_at_call 117; (with_reducible refine (NW.out _).mono ?_); rintro e w3 ⟨tp, TF0, rfl, h1, h2, hb⟩; have HV3 := Lib.hid (HV2.out.push (pgT tp TF0 m 1 (trialL L cs m 0)) hb h1 h2); clear h1 h2 hb))
  go_loopw [29] (fun iv wr => ∃ (r : Nat) (TF : Nat → Prop), r ≤ m ∧ iv = .int .i64 r ∧ Have w wr [pgT tp TF m 1 (trialL L cs m r), midT g cs]) (fun iv _ => m - (intOf iv).toNat)
  case atStart => exact ⟨0, TF0, Nat.zero_le _, rfl, HV3.out⟩
  case round =>
    obtain ⟨r, TF, hr, rfl, hv⟩ := hrel
    have HVr := Lib.hid hv
    clear hv
    have c0 := cell_up c0w HVr.out.below
    by_cases hrm : r < m
    · obtain ⟨v, hv1⟩ : ∃ v, cs[r]? = some v := ⟨_, List.getElem?_eq_getElem (by rw [HCL.out]; exact hrm)⟩
      have hcv := (midI HVr.out.i1).cell hv1
      have hvb := HIN.out v (List.mem_of_getElem? hv1)
      have hna := NA.out r v hv1
      have hab := HAB.out (r : Int) v
      obtain ⟨x, hx⟩ : ∃ x, at2 L (r : Int) v = x := ⟨_, rfl⟩
      rw [hx] at hna hab
      have hnb := NB.out r x hrm hna
      have CA := Lib.hid (fun w' hb => AT.out (r : Int) v w' (pg_up HG.out hb) (by omega) (by omega) hvb.1 hvb.2)
      rw [hx] at CA
      have CPT := Lib.hid (fun w' hp => put_any tp TF m 1 (trialL L cs m r) (r : Int) 0 x w' hp (by omega) (by omega) (by omega) (by omega) hab.1 hab.2)
      rw [hnb] at CPT
      obtain ⟨bb, hbb⟩ : ∃ bb, in2 (trialL L cs m r) (r : Int) 0 = bb := ⟨_, rfl⟩
      rw [hbb] at CPT
      obtain ⟨ga, hga⟩ : ∃ ga : Addr, (⟨g, 0, none⟩ : Addr) = ga := ⟨_, rfl⟩
      rw [← Ord.add_at, hga] at hcv
      rw [hga]
      have hrm2 : (r : Int) < (m : Int) := by omega
      clear hx hna hnb hab hvb hv1 hbb
      go_wp2_with (first
        | (go_at_call 201; (with_reducible refine (CA.out _ (below_call HVr.out.below (by repeat' (first | (with_reducible first | exact Below.refl _ _ | assumption | refine below_over ?_ _ _ | refine Lw.below_alloc ?_ _ | refine Below.drew ?_ | refine below_drewN ?_ _ | refine Below.setCell ?_ ?_ _) | go_size)) (Nat.le_refl _))).mono ?_); rintro e w5 ⟨rfl, hb⟩; have HV5 := Lib.hid (HVr.out.up hb); clear hb)
        | (go_at_call 200; (with_reducible refine (CPT.out _ (pgI HV5.out.i0)).mono ?_); rintro e w6 ⟨rfl, T6, h1, h2, h3⟩; have HV6 := Lib.hid (HV5.out.turn_0 (pgT tp T6 m 1 (trialL L cs m (r + 1))) h1 h2 h3); clear h1 h2 h3))
      go_roundw
      case rel => exact ⟨r + 1, T6, by omega, by go_num, HV6.out⟩
      case measure => simp [intOf]; omega
    · have e : r = m := by omega
      subst e
      have hlt3 : ¬ (r : Int) < (r : Int) := by omega
      have TLT := Lib.hid (fun q (hq : TF q) => (pgT tp TF _ _ _).lt wr HVr.out.i0 q hq)
      have hmk := HMK.out
      have hfd := HFD.out
      clear hrm
      go_upto_region 10 with fail
      go_region_held3 (fun w' => w'.cell? ⟨b, 0, none⟩ = some (.pointer (some gp))) (first | (with_reducible assumption) | (with_reducible refine cell_up c0 ?_ <;> (repeat' (first | (with_reducible first | exact Below.refl _ _ | assumption | refine below_over ?_ _ _ | refine Lw.below_alloc ?_ _ | refine Below.drew ?_ | refine below_drewN ?_ _ | refine Below.setCell ?_ ?_ _) | go_size)))) (first
        | (go_at_call 214; (with_reducible refine (WY.out _ (below_call HVr.out.below (by repeat' (first | (with_reducible first | exact Below.refl _ _ | assumption | refine below_over ?_ _ _ | refine Lw.below_alloc ?_ _ | refine Below.drew ?_ | refine below_drewN ?_ _ | refine Below.setCell ?_ ?_ _) | go_size)) (Nat.le_refl _))).mono ?_); rintro e w' ⟨rfl, hb2⟩; obtain ⟨bs, d2, rfl⟩ := below_grow hb2; clear hb2)
        | (go_at_call 219; (with_reducible refine (CH.out tp TF _ _ (pg_up (pgI HVr.out.i0) (by repeat' (first | (with_reducible first | exact Below.refl _ _ | assumption | refine below_over ?_ _ _ | refine Lw.below_alloc ?_ _ | refine Below.drew ?_ | refine below_drewN ?_ _ | refine Below.setCell ?_ ?_ _) | go_size))) (by first | exact made_rd (by first | rfl | (simp; done)) | exact (made_rd (by first | rfl | (simp; done))).up (by repeat' (first | (with_reducible first | exact Below.refl _ _ | assumption | refine below_over ?_ _ _ | refine Lw.below_alloc ?_ _ | refine Below.drew ?_ | refine below_drewN ?_ _ | refine Below.setCell ?_ ?_ _) | go_size))) (fun a ha hq => by injection ha with ha; subst ha; have := TLT.out _ hq; simp at this <;> omega)).mono ?_); rintro e w6 ⟨rfl, T6, h1, h2, h3⟩; have HV6 := Lib.hid ((HVr.out.up (by repeat' (first | (with_reducible first | exact Below.refl _ _ | assumption | refine below_over ?_ _ _ | refine Lw.below_alloc ?_ _ | refine Below.drew ?_ | refine below_drewN ?_ _ | refine Below.setCell ?_ ?_ _) | go_size))).turn_0 (pgT tp T6 _ _ _) h1 h2 h3); have x0 := cell_up c0w HV6.out.below; clear h1 h2 h3 c0; have c0 := x0; clear x0))
      all_goals go_wp2
      all_goals go_ret
      all_goals exact ⟨rfl, HV6.out.below⟩
/-- Check tells what Update would answer. -/
theorem scheck_any (p : Addr) (F : Nat → Prop) (c : Cfg) (l : Int) (L : List (List Int)) (k d : Int) (w : World) (h : SK w p F c l L) (k0 : 0 ≤ k) (k1 : k ≤ 18446744073709551615) (d0 : -9223372036854775808 ≤ d) (d1 : d ≤ 9223372036854775807) :
    Calls Tryz.prog 206 #[.pointer (some p), .int .u64 k, .int .i64 d] w fun e w' => e = .returned (.int .i64 (upCode c l L k d)) ∧ Below w.heap.size w w' := by
  unfold upCode
  by_cases hk : keys c l ≤ k
  · rw [if_pos hk]
    exact scheck_no p F c l L k d w h k0 k1 hk
  rw [if_neg hk]
  have hr := h.1
  have h3 : c.md = 1 ∨ c.md = 2 ∨ c.md = 3 := by have := hr.2.2.2.2.2.2; omega
  rcases h3 with h3 | h3 | h3
  · rw [if_neg (by omega)]; exact scheck_lin p F c l L k d w h k0 k1 d0 d1 (by omega) h3
  · rw [if_pos h3]; exact scheck_con p F c l L k d w h k0 k1 d0 d1 (by omega) h3
  · rw [if_neg (by omega)]; exact scheck_med p F c l L k d w h k0 k1 d0 d1 (by omega) h3
end Go.Proofs.YtkflggojiiebeaaGreat.Sk

namespace Go.Proofs.YtkflggojiiebeaaGreat.Exa
open Go Go.RowKit Lw Grd Lin Con Shp Sk
set_option linter.unusedVariables false
set_option linter.unusedSimpArgs false
/-- The number of a key; 0 where there is none. -/
def num (L : List Int) (k : Int) : Int := (L[k.toNat]?).getD 0
def exCode (md : Int) (L : List Int) (k d : Int) : Int := if (L.length : Int) ≤ k then 2 else if md = 2 ∧ d < 0 then 3 else if Wid.fit64 (num L k + d) = true then 0 else 4
def exRes (md : Int) (L : List Int) (k d : Int) : List Int := if exCode md L k d = 0 then L.set k.toNat (num L k + d) else L
theorem ex_key {md : Int} {L : List Int} {k d : Int} (h : (L.length : Int) ≤ k) : exCode md L k d = 2 ∧ exRes md L k d = L := by
  have e : exCode md L k d = 2 := if_pos h
  exact ⟨e, by unfold exRes; rw [e]; rfl⟩
theorem ex_mode {md : Int} {L : List Int} {k d : Int} (h : k < (L.length : Int)) (hm : md = 2 ∧ d < 0) : exCode md L k d = 3 ∧ exRes md L k d = L := by
  have e : exCode md L k d = 3 := by unfold exCode; rw [if_neg (by omega), if_pos hm]
  exact ⟨e, by unfold exRes; rw [e]; rfl⟩
theorem ex_yes {md : Int} {L : List Int} {k d : Int} (h : k < (L.length : Int)) (hm : ¬ (md = 2 ∧ d < 0)) (hf : Wid.fit64 (num L k + d) = true) : exCode md L k d = 0 ∧ exRes md L k d = L.set k.toNat (num L k + d) := by
  have e : exCode md L k d = 0 := by unfold exCode; rw [if_neg (by omega), if_neg hm, if_pos hf]
  exact ⟨e, by unfold exRes; rw [if_pos e]⟩
theorem ex_over {md : Int} {L : List Int} {k d : Int} (h : k < (L.length : Int)) (hm : ¬ (md = 2 ∧ d < 0)) (hf : Wid.fit64 (num L k + d) = false) : exCode md L k d = 4 ∧ exRes md L k d = L := by
  have e : exCode md L k d = 4 := by unfold exCode; rw [if_neg (by omega), if_neg hm, if_neg (by rw [hf]; decide)]
  exact ⟨e, by unfold exRes; rw [e]; rfl⟩
theorem in64_fit {z : Int} (h : Wid.fit64 z = true) : -9223372036854775808 ≤ z ∧ z ≤ 9223372036854775807 := by
  have h1 : -9223372036854775808 ≤ z ∧ z < 9223372036854775808 := of_decide_eq_true h
  omega
theorem ex_zero {md : Int} {L : List Int} {k d : Int} (h : exCode md L k d = 0) : k < (L.length : Int) ∧ Wid.fit64 (num L k + d) = true := by
  unfold exCode at h
  split at h
  · cases h
  · split at h
    · cases h
    · split at h
      · rename_i h1 _ h2
        exact ⟨by omega, h2⟩
      · cases h
def sums (K : Nat) (us : Ups) : List Int := (List.range K).map (fun k : Nat => hasK (k : Int) us)
theorem sums_len (K : Nat) (us : Ups) : (sums K us).length = K := by unfold sums; simp
theorem sums_get {K : Nat} {us : Ups} {k : Nat} (h : k < K) : (sums K us)[k]? = some (hasK (k : Int) us) := by
  unfold sums
  rw [List.getElem?_map, List.getElem?_range h]
  rfl
theorem sums_nil (K : Nat) : sums K [] = List.replicate K 0 := by
  apply List.ext_getElem?
  intro j
  by_cases h : j < K
  · rw [sums_get h, List.getElem?_replicate, if_pos h]
    rfl
  · rw [List.getElem?_eq_none (by rw [sums_len]; omega), List.getElem?_eq_none (by simp; omega)]
theorem has_one (k : Int) (u : Int × Int) : hasK k [u] = if u.1 = k then u.2 else 0 := by
  unfold hasK hasK
  omega
theorem sums_snoc {K : Nat} {us : Ups} {u : Int × Int} (h0 : 0 ≤ u.1) (h1 : u.1 < K) : sums K (us ++ [u]) = (sums K us).set u.1.toNat (num (sums K us) u.1 + u.2) := by
  apply List.ext_getElem?
  intro j
  rw [List.getElem?_set]
  by_cases h : j < K
  · rw [sums_get h, hasK_app, has_one]
    by_cases hj : u.1.toNat = j
    · have e : u.1 = (j : Int) := by omega
      rw [if_pos hj, if_pos (show u.1.toNat < (sums K us).length by rw [sums_len]; omega), if_pos e]
      unfold num
      rw [hj, sums_get h]
      rfl
    · rw [if_neg hj, if_neg (show ¬ u.1 = (j : Int) by omega), sums_get h, Int.add_zero]
  · rw [List.getElem?_eq_none (by rw [sums_len]; omega)]
    have h2 : ¬ u.1.toNat = j := by omega
    rw [if_neg h2, List.getElem?_eq_none (by rw [sums_len]; omega)]
/-- An update of small numbers is never refused. -/
theorem sums_step {md : Int} {K : Nat} {us : Ups} {u : Int × Int} (h0 : 0 ≤ u.1) (h1 : u.1 < K) (hl : us.length ≤ 60) (hb : ∀ v ∈ us ++ [u], -1099511627776 ≤ v.2 ∧ v.2 ≤ 1099511627776) (hm : md = 2 → 0 ≤ u.2) : exCode md (sums K us) u.1 u.2 = 0 ∧ exRes md (sums K us) u.1 u.2 = sums K (us ++ [u]) := by
  have hn : num (sums K us) u.1 = hasK u.1 us := by
    unfold num
    rw [sums_get (show u.1.toNat < K by omega)]
    show hasK ((u.1.toNat : Nat) : Int) us = _
    rw [Int.toNat_of_nonneg h0]
  have h2 := hasK_bd (k := u.1) (b := 1099511627776) (by omega) (us := us) (fun v hv => hb v (by simp [hv]))
  have h3 := hb u (by simp)
  have hf : Wid.fit64 (num (sums K us) u.1 + u.2) = true := by
    rw [hn]
    exact (Wid.fit64_yes (by omega) (by omega)).1
  have hy := ex_yes (md := md) (k := u.1) (d := u.2) (L := sums K us) (by rw [sums_len]; exact h1) (fun h => by have := hm h.1; omega) hf
  exact ⟨hy.1, by rw [hy.2, sums_snoc h0 h1]⟩
theorem set_one (L : List Int) {k : Int} (h0 : 0 ≤ k) (h1 : k < (L.length : Int)) (x : Int) : setL [L] 0 k x = [L.set k.toNat x] := by
  have hin : in2 [L] 0 k = true := by
    unfold in2
    simp
    omega
  unfold setL
  rw [if_pos hin]
  rfl
theorem at_one (L : List Int) {k : Int} (h0 : 0 ≤ k) : at2 [L] 0 k = num L k := by
  unfold at2 num
  rw [if_neg (by omega)]
  rfl
end Go.Proofs.YtkflggojiiebeaaGreat.Exa

namespace Go.Proofs.YtkflggojiiebeaaGreat.Exa
open Go Go.RowKit Lw Grd Lin Con Shp Sk
set_option linter.unusedVariables false
set_option linter.unusedSimpArgs false
/-- An array of the code at p, in the blocks F. -/
def EX (w : World) (p : Addr) (F : Nat → Prop) (c : Cfg) (l : Int) (L : List Int) : Prop :=
  IsRight c ∧ c.Ok ∧ 0 ≤ l ∧ l ≤ c.bt ∧ (L.length : Int) = keys c l ∧ 1 ≤ L.length ∧ L.length ≤ 128 ∧ ∃ (b : Nat) (gp : Addr) (G : Nat → Prop), p = ⟨b, 0, none⟩ ∧ w.heap[b]? = some (.cells #[.pointer (some gp), .int .i64 c.bt, .int .i64 c.rw, .int .i64 c.wd, .int .i64 c.md, .int .u64 c.sd, .int .i64 l] 221 (0, 0)) ∧ PG w gp G 1 L.length [L] ∧ ¬ G b ∧ F = (fun k => k = b ∨ G k)
theorem EX.in64 {w : World} {p : Addr} {F : Nat → Prop} {c : Cfg} {l : Int} {L : List Int} (h : EX w p F c l L) : In64 L := by
  obtain ⟨hr, hok, hl0, hl1, hlk, hn1, hn8, b, gp, G, rfl, hb, hg, hGb, rfl⟩ := h
  exact (hg.dims.rows L (by simp)).2
theorem EX.size {w : World} {p : Addr} {F : Nat → Prop} {c : Cfg} {l : Int} {L : List Int} (h : EX w p F c l L) : (L.length : Int) = keys c l ∧ 1 ≤ L.length ∧ L.length ≤ 128 := ⟨h.2.2.2.2.1, h.2.2.2.2.2.1, h.2.2.2.2.2.2.1⟩
theorem EX.keep {w' : World} {H : Nat → Prop} {w : World} {p : Addr} {F : Nat → Prop} {c : Cfg} {l : Int} {L : List Int} (h : EX w p F c l L) (hk : Kept H w w') (hf : ∀ k, F k → ¬ H k) : EX w' p F c l L := by
  obtain ⟨hr, hok, hl0, hl1, hlk, hn1, hn8, b, gp, G, rfl, hb, hg, hGb, rfl⟩ := h
  exact ⟨hr, hok, hl0, hl1, hlk, hn1, hn8, b, gp, G, rfl, hk.heap hb (hf b (.inl rfl)), (pgT gp G _ _ [L]).keep w w' H hg hk (fun k h => hf k (.inr h)), hGb, rfl⟩
theorem EX.up {w' : World} {w : World} {p : Addr} {F : Nat → Prop} {c : Cfg} {l : Int} {L : List Int} (h : EX w p F c l L) (hk : Below w.heap.size w w') : EX w' p F c l L := h.keep (Kept.of_below (F := fun _ => False) hk) (fun _ _ h => h)
theorem EX.lt {w : World} {p : Addr} {F : Nat → Prop} {c : Cfg} {l : Int} {L : List Int} (h : EX w p F c l L) (k : Nat) (hk : F k) : k < w.heap.size := by
  obtain ⟨hr, hok, hl0, hl1, hlk, hn1, hn8, b, gp, G, rfl, hb, hg, hGb, rfl⟩ := h
  rcases hk with rfl | hk
  · exact size_of_heap hb
  · exact (pgT gp G _ _ [L]).lt w hg k hk
theorem ex_turn {w w' : World} {b : Nat} {gp : Addr} {G G' : Nat → Prop} {c : Cfg} {l : Int} {L M : List Int} (hr : IsRight c) (hok : c.Ok) (hl0 : 0 ≤ l) (hl1 : l ≤ c.bt) (hlk : (L.length : Int) = keys c l) (hn1 : 1 ≤ L.length) (hn8 : L.length ≤ 128)
    (hb : w.heap[b]? = some (.cells #[.pointer (some gp), .int .i64 c.bt, .int .i64 c.rw, .int .i64 c.wd, .int .i64 c.md, .int .u64 c.sd, .int .i64 l] 221 (0, 0))) (hGb : ¬ G b) (hM : M.length = L.length) (g' : PG w' gp G' 1 L.length [M]) (hk : Kept G w w') (hG : ∀ k, G' k → G k ∨ w.heap.size ≤ k) :
    ∃ F', EX w' ⟨b, 0, none⟩ F' c l M ∧ Kept (fun k => k = b ∨ G k) w w' ∧ (∀ q, F' q → (q = b ∨ G q) ∨ w.heap.size ≤ q) := by
  have hbl := size_of_heap hb
  refine ⟨_, ⟨hr, hok, hl0, hl1, by rw [hM]; exact hlk, by rw [hM]; exact hn1, by rw [hM]; exact hn8, b, gp, G', rfl, hk.heap hb hGb, by rw [hM]; exact g', fun h => ?_, rfl⟩, hk.mono (fun k _ h => .inr h), fun q hq => ?_⟩
  · rcases hG b h with h1 | h1
    · exact hGb h1
    · omega
  · rcases hq with rfl | h1
    · exact .inl (.inl rfl)
    · rcases hG q h1 with h2 | h2
      · exact .inl (.inr h2)
      · exact .inr h2
set_option maxRecDepth 100000 in
theorem efalls_any (p : Addr) (F : Nat → Prop) (c : Cfg) (l : Int) (L : List Int) (w : World) (h : EX w p F c l L) :
    Calls Tryz.prog 202 #[.pointer (some p)] w fun e w' => e = .returned (.bool (c.md != 2)) ∧ Below w.heap.size w w' := by
  obtain ⟨hr, hok, hl0, hl1, hlk, hn1, hn8, b, gp, G, rfl, hb, hg, hGb, rfl⟩ := h
  have hbl := size_of_heap hb
  have c4 := grd_cell hb 4 (v := .int .i64 c.md) rfl
  clear hb hg
  go_enter Tryz.func202, Tryz.ntmps202
  go_wp2
  go_ret
  exact ⟨rfl, (by repeat' (first | (with_reducible first | exact Below.refl _ _ | assumption | refine below_over ?_ _ _ | refine Lw.below_alloc ?_ _ | refine Below.drew ?_ | refine below_drewN ?_ _ | refine Below.setCell ?_ ?_ _) | go_size))⟩
set_option maxRecDepth 100000 in
set_option maxHeartbeats 4000000 in
theorem enew_yes (c : Cfg) (l : Int) (w : World) (h : c.Ok) (l0 : -9223372036854775808 ≤ l) (l1 : l ≤ 9223372036854775807) (hx : exactB c l = true) :
    Calls Tryz.prog 84 #[.agg #[.int .i64 c.bt, .int .i64 c.rw, .int .i64 c.wd, .int .i64 c.md, .int .u64 c.sd], .int .i64 l] w fun e w' => ∃ (p : Addr) (F : Nat → Prop), e = .returned (.tuple #[.pointer (some p), .int .i64 0]) ∧ EX w' p F c l (List.replicate (keys c l).toNat 0) ∧ (∀ k, F k → w.heap.size ≤ k) ∧ Below w.heap.size w w' := by
  have hx2 := of_decide_eq_true hx
  have hr := keys_pos.1 hx2.1
  have hw2 := wds_bd hr.1
  have C := Lib.hid (fun w => exact_any c l w h l0 l1)
  have CK := Lib.hid (fun w => keys_any c l w h l0 l1)
  have hwd := hr.1.2.2.2.2.2.1
  obtain ⟨n, hn⟩ : ∃ n : Nat, keys c l = (n : Int) := ⟨(keys c l).toNat, by omega⟩
  have hn1 : 1 ≤ n := by omega
  have hn8 : n ≤ 128 := by omega
  have N := Lib.hid (fun w => new_any 1 (n : Int) w (by omega) (by omega) (by omega) (by omega))
  have e1 : cl 1 8 = 1 := by decide
  have e2 : cl (n : Int) 128 = n := by unfold cl; omega
  have ez : zerosL 1 n = [List.replicate n 0] := rfl
  rw [e1, e2, ez] at N
  have HR := Lib.hid hr
  rw [hx] at C
  have HK := Lib.hid hn
  rw [hn] at CK ⊢
  rw [Int.toNat_natCast]
  have u1 : IntKind.i64.wrap (n : Int) = n := IntWalk.i64_in _ ⟨by omega, by omega⟩
  clear hr hw2 e1 e2 hx2 hx ez hwd hn
  go_enter Tryz.func84, Tryz.ntmps84
  go_wp2_with (first
    | (go_at_call 83; (with_reducible refine (C.out _).mono ?_); rintro e w' ⟨rfl, hb9⟩; obtain ⟨bs, d9, rfl⟩ := below_grow hb9; clear hb9)
    | (go_at_call 46; (with_reducible refine (CK.out _).mono ?_); rintro e w' ⟨rfl, hb9⟩; obtain ⟨bs2, d2, rfl⟩ := below_grow hb9; clear hb9)
    | (go_at_call 117; (with_reducible refine (N.out _).mono ?_); rintro e w2 ⟨gp, G, rfl, hg, hG, hb9⟩; have HB2 : Hid (Below w.heap.size w w2) := Lib.hid (below_call (show Below w.heap.size w _ from (by repeat' (first | (with_reducible first | exact Below.refl _ _ | assumption | refine below_over ?_ _ _ | refine Lw.below_alloc ?_ _ | refine Below.drew ?_ | refine below_drewN ?_ _ | refine Below.setCell ?_ ?_ _) | go_size))) hb9 (Nat.le_refl _)); have HQ := Lib.hid hg; have HF : Hid (∀ k, G k → w.heap.size ≤ k) := Lib.hid (fun k hk => Nat.le_trans (Below.size (show Below w.heap.size w _ from (by repeat' (first | (with_reducible first | exact Below.refl _ _ | assumption | refine below_over ?_ _ _ | refine Lw.below_alloc ?_ _ | refine Below.drew ?_ | refine below_drewN ?_ _ | refine Below.setCell ?_ ?_ _) | go_size)))) (hG k hk)); have x0 : w2.cell? ⟨w.heap.size, 0, none⟩ = some (.int .i64 c.bt) := cell_up (show World.cell? _ _ = _ by simp [go_sem]) hb9; have x1 : w2.cell? ⟨w.heap.size, 1, none⟩ = some (.int .i64 c.rw) := cell_up (show World.cell? _ _ = _ by simp [go_sem]) hb9; have x2 : w2.cell? ⟨w.heap.size, 2, none⟩ = some (.int .i64 c.wd) := cell_up (show World.cell? _ _ = _ by simp [go_sem]) hb9; have x3 : w2.cell? ⟨w.heap.size, 3, none⟩ = some (.int .i64 c.md) := cell_up (show World.cell? _ _ = _ by simp [go_sem]) hb9; have x4 : w2.cell? ⟨w.heap.size, 4, none⟩ = some (.int .u64 c.sd) := cell_up (show World.cell? _ _ = _ by simp [go_sem]) hb9; have hbw2 := HB2.out; clear hg hG hb9))
  go_ret2
  have hgl := fun k (hk : G k) => (pgT gp G _ _ _).lt _ HQ.out k hk
  have hnw := heap_alloc_new w2 (.cells #[.pointer (some gp), .int .i64 c.bt, .int .i64 c.rw, .int .i64 c.wd, .int .i64 c.md, .int .u64 c.sd, .int .i64 l] 221)
  have hs := HB2.out.size
  refine ⟨⟨w2.heap.size, 0, none⟩, fun k => k = w2.heap.size ∨ G k, rfl, ⟨HR.out.1, h, HR.out.2.1, HR.out.2.2, by rw [List.length_replicate, HK.out], by rw [List.length_replicate]; exact hn1, by rw [List.length_replicate]; exact hn8, _, gp, G, rfl, hnw, by rw [List.length_replicate]; exact pg_alloc HQ.out _, fun hk => by have := hgl _ hk; omega, rfl⟩, fun k hk => ?_, ?_⟩
  · rcases hk with rfl | hk
    · exact hs
    · exact HF.out k hk
  · exact HB2.out.alloc hs _
set_option maxRecDepth 100000 in
set_option maxHeartbeats 4000000 in
theorem epoint_no (p : Addr) (F : Nat → Prop) (c : Cfg) (l : Int) (L : List Int) (k : Int) (w : World) (h : EX w p F c l L) (k0 : 0 ≤ k) (k1 : k ≤ 18446744073709551615) (hk : (L.length : Int) ≤ k) :
    Calls Tryz.prog 196 #[.pointer (some p), .int .u64 k] w fun e w' => e = .returned (.tuple #[.int .i64 0, .int .i64 2]) ∧ Below w.heap.size w w' := by
  obtain ⟨hr, hok, hl0, hl1, hlk, hn1, hn8, b, gp, G, rfl, hb, hg, hGb, rfl⟩ := h
  have hbl := size_of_heap hb
  have c0 := grd_cell hb 0 (v := .pointer (some gp)) rfl
  have c1 := grd_cell hb 1 (v := .int .i64 c.bt) rfl
  have c2 := grd_cell hb 2 (v := .int .i64 c.rw) rfl
  have c3 := grd_cell hb 3 (v := .int .i64 c.wd) rfl
  have c4 := grd_cell hb 4 (v := .int .i64 c.md) rfl
  have c5 := grd_cell hb 5 (v := .int .u64 c.sd) rfl
  have c6 := grd_cell hb 6 (v := .int .i64 l) rfl
  have CK := Lib.hid (fun w => keys_any c l w hok (by omega) (by have := hr.2.1; omega))
  rw [← hlk] at CK
  clear hb hg hlk
  go_enter Tryz.func196, Tryz.ntmps196
  go_wp2
  go_region_held3 (fun w' => w'.cell? ⟨b, 1, none⟩ = some (.int .i64 c.bt) ∧ w'.cell? ⟨b, 2, none⟩ = some (.int .i64 c.rw) ∧ w'.cell? ⟨b, 3, none⟩ = some (.int .i64 c.wd) ∧ w'.cell? ⟨b, 4, none⟩ = some (.int .i64 c.md) ∧ w'.cell? ⟨b, 5, none⟩ = some (.int .u64 c.sd) ∧ w'.cell? ⟨b, 6, none⟩ = some (.int .i64 l)) (first | (refine ⟨?_, ?_, ?_, ?_, ?_, ?_⟩ <;> (first | (with_reducible assumption) | (with_reducible refine cell_up c1 ?_) | (with_reducible refine cell_up c2 ?_) | (with_reducible refine cell_up c3 ?_) | (with_reducible refine cell_up c4 ?_) | (with_reducible refine cell_up c5 ?_) | (with_reducible refine cell_up c6 ?_)) <;> (repeat' (first | (with_reducible first | exact Below.refl _ _ | assumption | refine below_over ?_ _ _ | refine Lw.below_alloc ?_ _ | refine Below.drew ?_ | refine below_drewN ?_ _ | refine Below.setCell ?_ ?_ _) | go_size)))) (first
    | (go_at_call 46; (with_reducible refine (CK.out _).mono ?_); rintro e w' ⟨rfl, hb9⟩; obtain ⟨bs, d9, rfl⟩ := below_grow hb9; clear hb9))
  all_goals go_wp2
  all_goals go_ret2
  all_goals exact ⟨rfl, (by repeat' (first | (with_reducible first | exact Below.refl _ _ | assumption | refine below_over ?_ _ _ | refine Lw.below_alloc ?_ _ | refine Below.drew ?_ | refine below_drewN ?_ _ | refine Below.setCell ?_ ?_ _) | go_size))⟩
set_option maxRecDepth 100000 in
set_option maxHeartbeats 4000000 in
theorem epoint_yes (p : Addr) (F : Nat → Prop) (c : Cfg) (l : Int) (L : List Int) (k : Int) (w : World) (h : EX w p F c l L) (k0 : 0 ≤ k) (k1 : k ≤ 18446744073709551615) (hk : k < (L.length : Int)) :
    Calls Tryz.prog 196 #[.pointer (some p), .int .u64 k] w fun e w' => e = .returned (.tuple #[.int .i64 (num L k), .int .i64 0]) ∧ Below w.heap.size w w' := by
  obtain ⟨hr, hok, hl0, hl1, hlk, hn1, hn8, b, gp, G, rfl, hb, hg, hGb, rfl⟩ := h
  have hbl := size_of_heap hb
  have c0 := grd_cell hb 0 (v := .pointer (some gp)) rfl
  have c1 := grd_cell hb 1 (v := .int .i64 c.bt) rfl
  have c2 := grd_cell hb 2 (v := .int .i64 c.rw) rfl
  have c3 := grd_cell hb 3 (v := .int .i64 c.wd) rfl
  have c4 := grd_cell hb 4 (v := .int .i64 c.md) rfl
  have c5 := grd_cell hb 5 (v := .int .u64 c.sd) rfl
  have c6 := grd_cell hb 6 (v := .int .i64 l) rfl
  have CK := Lib.hid (fun w => keys_any c l w hok (by omega) (by have := hr.2.1; omega))
  rw [← hlk] at CK
  have hkx : ¬ (L.length : Int) ≤ k := by omega
  have u1 : IntKind.i64.wrap k = k := IntWalk.i64_in _ ⟨by omega, by omega⟩
  have AT : Hid (∀ w', Below w.heap.size w w' → _) := Lib.hid (fun w' hb2 => at_any gp G 1 L.length [L] 0 k w' (pg_up hg hb2) (by omega) (by omega) (by omega) (by omega))
  rw [at_one L k0] at AT
  clear hb hg hlk
  go_enter Tryz.func196, Tryz.ntmps196
  go_wp2
  go_region_held3 (fun w' => w'.cell? ⟨b, 1, none⟩ = some (.int .i64 c.bt) ∧ w'.cell? ⟨b, 2, none⟩ = some (.int .i64 c.rw) ∧ w'.cell? ⟨b, 3, none⟩ = some (.int .i64 c.wd) ∧ w'.cell? ⟨b, 4, none⟩ = some (.int .i64 c.md) ∧ w'.cell? ⟨b, 5, none⟩ = some (.int .u64 c.sd) ∧ w'.cell? ⟨b, 6, none⟩ = some (.int .i64 l)) (first | (refine ⟨?_, ?_, ?_, ?_, ?_, ?_⟩ <;> (first | (with_reducible assumption) | (with_reducible refine cell_up c1 ?_) | (with_reducible refine cell_up c2 ?_) | (with_reducible refine cell_up c3 ?_) | (with_reducible refine cell_up c4 ?_) | (with_reducible refine cell_up c5 ?_) | (with_reducible refine cell_up c6 ?_)) <;> (repeat' (first | (with_reducible first | exact Below.refl _ _ | assumption | refine below_over ?_ _ _ | refine Lw.below_alloc ?_ _ | refine Below.drew ?_ | refine below_drewN ?_ _ | refine Below.setCell ?_ ?_ _) | go_size)))) (first
    | (go_at_call 46; (with_reducible refine (CK.out _).mono ?_); rintro e w' ⟨rfl, hb9⟩; obtain ⟨bs, d9, rfl⟩ := below_grow hb9; clear hb9))
  all_goals (go_wp2_with (go_at_call 201; (with_reducible refine (AT.out _ (by repeat' (first | (with_reducible first | exact Below.refl _ _ | assumption | refine below_over ?_ _ _ | refine Lw.below_alloc ?_ _ | refine Below.drew ?_ | refine below_drewN ?_ _ | refine Below.setCell ?_ ?_ _) | go_size))).mono ?_); rintro e w' ⟨rfl, hb9⟩; obtain ⟨bs2, d2, rfl⟩ := below_grow hb9; clear hb9))
  all_goals go_ret2
  all_goals exact ⟨rfl, (by repeat' (first | (with_reducible first | exact Below.refl _ _ | assumption | refine below_over ?_ _ _ | refine Lw.below_alloc ?_ _ | refine Below.drew ?_ | refine below_drewN ?_ _ | refine Below.setCell ?_ ?_ _) | go_size))⟩
set_option maxRecDepth 100000 in
set_option maxHeartbeats 4000000 in
theorem esum_no (p : Addr) (F : Nat → Prop) (c : Cfg) (l : Int) (L : List Int) (k d : Int) (w : World) (h : EX w p F c l L) (k0 : 0 ≤ k) (k1 : k ≤ 18446744073709551615) (d0 : -9223372036854775808 ≤ d) (d1 : d ≤ 9223372036854775807) (hk : (L.length : Int) ≤ k) :
    Calls Tryz.prog 198 #[.pointer (some p), .int .u64 k, .int .i64 d] w fun e w' => e = .returned (.tuple #[.int .i64 (0), .int .i64 2]) ∧ Below w.heap.size w w' := by
  have CP := Lib.hid (epoint_no p F c l L k w h k0 k1 hk)
  clear h
  go_enter Tryz.func198, Tryz.ntmps198
  go_wp2_with (go_at_call 196; (with_reducible refine (CP.out).mono ?_); rintro e w1 ⟨rfl, hb9⟩; have HB1 := Lib.hid hb9; clear hb9)
  go_ret2
  exact ⟨rfl, HB1.out⟩
set_option maxRecDepth 100000 in
set_option maxHeartbeats 4000000 in
theorem esum_mode (p : Addr) (F : Nat → Prop) (c : Cfg) (l : Int) (L : List Int) (k d : Int) (w : World) (h : EX w p F c l L) (k0 : 0 ≤ k) (k1 : k ≤ 18446744073709551615) (d0 : -9223372036854775808 ≤ d) (d1 : d ≤ 9223372036854775807) (hk : k < (L.length : Int)) (hm : c.md = 2 ∧ d < 0) :
    Calls Tryz.prog 198 #[.pointer (some p), .int .u64 k, .int .i64 d] w fun e w' => e = .returned (.tuple #[.int .i64 (0), .int .i64 3]) ∧ Below w.heap.size w w' := by
  have CP := Lib.hid (epoint_yes p F c l L k w h k0 k1 hk)
  have FW : Hid (∀ w', Below w.heap.size w w' → _) := Lib.hid (fun w' hb2 => efalls_any p F c l L w' (h.up hb2))
  rw [show (c.md != 2) = false by simp [hm.1]] at FW
  have hd := hm.2
  clear h hm
  go_enter Tryz.func198, Tryz.ntmps198
  go_wp2_with (first
    | (go_at_call 196; (with_reducible refine (CP.out).mono ?_); rintro e w1 ⟨rfl, hb9⟩; have HB1 := Lib.hid hb9; clear hb9)
    | (go_at_call 202; (with_reducible refine (FW.out _ HB1.out).mono ?_); rintro e w2 ⟨rfl, hb9⟩; have HB2 := Lib.hid (below_call HB1.out hb9 (Nat.le_refl _)); clear hb9))
  go_ret2
  exact ⟨rfl, HB2.out⟩
set_option maxRecDepth 100000 in
set_option maxHeartbeats 4000000 in
theorem esum_over (p : Addr) (F : Nat → Prop) (c : Cfg) (l : Int) (L : List Int) (k d : Int) (w : World) (h : EX w p F c l L) (k0 : 0 ≤ k) (k1 : k ≤ 18446744073709551615) (d0 : -9223372036854775808 ≤ d) (d1 : d ≤ 9223372036854775807) (hk : k < (L.length : Int)) (hm : ¬ (c.md = 2 ∧ d < 0)) (hf : Wid.fit64 (num L k + d) = false) :
    Calls Tryz.prog 198 #[.pointer (some p), .int .u64 k, .int .i64 d] w fun e w' => e = .returned (.tuple #[.int .i64 (0), .int .i64 4]) ∧ Below w.heap.size w w' := by
  have hv : -9223372036854775808 ≤ num L k ∧ num L k ≤ 9223372036854775807 := by
    have h0 := h.in64
    obtain ⟨v, hv⟩ : ∃ v, L[k.toNat]? = some v := ⟨_, List.getElem?_eq_getElem (by omega)⟩
    have : num L k = v := by unfold num; rw [hv]; rfl
    rw [this]
    exact h0.at hv
  have CQ := Lib.hid (epoint_yes p F c l L k w h k0 k1 hk)
  have CP := Lib.hid (fun w => Wid.plus_any (num L k) d w hv.1 hv.2 d0 d1)
  rw [hf] at CP
  clear hf
  have FW : Hid (∀ w', Below w.heap.size w w' → _) := Lib.hid (fun w' hb2 => efalls_any p F c l L w' (h.up hb2))
  by_cases hd : d < 0
  · rw [show (c.md != 2) = true by simp; omega] at FW
    clear h hm hv
    go_enter Tryz.func198, Tryz.ntmps198
    go_wp2_with (first
      | (go_at_call 196; (with_reducible refine (CQ.out).mono ?_); rintro e w1 ⟨rfl, hb9⟩; have HB1 := Lib.hid hb9; clear hb9)
      | (go_at_call 202; (with_reducible refine (FW.out _ HB1.out).mono ?_); rintro e w2 ⟨rfl, hb9⟩; have HB2 := Lib.hid (below_call HB1.out hb9 (Nat.le_refl _)); clear hb9)
      | (go_at_call 203; (with_reducible refine (CP.out _).mono ?_); rintro e w3 ⟨rfl, hb9⟩; have HB3 := Lib.hid (below_call HB2.out hb9 (Nat.le_refl _)); clear hb9))
    go_ret2
    exact ⟨rfl, HB3.out⟩
  · clear h hm hv
    go_enter Tryz.func198, Tryz.ntmps198
    go_wp2_with (first
      | (go_at_call 196; (with_reducible refine (CQ.out).mono ?_); rintro e w1 ⟨rfl, hb9⟩; have HB1 := Lib.hid hb9; clear hb9)
      
      | (go_at_call 203; (with_reducible refine (CP.out _).mono ?_); rintro e w3 ⟨rfl, hb9⟩; have HB3 := Lib.hid (below_call HB1.out hb9 (Nat.le_refl _)); clear hb9))
    go_ret2
    exact ⟨rfl, HB3.out⟩
set_option maxRecDepth 100000 in
set_option maxHeartbeats 4000000 in
theorem esum_yes (p : Addr) (F : Nat → Prop) (c : Cfg) (l : Int) (L : List Int) (k d : Int) (w : World) (h : EX w p F c l L) (k0 : 0 ≤ k) (k1 : k ≤ 18446744073709551615) (d0 : -9223372036854775808 ≤ d) (d1 : d ≤ 9223372036854775807) (hk : k < (L.length : Int)) (hm : ¬ (c.md = 2 ∧ d < 0)) (hf : Wid.fit64 (num L k + d) = true) :
    Calls Tryz.prog 198 #[.pointer (some p), .int .u64 k, .int .i64 d] w fun e w' => e = .returned (.tuple #[.int .i64 (num L k + d), .int .i64 0]) ∧ Below w.heap.size w w' := by
  have hv : -9223372036854775808 ≤ num L k ∧ num L k ≤ 9223372036854775807 := by
    have h0 := h.in64
    obtain ⟨v, hv⟩ : ∃ v, L[k.toNat]? = some v := ⟨_, List.getElem?_eq_getElem (by omega)⟩
    have : num L k = v := by unfold num; rw [hv]; rfl
    rw [this]
    exact h0.at hv
  have CQ := Lib.hid (epoint_yes p F c l L k w h k0 k1 hk)
  have CP := Lib.hid (fun w => Wid.plus_any (num L k) d w hv.1 hv.2 d0 d1)
  have hfz := in64_fit hf
  rw [hf, (Wid.fit64_yes hfz.1 (by omega)).2] at CP
  obtain ⟨S, hS⟩ : ∃ S, num L k + d = S := ⟨_, rfl⟩
  rw [hS] at CP ⊢
  clear hf hfz hS
  have FW : Hid (∀ w', Below w.heap.size w w' → _) := Lib.hid (fun w' hb2 => efalls_any p F c l L w' (h.up hb2))
  by_cases hd : d < 0
  · rw [show (c.md != 2) = true by simp; omega] at FW
    clear h hm hv
    go_enter Tryz.func198, Tryz.ntmps198
    go_wp2_with (first
      | (go_at_call 196; (with_reducible refine (CQ.out).mono ?_); rintro e w1 ⟨rfl, hb9⟩; have HB1 := Lib.hid hb9; clear hb9)
      | (go_at_call 202; (with_reducible refine (FW.out _ HB1.out).mono ?_); rintro e w2 ⟨rfl, hb9⟩; have HB2 := Lib.hid (below_call HB1.out hb9 (Nat.le_refl _)); clear hb9)
      | (go_at_call 203; (with_reducible refine (CP.out _).mono ?_); rintro e w3 ⟨rfl, hb9⟩; have HB3 := Lib.hid (below_call HB2.out hb9 (Nat.le_refl _)); clear hb9))
    go_ret2
    exact ⟨rfl, HB3.out⟩
  · clear h hm hv
    go_enter Tryz.func198, Tryz.ntmps198
    go_wp2_with (first
      | (go_at_call 196; (with_reducible refine (CQ.out).mono ?_); rintro e w1 ⟨rfl, hb9⟩; have HB1 := Lib.hid hb9; clear hb9)
      
      | (go_at_call 203; (with_reducible refine (CP.out _).mono ?_); rintro e w3 ⟨rfl, hb9⟩; have HB3 := Lib.hid (below_call HB1.out hb9 (Nat.le_refl _)); clear hb9))
    go_ret2
    exact ⟨rfl, HB3.out⟩
def sumV (md : Int) (L : List Int) (k d : Int) : Int := if exCode md L k d = 0 then num L k + d else 0
theorem esum_any (p : Addr) (F : Nat → Prop) (c : Cfg) (l : Int) (L : List Int) (k d : Int) (w : World) (h : EX w p F c l L) (k0 : 0 ≤ k) (k1 : k ≤ 18446744073709551615) (d0 : -9223372036854775808 ≤ d) (d1 : d ≤ 9223372036854775807) :
    Calls Tryz.prog 198 #[.pointer (some p), .int .u64 k, .int .i64 d] w fun e w' => e = .returned (.tuple #[.int .i64 (sumV c.md L k d), .int .i64 (exCode c.md L k d)]) ∧ Below w.heap.size w w' := by
  by_cases hk : (L.length : Int) ≤ k
  · have e := ex_key (md := c.md) (d := d) hk
    rw [show sumV c.md L k d = 0 by unfold sumV; rw [e.1]; rfl, e.1]
    exact esum_no p F c l L k d w h k0 k1 d0 d1 hk
  have hk2 : k < (L.length : Int) := by omega
  by_cases hm : c.md = 2 ∧ d < 0
  · have e := ex_mode (md := c.md) (d := d) hk2 hm
    rw [show sumV c.md L k d = 0 by unfold sumV; rw [e.1]; rfl, e.1]
    exact esum_mode p F c l L k d w h k0 k1 d0 d1 hk2 hm
  cases hf : Wid.fit64 (num L k + d) with
  | true =>
    have e := ex_yes (md := c.md) hk2 hm hf
    rw [show sumV c.md L k d = num L k + d by unfold sumV; rw [e.1]; rfl, e.1]
    exact esum_yes p F c l L k d w h k0 k1 d0 d1 hk2 hm hf
  | false =>
    have e := ex_over (md := c.md) hk2 hm hf
    rw [show sumV c.md L k d = 0 by unfold sumV; rw [e.1]; rfl, e.1]
    exact esum_over p F c l L k d w h k0 k1 d0 d1 hk2 hm hf
set_option maxRecDepth 100000 in
set_option maxHeartbeats 4000000 in
theorem echeck_any (p : Addr) (F : Nat → Prop) (c : Cfg) (l : Int) (L : List Int) (k d : Int) (w : World) (h : EX w p F c l L) (k0 : 0 ≤ k) (k1 : k ≤ 18446744073709551615) (d0 : -9223372036854775808 ≤ d) (d1 : d ≤ 9223372036854775807) :
    Calls Tryz.prog 192 #[.pointer (some p), .int .u64 k, .int .i64 d] w fun e w' => e = .returned (.int .i64 (exCode c.md L k d)) ∧ Below w.heap.size w w' := by
  have CS := Lib.hid (esum_any p F c l L k d w h k0 k1 d0 d1)
  clear h
  go_enter Tryz.func192, Tryz.ntmps192
  go_wp2_with (go_at_call 198; (with_reducible refine (CS.out).mono ?_); rintro e w1 ⟨rfl, hb9⟩; have HB1 := Lib.hid hb9; clear hb9)
  go_ret
  exact ⟨rfl, HB1.out⟩
set_option maxRecDepth 100000 in
set_option maxHeartbeats 4000000 in
theorem eupd_no (p : Addr) (F : Nat → Prop) (c : Cfg) (l : Int) (L : List Int) (k d : Int) (w : World) (h : EX w p F c l L) (k0 : 0 ≤ k) (k1 : k ≤ 18446744073709551615) (d0 : -9223372036854775808 ≤ d) (d1 : d ≤ 9223372036854775807) (hz : exCode c.md L k d ≠ 0) :
    Calls Tryz.prog 197 #[.pointer (some p), .int .u64 k, .int .i64 d] w fun e w' => e = .returned (.int .i64 (exCode c.md L k d)) ∧ Below w.heap.size w w' := by
  have CS := Lib.hid (esum_any p F c l L k d w h k0 k1 d0 d1)
  obtain ⟨V, hV⟩ : ∃ V, exCode c.md L k d = V := ⟨_, rfl⟩
  rw [hV] at CS hz ⊢
  have hz2 : (V == 0) = false := by simpa using hz
  clear h hV
  go_enter Tryz.func197, Tryz.ntmps197
  go_wp2_with (go_at_call 198; (with_reducible refine (CS.out).mono ?_); rintro e w1 ⟨rfl, hb9⟩; have HB1 := Lib.hid hb9; clear hb9)
  go_ret
  exact ⟨rfl, HB1.out⟩
set_option maxRecDepth 100000 in
set_option maxHeartbeats 4000000 in
theorem eupd_yes (p : Addr) (F : Nat → Prop) (c : Cfg) (l : Int) (L : List Int) (k d : Int) (w : World) (h : EX w p F c l L) (k0 : 0 ≤ k) (k1 : k ≤ 18446744073709551615) (d0 : -9223372036854775808 ≤ d) (d1 : d ≤ 9223372036854775807) (hz : exCode c.md L k d = 0) :
    Calls Tryz.prog 197 #[.pointer (some p), .int .u64 k, .int .i64 d] w fun e w' => e = .returned (.int .i64 0) ∧ ∃ F', EX w' p F' c l (exRes c.md L k d) ∧ Kept F w w' ∧ (∀ q, F' q → F q ∨ w.heap.size ≤ q) := by
  have CS := Lib.hid (esum_any p F c l L k d w h k0 k1 d0 d1)
  have hx := ex_zero hz
  have hfz := in64_fit hx.2
  rw [show sumV c.md L k d = num L k + d from if_pos hz, hz] at CS
  rw [show exRes c.md L k d = L.set k.toNat (num L k + d) from if_pos hz]
  obtain ⟨S, hS⟩ : ∃ S, num L k + d = S := ⟨_, rfl⟩
  rw [hS] at CS hfz ⊢
  obtain ⟨hr, hok, hl0, hl1, hlk, hn1, hn8, b, gp, G, rfl, hb, hg, hGb, rfl⟩ := h
  have hbl := size_of_heap hb
  have c0w := grd_cell hb 0 (v := .pointer (some gp)) rfl
  have u1 : IntKind.i64.wrap k = k := IntWalk.i64_in _ ⟨by omega, by omega⟩
  have PT : Hid (∀ w', Below w.heap.size w w' → Calls Tryz.prog 200 #[.pointer (some gp), .int .i64 0, .int .i64 k, .int .i64 S] w' fun e w2 => (∃ b, e = .returned (.bool b)) ∧ ∃ G', PG w2 gp G' 1 L.length [L.set k.toNat S] ∧ Kept G w w2 ∧ (∀ q, G' q → G q ∨ w.heap.size ≤ q)) := Lib.hid (fun w' hb2 => (put_any gp G 1 L.length [L] 0 k S w' (pg_up hg hb2) (by omega) (by omega) (by omega) (by omega) hfz.1 hfz.2).mono (fun e w2 ⟨e1, G', h1, h2, h3⟩ => ⟨⟨_, e1⟩, G', by rw [← set_one L k0 hx.1 S]; exact h1, (Kept.of_below hb2).trans h2 (fun q hq h => h), fun q hq => (h3 q hq).elim .inl (fun h => .inr (Nat.le_trans hb2.size h))⟩))
  have HT : Hid (∀ w' G', PG w' gp G' 1 L.length [L.set k.toNat S] → Kept G w w' → (∀ k, G' k → G k ∨ w.heap.size ≤ k) → ∃ F', EX w' ⟨b, 0, none⟩ F' c l (L.set k.toNat S) ∧ Kept (fun k => k = b ∨ G k) w w' ∧ (∀ q, F' q → (q = b ∨ G q) ∨ w.heap.size ≤ q)) := Lib.hid (fun w' G' h1 h2 h3 => ex_turn hr hok hl0 hl1 hlk hn1 hn8 hb hGb (List.length_set ..) h1 h2 h3)
  have HX := Lib.hid hfz
  clear hb hg hz hx hfz hS
  go_enter Tryz.func197, Tryz.ntmps197
  go_wp2_with (go_at_call 198; (with_reducible refine (CS.out).mono ?_); rintro e w1 ⟨rfl, hb9⟩; have HB1 := Lib.hid hb9; have x0 := cell_up c0w hb9; clear hb9)
  go_wp2_with (go_at_call 200; (with_reducible refine (PT.out _ HB1.out).mono ?_); rintro e w6 ⟨⟨bb, rfl⟩, G6, hp6, hk6, hf6⟩; have HP6 := Lib.hid hp6; have HK6 := Lib.hid hk6; have HF6 := Lib.hid hf6; clear hp6 hk6 hf6)
  go_ret
  exact ⟨rfl, HT.out _ _ HP6.out HK6.out HF6.out⟩
theorem eupd_any (p : Addr) (F : Nat → Prop) (c : Cfg) (l : Int) (L : List Int) (k d : Int) (w : World) (h : EX w p F c l L) (k0 : 0 ≤ k) (k1 : k ≤ 18446744073709551615) (d0 : -9223372036854775808 ≤ d) (d1 : d ≤ 9223372036854775807) :
    Calls Tryz.prog 197 #[.pointer (some p), .int .u64 k, .int .i64 d] w fun e w' => e = .returned (.int .i64 (exCode c.md L k d)) ∧ ∃ F', EX w' p F' c l (exRes c.md L k d) ∧ Kept F w w' ∧ (∀ q, F' q → F q ∨ w.heap.size ≤ q) := by
  by_cases hz : exCode c.md L k d = 0
  · rw [hz]
    exact eupd_yes p F c l L k d w h k0 k1 d0 d1 hz
  · rw [show exRes c.md L k d = L from if_neg hz]
    exact (eupd_no p F c l L k d w h k0 k1 d0 d1 hz).mono (fun e w' h2 => ⟨h2.1, F, h.up h2.2, Kept.of_below h2.2, fun q hq => .inl hq⟩)
end Go.Proofs.YtkflggojiiebeaaGreat.Exa

namespace Go.Proofs.YtkflggojiiebeaaGreat.Exa
open Go Go.RowKit Lw Grd Lin Con Shp Sk
set_option linter.unusedVariables false
set_option linter.unusedSimpArgs false
/-- An array of the document at p, in the blocks F. -/
def DA (w : World) (p : Addr) (F : Nat → Prop) (c : Cfg) (l : Int) (L : List Int) : Prop :=
  c.Ok ∧ L.length ≤ 128 ∧ In64 L ∧ ∃ (b g cap : Nat), p = ⟨b, 0, none⟩ ∧ w.heap[b]? = some (.cells #[.int .i64 c.bt, .int .i64 c.rw, .int .i64 c.wd, .int .i64 c.md, .int .u64 c.sd, .int .i64 l, .slice (some ⟨g, 0, none⟩) L.length cap] 138 (0, 0)) ∧ Ord.Mid w g 0 L ∧ L.length ≤ cap ∧ cap ≤ maxLen ∧ g ≠ b ∧ F = (fun k => k = b ∨ k = g)
theorem DA.keep {w' : World} {H : Nat → Prop} {w : World} {p : Addr} {F : Nat → Prop} {c : Cfg} {l : Int} {L : List Int} (h : DA w p F c l L) (hk : Kept H w w') (hf : ∀ k, F k → ¬ H k) : DA w' p F c l L := by
  obtain ⟨h1, h2, h3, b, g, cap, rfl, hb, hm, h4, h5, h6, rfl⟩ := h
  exact ⟨h1, h2, h3, b, g, cap, rfl, hk.heap hb (hf b (.inl rfl)), hm.keep hk (hf g (.inr rfl)), h4, h5, h6, rfl⟩
theorem DA.lt {w : World} {p : Addr} {F : Nat → Prop} {c : Cfg} {l : Int} {L : List Int} (h : DA w p F c l L) (k : Nat) (hk : F k) : k < w.heap.size := by
  obtain ⟨h1, h2, h3, b, g, cap, rfl, hb, hm, h4, h5, h6, rfl⟩ := h
  rcases hk with rfl | rfl
  · exact size_of_heap hb
  · exact hm.lt
def daT (p : Addr) (F : Nat → Prop) (c : Cfg) (l : Int) (L : List Int) : Thing where
  I := fun w => DA w p F c l L
  F := F
  keep := fun w w' H h hk hf => h.keep hk hf
  lt := fun w h k hk => h.lt k hk
end Go.Proofs.YtkflggojiiebeaaGreat.Exa

namespace Go.Proofs.YtkflggojiiebeaaGreat.Exa
open Go Go.RowKit Lw Grd Lin Con Shp Sk
set_option linter.unusedVariables false
set_option linter.unusedSimpArgs false
def eA : Cfg := ⟨2, 1, 2, 1, 0⟩
theorem u1 : exCode eA.md [0, 0] 1 5 = 0 ∧ exRes eA.md [0, 0] 1 5 = [0, 5] := by decide
theorem u2 : exCode eA.md [0, 5] 2 5 = 2 ∧ exRes eA.md [0, 5] 2 5 = [0, 5] := by decide
end Go.Proofs.YtkflggojiiebeaaGreat.Exa

namespace Go.Proofs.YtkflggojiiebeaaGreat.Exa
open Go Go.RowKit Lw Grd Lin Con Shp Sk
set_option linter.unusedVariables false
set_option linter.unusedSimpArgs false
theorem Have.perm {w0 w : World} {ts us : List Thing} (hp : ts.Perm us) : Have w0 w ts → Have w0 w us := by
  induction hp with
  | nil => exact fun h => h
  | cons t hp ih =>
    intro h
    exact ⟨h.1, h.2.1, fun u hu => h.2.2.1 u (hp.mem_iff.2 hu), ih h.2.2.2⟩
  | swap a b l =>
    intro h
    obtain ⟨h1, h2, h3, h4, h5, h6, h7⟩ := h
    exact ⟨h4, h5, fun u hu => by
      rcases List.mem_cons.1 hu with rfl | hu
      · exact fun k hk hk2 => h3 a (by simp) k hk2 hk
      · exact h6 u hu, h1, h2, fun u hu => h3 u (by simp [hu]), h7⟩
  | trans _ _ ih1 ih2 => exact fun h => ih2 (ih1 h)
abbrev Opk := Int × Int × Int
/-- A row of ops, handed in. -/
structure OpkV (w : World) (A : Option Addr) (n c : Nat) (qs : List Opk) : Prop where
  nil : A = none → n = 0 ∧ c = 0
  nc : n ≤ c
  cm : c ≤ maxLen
  len : qs.length = n
  each : ∀ (i : Nat) q, qs[i]? = some q → ∃ a, A = some a ∧ w.cell? (a.add (i * 3)) = some (.int .i64 (q.1)) ∧ w.cell? (a.add (i * 3 + 1)) = some (.int .u64 (q.2.1)) ∧ w.cell? (a.add (i * 3 + 2)) = some (.int .i64 (q.2.2)) ∧ (-9223372036854775808 ≤ (q.1) ∧ (q.1) ≤ 9223372036854775807) ∧ (0 ≤ (q.2.1) ∧ (q.2.1) ≤ 18446744073709551615) ∧ (-9223372036854775808 ≤ (q.2.2) ∧ (q.2.2) ≤ 9223372036854775807)
theorem OpkV.at {w : World} {A : Option Addr} {n c : Nat} {qs : List Opk} (h : OpkV w A n c qs) {i : Nat} {q : Opk} (hq : qs[i]? = some q) : ∃ (a : Addr) (g o : Nat), A = some a ∧ a.add (i * 3) = ⟨g, o, none⟩ ∧ w.cell? ⟨g, o, none⟩ = some (.int .i64 q.1) ∧ w.cell? ⟨g, o + 1, none⟩ = some (.int .u64 q.2.1) ∧ w.cell? ⟨g, o + 2, none⟩ = some (.int .i64 q.2.2) ∧ (0 ≤ q.2.1 ∧ q.2.1 ≤ 18446744073709551615) ∧ (-9223372036854775808 ≤ q.2.2 ∧ q.2.2 ≤ 9223372036854775807) := by
  obtain ⟨a, e, h1, h2, h3, _, h5, h6⟩ := h.each i q hq
  rw [← add_add'] at h2 h3
  have hs : (a.add (i * 3)).spot = none := by
    unfold World.cell? at h1
    split at h1
    · split at h1
      · cases h1
      · rename_i hs; simpa using hs
    · cases h1
  obtain ⟨ad, had⟩ : ∃ ad, a.add (i * 3) = ad := ⟨_, rfl⟩
  rw [had] at h1 h2 h3 hs
  obtain ⟨g, o, sp⟩ := ad
  simp only at hs
  subst hs
  rw [Ord.add_at] at h2 h3
  exact ⟨a, g, o, e, had, h1, h2, h3, h5, h6⟩
def ptV (L : List Int) (k : Int) : Int := if (L.length : Int) ≤ k then 0 else num L k
def ptC (L : List Int) (k : Int) : Int := if (L.length : Int) ≤ k then 2 else 0
theorem epoint_any (p : Addr) (F : Nat → Prop) (c : Cfg) (l : Int) (L : List Int) (k : Int) (w : World) (h : EX w p F c l L) (k0 : 0 ≤ k) (k1 : k ≤ 18446744073709551615) :
    Calls Tryz.prog 196 #[.pointer (some p), .int .u64 k] w fun e w' => e = .returned (.tuple #[.int .i64 (ptV L k), .int .i64 (ptC L k)]) ∧ Below w.heap.size w w' := by
  unfold ptV ptC
  by_cases hk : (L.length : Int) ≤ k
  · rw [if_pos hk, if_pos hk]
    exact epoint_no p F c l L k w h k0 k1 hk
  · rw [if_neg hk, if_neg hk]
    exact epoint_yes p F c l L k w h k0 k1 (by omega)
end Go.Proofs.YtkflggojiiebeaaGreat.Exa

namespace Go.Proofs.YtkflggojiiebeaaGreat.Lev
open Go Go.RowKit Lw Grd Lin Con Shp Sk Exa
set_option linter.unusedVariables false
set_option linter.unusedSimpArgs false
set_option maxRecDepth 100000 in
set_option maxHeartbeats 4000000 in
theorem vnew_A (c : Cfg) (l : Int) (w : World) (h : c.Ok) (l0 : -9223372036854775808 ≤ l) (l1 : l ≤ 9223372036854775807) (hx : exactB c l = true) :
    Calls Tryz.prog 44 #[.agg #[.int .i64 c.bt, .int .i64 c.rw, .int .i64 c.wd, .int .i64 c.md, .int .u64 c.sd], .int .i64 l] w fun e w' => ∃ (p : Addr) (F : Nat → Prop), e = .returned (.tuple #[.iface 173 (.pointer (some p)), .int .i64 0]) ∧ EX w' p F c l (List.replicate (keys c l).toNat 0) ∧ (∀ k, F k → w.heap.size ≤ k) ∧ Below w.heap.size w w' := by
  have hk : 1 ≤ keys c l := (of_decide_eq_true hx).1
  have CK := Lib.hid (fun w => keys_any c l w h l0 l1)
  have CX := Lib.hid (fun w => exact_any c l w h l0 l1)
  have hkb : (keys c l == 0) = false := by simp; omega
  rw [hx] at CX
  have CN := Lib.hid (fun w => enew_yes c l w h l0 l1 hx)
  obtain ⟨K, hK⟩ : ∃ x, keys c l = x := ⟨_, rfl⟩
  rw [hK] at CK hkb
  have HBX : Hid (Have w (w.alloc (.cells #[.int .i64 c.bt, .int .i64 c.rw, .int .i64 c.wd, .int .i64 c.md, .int .u64 c.sd] 24)) [boxT w.heap.size 24 #[.int .i64 c.bt, .int .i64 c.rw, .int .i64 c.wd, .int .i64 c.md, .int .u64 c.sd]]) := Lib.hid (box_new w _ _)
  clear hx h hk hK
  go_enter Tryz.func44, Tryz.ntmps44
  go_wp2_with (first
    | (go_at_call 46; (with_reducible refine (CK.out _).mono ?_); rintro e w1 ⟨rfl, hb9⟩; have HV1 := Lib.hid (HBX.out.up hb9); obtain ⟨x0, x1, x2, x3, x4⟩ := box5 HV1.out.i0; clear hb9)
    | (go_at_call 83; (with_reducible refine (CX.out _).mono ?_); rintro e w2 ⟨rfl, hb9⟩; clear x0 x1 x2 x3 x4; have HV2 := Lib.hid (HV1.out.up hb9); obtain ⟨x0, x1, x2, x3, x4⟩ := box5 HV2.out.i0; clear hb9)
    | (go_at_call 84; (with_reducible refine (CN.out _).mono ?_); rintro e w3 ⟨p, F, rfl, h1, h2, hb9⟩; have H1 := Lib.hid h1; have H2 : Hid (∀ k, F k → w.heap.size ≤ k) := Lib.hid (fun k hk => Nat.le_trans HV2.out.below.size (h2 k hk)); have HB2 := Lib.hid (below_call HV2.out.below hb9 (Nat.le_refl _)); clear h1 h2 hb9))
  go_ret2
  exact ⟨p, F, rfl, H1.out, H2.out, HB2.out⟩
set_option maxRecDepth 100000 in
set_option maxHeartbeats 4000000 in
theorem vnew_S (c : Cfg) (l : Int) (w : World) (h : c.Ok) (l0 : -9223372036854775808 ≤ l) (l1 : l ≤ 9223372036854775807) (hk : 1 ≤ keys c l) (hx : exactB c l = false) :
    Calls Tryz.prog 44 #[.agg #[.int .i64 c.bt, .int .i64 c.rw, .int .i64 c.wd, .int .i64 c.md, .int .u64 c.sd], .int .i64 l] w fun e w' => ∃ (p : Addr) (F : Nat → Prop), e = .returned (.tuple #[.iface 176 (.pointer (some p)), .int .i64 0]) ∧ SK w' p F c l (zerosL (rws c) (wds c)) ∧ (∀ k, F k → w.heap.size ≤ k) ∧ Below w.heap.size w w' := by
  have CK := Lib.hid (fun w => keys_any c l w h l0 l1)
  have CX := Lib.hid (fun w => exact_any c l w h l0 l1)
  have hkb : (keys c l == 0) = false := by simp; omega
  rw [hx] at CX
  have CN := Lib.hid (fun w => snew_yes c l w h l0 l1 hk)
  obtain ⟨K, hK⟩ : ∃ x, keys c l = x := ⟨_, rfl⟩
  rw [hK] at CK hkb
  have HBX : Hid (Have w (w.alloc (.cells #[.int .i64 c.bt, .int .i64 c.rw, .int .i64 c.wd, .int .i64 c.md, .int .u64 c.sd] 24)) [boxT w.heap.size 24 #[.int .i64 c.bt, .int .i64 c.rw, .int .i64 c.wd, .int .i64 c.md, .int .u64 c.sd]]) := Lib.hid (box_new w _ _)
  clear hx h hk hK
  go_enter Tryz.func44, Tryz.ntmps44
  go_wp2_with (first
    | (go_at_call 46; (with_reducible refine (CK.out _).mono ?_); rintro e w1 ⟨rfl, hb9⟩; have HV1 := Lib.hid (HBX.out.up hb9); obtain ⟨x0, x1, x2, x3, x4⟩ := box5 HV1.out.i0; clear hb9)
    | (go_at_call 83; (with_reducible refine (CX.out _).mono ?_); rintro e w2 ⟨rfl, hb9⟩; clear x0 x1 x2 x3 x4; have HV2 := Lib.hid (HV1.out.up hb9); obtain ⟨x0, x1, x2, x3, x4⟩ := box5 HV2.out.i0; clear hb9)
    | (go_at_call 85; (with_reducible refine (CN.out _).mono ?_); rintro e w3 ⟨p, F, rfl, h1, h2, hb9⟩; have H1 := Lib.hid h1; have H2 : Hid (∀ k, F k → w.heap.size ≤ k) := Lib.hid (fun k hk => Nat.le_trans HV2.out.below.size (h2 k hk)); have HB2 := Lib.hid (below_call HV2.out.below hb9 (Nat.le_refl _)); clear h1 h2 hb9))
  go_ret2
  exact ⟨p, F, rfl, H1.out, H2.out, HB2.out⟩
end Go.Proofs.YtkflggojiiebeaaGreat.Lev

namespace Go.Proofs.YtkflggojiiebeaaGreat.Lw
open Go Go.RowKit
set_option linter.unusedVariables false
def Asun : List Thing → Prop
  | [] => True
  | t :: ts => (∀ u ∈ ts, ∀ k, t.F k → ¬ u.F k) ∧ Asun ts
theorem Asun.append : ∀ {ts us : List Thing}, Asun (ts ++ us) ↔ Asun ts ∧ Asun us ∧ ∀ t ∈ ts, ∀ u ∈ us, ∀ k, t.F k → ¬ u.F k
  | [], us => by simp [Asun]
  | t :: ts, us => by
    have ih := Asun.append (ts := ts) (us := us)
    constructor
    · intro h
      have h2 := ih.1 h.2
      refine ⟨⟨fun u hu => h.1 u (by simp [hu]), h2.1⟩, h2.2.1, fun s hs u hu => ?_⟩
      rcases List.mem_cons.1 hs with rfl | hs
      · exact h.1 u (by simp [hu])
      · exact h2.2.2 s hs u hu
    · intro h
      refine ⟨fun u hu => ?_, ih.2 ⟨h.1.2, h.2.1, fun s hs => h.2.2 s (by simp [hs])⟩⟩
      rcases List.mem_append.1 hu with h1 | h1
      · exact h.1.1 u h1
      · exact h.2.2 t (by simp) u h1
/-- Many things as one. -/
def manyT (ts : List Thing) : Thing where
  I := fun w => (∀ t ∈ ts, t.I w) ∧ Asun ts
  F := fun k => ∃ t ∈ ts, t.F k
  keep := fun w w' H h hk hf => ⟨fun t ht => t.keep w w' H (h.1 t ht) hk (fun k h1 => hf k ⟨t, ht, h1⟩), h.2⟩
  lt := fun w h k hk => by
    obtain ⟨t, ht, h1⟩ := hk
    exact t.lt w (h.1 t ht) k h1
/-- The things ts, apart, each in blocks of F0 or in such as were made behind w0; no other block of w0 was changed. -/
def Hold (F0 : Nat → Prop) (w0 w : World) (ts : List Thing) : Prop :=
  Kept F0 w0 w ∧ (∀ t ∈ ts, t.I w ∧ ∀ k, t.F k → F0 k ∨ w0.heap.size ≤ k) ∧ Asun ts
theorem Hold.start {w : World} {ts : List Thing} (h : (manyT ts).I w) : Hold (manyT ts).F w w ts :=
  ⟨Kept.refl _ _, fun t ht => ⟨h.1 t ht, fun k hk => .inl ⟨t, ht, hk⟩⟩, h.2⟩
theorem Hold.many {F0 : Nat → Prop} {w0 w : World} {ts : List Thing} (h : Hold F0 w0 w ts) : (manyT ts).I w ∧ Kept F0 w0 w ∧ (∀ k, (manyT ts).F k → F0 k ∨ w0.heap.size ≤ k) :=
  ⟨⟨fun t ht => (h.2.1 t ht).1, h.2.2⟩, h.1, fun k ⟨t, ht, hk⟩ => (h.2.1 t ht).2 k hk⟩
theorem Hold.up {F0 : Nat → Prop} {w0 w w' : World} {ts : List Thing} (h : Hold F0 w0 w ts) (hb : Below w.heap.size w w') : Hold F0 w0 w' ts :=
  ⟨Kept.then h.1 hb, fun t ht => ⟨t.keep w w' (fun _ => False) (h.2.1 t ht).1 (Kept.of_below hb) (fun _ _ h => h), (h.2.1 t ht).2⟩, h.2.2⟩
theorem Hold.push {F0 : Nat → Prop} {w0 w w' : World} {ts : List Thing} (h : Hold F0 w0 w ts) (t : Thing) (hb : Below w.heap.size w w') (ht : t.I w') (hn : ∀ k, t.F k → w.heap.size ≤ k) : Hold F0 w0 w' (t :: ts) := by
  have h2 := h.up hb
  refine ⟨h2.1, fun u hu => ?_, fun u hu k hk hu2 => ?_, h2.2.2⟩
  · rcases List.mem_cons.1 hu with rfl | hu
    · exact ⟨ht, fun k hk => .inr (Nat.le_trans h.1.size (hn k hk))⟩
    · exact h2.2.1 u hu
  · have h3 := u.lt w (h.2.1 u hu).1 k hu2
    have h4 := hn k hk
    omega
/-- One of them is turned by a call. -/
theorem Hold.turn {F0 : Nat → Prop} {w0 w w' : World} {fs : List Thing} {t : Thing} {ts : List Thing} (h : Hold F0 w0 w (fs ++ t :: ts)) (t' : Thing) (ht : t'.I w') (hk : Kept t.F w w') (hF : ∀ k, t'.F k → t.F k ∨ w.heap.size ≤ k) : Hold F0 w0 w' (fs ++ t' :: ts) := by
  have hap := Asun.append.1 h.2.2
  have htI := h.2.1 t (by simp)
  have hoth : ∀ u, u ∈ fs ∨ u ∈ ts → ∀ k, u.F k → ¬ t.F k := by
    intro u hu k h1 h2
    rcases hu with hu | hu
    · exact hap.2.2 u hu t (by simp) k h1 h2
    · exact hap.2.1.1 u hu k h2 h1
  have hin : ∀ u, u ∈ fs ∨ u ∈ ts → u ∈ fs ++ t :: ts := by
    intro u hu
    rcases hu with hu | hu
    · simp [hu]
    · simp [hu]
  have hnew : ∀ u, u ∈ fs ∨ u ∈ ts → ∀ k, t'.F k → ¬ u.F k := by
    intro u hu k h1 h2
    rcases hF k h1 with h3 | h3
    · exact hoth u hu k h2 h3
    · have := u.lt w (h.2.1 u (hin u hu)).1 k h2
      omega
  refine ⟨?_, fun u hu => ?_, ?_⟩
  · refine ⟨hk.os.trans h.1.os, hk.tape.trans h.1.tape, hk.output.trans h.1.output, Nat.le_trans h.1.size hk.size, fun k hk0 hF0 => ?_⟩
    refine (hk.block k (Nat.lt_of_lt_of_le hk0 h.1.size) fun hG => ?_).trans (h.1.block k hk0 hF0)
    rcases htI.2 k hG with h1 | h1
    · exact hF0 h1
    · omega
  · rcases List.mem_append.1 hu with h1 | h1
    · exact ⟨u.keep w w' t.F (h.2.1 u (hin u (.inl h1))).1 hk (hoth u (.inl h1)), (h.2.1 u (hin u (.inl h1))).2⟩
    · rcases List.mem_cons.1 h1 with rfl | h1
      · refine ⟨ht, fun k hk2 => ?_⟩
        rcases hF k hk2 with h3 | h3
        · exact htI.2 k h3
        · exact .inr (Nat.le_trans h.1.size h3)
      · exact ⟨u.keep w w' t.F (h.2.1 u (hin u (.inr h1))).1 hk (hoth u (.inr h1)), (h.2.1 u (hin u (.inr h1))).2⟩
  · refine Asun.append.2 ⟨hap.1, ⟨fun u hu k h1 h2 => hnew u (.inr hu) k h1 h2, hap.2.1.2⟩, fun s hs u hu k h1 h2 => ?_⟩
    rcases List.mem_cons.1 hu with rfl | hu
    · exact hnew s (.inl hs) k h2 h1
    · exact hap.2.2 s hs u (by simp [hu]) k h1 h2
theorem Hold.i {F0 : Nat → Prop} {w0 w : World} {ts : List Thing} (h : Hold F0 w0 w ts) {t : Thing} (ht : t ∈ ts) : t.I w := (h.2.1 t ht).1
theorem Have.each {w0 w : World} : ∀ {ts us : List Thing}, Have w0 w (manyT ts :: us) → Have w0 w (ts ++ us)
  | [], us, h => h.2.2.2
  | t :: ts, us, h => by
    refine ⟨h.1.1 t (by simp), fun k hk => h.2.1 k ⟨t, by simp, hk⟩, fun u hu k hk => ?_, Have.each (ts := ts) ⟨⟨fun s hs => h.1.1 s (by simp [hs]), h.1.2.2⟩, fun k ⟨s, hs, hk⟩ => h.2.1 k ⟨s, by simp [hs], hk⟩, fun u hu k ⟨s, hs, hk⟩ => h.2.2.1 u hu k ⟨s, by simp [hs], hk⟩, h.2.2.2⟩⟩
    rcases List.mem_append.1 hu with h1 | h1
    · exact h.1.2.1 u h1 k hk
    · exact h.2.2.1 u h1 k ⟨t, by simp, hk⟩
end Go.Proofs.YtkflggojiiebeaaGreat.Lw

namespace Go.Proofs.YtkflggojiiebeaaGreat.Pcs
set_option linter.unusedVariables false
/-- The level of the greatest piece that begins at lo and ends before e. -/
def GL (B lo e L : Nat) : Prop := L ≤ B ∧ 2 ^ L ∣ lo ∧ lo + 2 ^ L ≤ e ∧ (L = B ∨ ¬ 2 ^ (L + 1) ∣ lo ∨ e < lo + 2 ^ (L + 1))
theorem pow_dvd {a b : Nat} (h : a ≤ b) : 2 ^ a ∣ 2 ^ b := Nat.pow_dvd_pow 2 h
theorem pow_le {a b : Nat} (h : a ≤ b) : 2 ^ a ≤ 2 ^ b := Nat.pow_le_pow_right (by omega) h
theorem pow_lt {a b : Nat} (h : 2 ^ a < 2 ^ b) : a < b := by
  rcases Nat.lt_or_ge a b with g | g
  · exact g
  · have := pow_le g
    omega
theorem pow_pos (a : Nat) : 1 ≤ 2 ^ a := Nat.one_le_two_pow
theorem pow_next (a : Nat) : 2 ^ (a + 1) = 2 ^ a + 2 ^ a := by rw [Nat.pow_succ]; omega
theorem GL.no_lt {B lo e L L' : Nat} (h : GL B lo e L) (g : GL B lo e L') : ¬ L < L' := by
  intro hl
  rcases h.2.2.2 with e1 | e1 | e1
  · have := g.1
    omega
  · exact e1 (Nat.dvd_trans (pow_dvd hl) g.2.1)
  · have := pow_le (show L + 1 ≤ L' from hl)
    have := g.2.2.1
    omega
theorem GL.uniq {B lo e L L' : Nat} (h : GL B lo e L) (g : GL B lo e L') : L = L' := by
  have h1 := h.no_lt g
  have h2 := g.no_lt h
  omega
/-- The pieces from lo on, up to e, each as level and index. -/
inductive Cov (B e : Nat) : Nat → List (Nat × Nat) → Prop
  | nil : Cov B e e []
  | cons {lo L : Nat} {l : List (Nat × Nat)} : GL B lo e L → Cov B e (lo + 2 ^ L) l → Cov B e lo ((L, lo / 2 ^ L) :: l)
theorem Cov.le {B e lo : Nat} {l : List (Nat × Nat)} (h : Cov B e lo l) : lo ≤ e := by
  cases h with
  | nil => exact Nat.le_refl _
  | @cons _ L _ g _ => have := g.2.2.1; have := pow_pos L; omega
theorem Cov.uniq {B e lo : Nat} {l m : List (Nat × Nat)} (h : Cov B e lo l) (g : Cov B e lo m) : l = m := by
  induction h generalizing m with
  | nil =>
    cases g with
    | nil => rfl
    | @cons _ L _ g1 _ => have := g1.2.2.1; have := pow_pos L; omega
  | @cons lo L l h1 h2 ih =>
    cases g with
    | nil => have := h1.2.2.1; have := pow_pos L; omega
    | @cons _ L' _ g1 g2 =>
      obtain rfl := h1.uniq g1
      rw [ih g2]
theorem Cov.fall {B e lo : Nat} {l : List (Nat × Nat)} (h : Cov B e lo l) : ∀ k, 2 ^ k ∣ lo → e < lo + 2 ^ k → k ≤ B + 1 → (∀ p ∈ l, p.1 < k) ∧ (l.map (·.1)).Pairwise (· > ·) := by
  induction h with
  | nil => intro k _ _ _; exact ⟨fun p hp => by simp at hp, List.Pairwise.nil⟩
  | @cons lo L l g _ ih =>
    intro k hk he hkB
    have hL : L < k := pow_lt (by have := g.2.2.1; omega)
    have hn : e < lo + 2 ^ L + 2 ^ L := by
      rcases g.2.2.2 with e1 | e1 | e1
      · obtain rfl : k = B + 1 := by omega
        rw [pow_next] at he
        subst e1
        omega
      · exact absurd (Nat.dvd_trans (pow_dvd hL) hk) e1
      · rw [pow_next] at e1
        omega
    have hd : 2 ^ L ∣ lo + 2 ^ L := Nat.dvd_add g.2.1 (Nat.dvd_refl _)
    obtain ⟨h1, h2⟩ := ih L hd hn (by have := g.1; omega)
    refine ⟨fun p hp => ?_, ?_⟩
    · rcases List.mem_cons.1 hp with rfl | hp
      · exact hL
      · have := h1 p hp
        omega
    · rw [List.map_cons, List.pairwise_cons]
      refine ⟨fun x hx => ?_, h2⟩
      obtain ⟨p, hp, rfl⟩ := List.mem_map.1 hx
      exact h1 p hp
theorem down {B lo e L L' : Nat} (g : GL B lo e L) (g' : GL B (lo + 2 ^ L) e L') (hle : L' ≤ L) (he : e ≤ 2 ^ B) : 2 ^ (L' + 1) ∣ lo + 2 ^ L ∧ e < lo + 2 ^ L + 2 ^ (L' + 1) := by
  have hp := pow_pos L'
  have hLB : ¬ L = B := by
    rintro rfl
    have h1 := g.2.2.1
    have h2 := g'.2.2.1
    omega
  have hd : 2 ^ (L' + 1) ∣ lo + 2 ^ L := by
    by_cases hl : L' < L
    · exact Nat.dvd_add (Nat.dvd_trans (pow_dvd hl) g.2.1) (pow_dvd hl)
    · obtain rfl : L' = L := by omega
      by_cases hx : 2 ^ (L' + 1) ∣ lo
      · exfalso
        have h2 := g'.2.2.1
        rcases g.2.2.2 with e1 | e1 | e1
        · exact hLB e1
        · exact e1 hx
        · rw [pow_next] at e1
          omega
      · obtain ⟨q, hq⟩ := g.2.1
        rcases Nat.mod_two_eq_zero_or_one q with h | h
        · exfalso
          apply hx
          refine ⟨q / 2, ?_⟩
          rw [Nat.pow_succ, Nat.mul_assoc, show 2 * (q / 2) = q by omega]
          exact hq
        · refine ⟨q / 2 + 1, ?_⟩
          rw [Nat.pow_succ, Nat.mul_assoc, show 2 * (q / 2 + 1) = q + 1 by omega, Nat.mul_add, Nat.mul_one, hq]
  refine ⟨hd, ?_⟩
  rcases g'.2.2.2 with e1 | e1 | e1
  · have := g.1
    omega
  · exact absurd hd e1
  · exact e1
/-- The levels rise, and then fall. -/
theorem Cov.rise {B e lo : Nat} {l : List (Nat × Nat)} (h : Cov B e lo l) (he : e ≤ 2 ^ B) : ∃ A C, l = A ++ C ∧ (A.map (·.1)).Pairwise (· < ·) ∧ (C.map (·.1)).Pairwise (· > ·) := by
  induction h with
  | nil => exact ⟨[], [], rfl, List.Pairwise.nil, List.Pairwise.nil⟩
  | @cons lo L l g hc ih =>
    cases hc with
    | nil => exact ⟨[(L, lo / 2 ^ L)], [], rfl, by simp, List.Pairwise.nil⟩
    | @cons _ L' l' g' hc' =>
      by_cases hl : L < L'
      · obtain ⟨A, C, e1, hA, hC⟩ := ih
        cases A with
        | nil =>
          rw [List.nil_append] at e1
          exact ⟨[(L, lo / 2 ^ L)], C, by rw [e1]; rfl, by simp, hC⟩
        | cons a A =>
          rw [List.cons_append] at e1
          injection e1 with e2 e3
          refine ⟨(L, lo / 2 ^ L) :: a :: A, C, by rw [← e2, e3]; rfl, ?_, hC⟩
          rw [List.map_cons, List.pairwise_cons]
          refine ⟨fun x hx => ?_, hA⟩
          rw [List.map_cons] at hx hA
          have h1 := (List.pairwise_cons.1 hA).1
          rcases List.mem_cons.1 hx with rfl | hx
          · rw [← e2]; exact hl
          · have := h1 x hx
            rw [← e2] at this
            show L < x
            have h4 : L' < x := this
            omega
      · obtain ⟨d1, d2⟩ := down g g' (by omega) he
        have hf := (Cov.cons g' hc').fall (L' + 1) d1 d2 (by have := g'.1; omega)
        exact ⟨[(L, lo / 2 ^ L)], _, rfl, by simp, hf.2⟩
/-- No two that follow each other are the halves of one. -/
theorem Cov.halves {B e lo : Nat} {l : List (Nat × Nat)} (h : Cov B e lo l) (he : e ≤ 2 ^ B) : ∀ (i : Nat) (p q : Nat × Nat), l[i]? = some p → l[i + 1]? = some q → p.1 = q.1 → q.2 % 2 = 0 := by
  induction h with
  | nil => intro i p q h1; simp at h1
  | @cons lo L l g hc ih =>
    intro i p q h1 h2 h3
    cases i with
    | succ i => exact ih i p q h1 h2 h3
    | zero =>
      simp at h1
      subst h1
      cases hc with
      | nil => simp at h2
      | @cons _ L' l' g' hc' =>
        simp at h2
        subst h2
        obtain rfl : L = L' := h3
        obtain ⟨q, hq⟩ := (down g g' (Nat.le_refl _) he).1
        show (lo + 2 ^ L) / 2 ^ L % 2 = 0
        rw [hq, Nat.pow_succ, Nat.mul_assoc, Nat.mul_div_cancel_left _ (pow_pos L)]
        omega
/-- Each piece is one, from where the one before it ends. -/
theorem Cov.at {B e lo : Nat} {l : List (Nat × Nat)} (h : Cov B e lo l) : ∀ (i : Nat) (p : Nat × Nat), l[i]? = some p → p.1 ≤ B ∧ lo ≤ p.2 * 2 ^ p.1 ∧ p.2 * 2 ^ p.1 + 2 ^ p.1 ≤ e := by
  induction h with
  | nil => intro i p h1; simp at h1
  | @cons lo L l g hc ih =>
    intro i p h1
    cases i with
    | zero =>
      simp at h1
      subst h1
      have h2 := Nat.div_mul_cancel g.2.1
      refine ⟨g.1, ?_, ?_⟩
      · show lo ≤ lo / 2 ^ L * 2 ^ L
        omega
      · show lo / 2 ^ L * 2 ^ L + 2 ^ L ≤ e
        rw [h2]
        exact g.2.2.1
    | succ i =>
      obtain ⟨h2, h3, h4⟩ := ih i p h1
      exact ⟨h2, Nat.le_trans (Nat.le_add_right lo (2 ^ L)) h3, h4⟩
theorem Cov.next {B e lo : Nat} {p : Nat × Nat} {l : List (Nat × Nat)} (h : Cov B e lo (p :: l)) : p.2 * 2 ^ p.1 = lo ∧ p.1 ≤ B ∧ lo + 2 ^ p.1 ≤ e ∧ Cov B e (lo + 2 ^ p.1) l := by
  cases h with
  | @cons _ L _ g hc => exact ⟨Nat.div_mul_cancel g.2.1, g.1, g.2.2.1, hc⟩
/-- A piece of all keys stands alone. -/
theorem Cov.whole {B e lo : Nat} {l : List (Nat × Nat)} (h : Cov B e lo l) (he : e ≤ 2 ^ B) : (∀ p ∈ l, p.1 < B) ∨ l = [(B, 0)] := by
  induction h with
  | nil => exact .inl (fun p hp => by simp at hp)
  | @cons lo L l g hc ih =>
    by_cases hL : L = B
    · subst hL
      have h1 := g.2.2.1
      obtain rfl : lo = 0 := by omega
      have h2 := hc.le
      cases hc with
      | nil => exact .inr (by simp)
      | @cons _ L' _ g' _ => have := g'.2.2.1; have := pow_pos L'; omega
    · rcases ih with h1 | h1
      · refine .inl (fun p hp => ?_)
        rcases List.mem_cons.1 hp with rfl | hp
        · have := g.1
          show L < B
          omega
        · exact h1 p hp
      · subst h1
        exfalso
        have h2 := hc.next
        have h3 : 0 * 2 ^ B = lo + 2 ^ L := h2.1
        have := pow_pos L
        rw [Nat.zero_mul] at h3
        omega
theorem len_up {m B : Nat} : ∀ {l : List Nat}, l.Pairwise (· < ·) → (∀ x ∈ l, m ≤ x ∧ x < B) → l.length ≤ B - m
  | [], _, _ => by simp
  | x :: l, h, hb => by
    have h0 := hb x (by simp)
    have h1 := List.pairwise_cons.1 h
    have ih := len_up (m := x + 1) (B := B) h1.2 (fun y hy => ⟨h1.1 y hy, (hb y (by simp [hy])).2⟩)
    rw [List.length_cons]
    omega
theorem len_down {B : Nat} : ∀ {l : List Nat}, l.Pairwise (· > ·) → (∀ x ∈ l, x < B) → l.length ≤ B
  | [], _, _ => by simp
  | x :: l, h, hb => by
    have h0 := hb x (by simp)
    have h1 := List.pairwise_cons.1 h
    have ih := len_down (B := x) h1.2 (fun y hy => h1.1 y hy)
    rw [List.length_cons]
    omega
theorem Cov.len {B e lo : Nat} {l : List (Nat × Nat)} (h : Cov B e lo l) (he : e ≤ 2 ^ B) (hB : 1 ≤ B) : l.length ≤ 2 * B := by
  rcases h.whole he with h1 | h1
  · obtain ⟨A, C, rfl, hA, hC⟩ := h.rise he
    have a1 := len_up (m := 0) (B := B) hA (fun x hx => by
      obtain ⟨p, hp, rfl⟩ := List.mem_map.1 hx
      exact ⟨by omega, h1 p (by simp [hp])⟩)
    have a2 := len_down (B := B) hC (fun x hx => by
      obtain ⟨p, hp, rfl⟩ := List.mem_map.1 hx
      exact h1 p (by simp [hp]))
    rw [List.length_map] at a1 a2
    rw [List.length_append]
    omega
  · rw [h1]
    simp
    omega
theorem count_up : ∀ {l : List Nat}, l.Pairwise (· < ·) → ∀ x, l.count x ≤ 1
  | [], _, x => by simp
  | y :: l, h, x => by
    have h1 := List.pairwise_cons.1 h
    have ih := count_up h1.2 x
    rw [List.count_cons]
    by_cases hy : y = x
    · subst hy
      have : l.count y = 0 := List.count_eq_zero.2 (fun hm => by have := h1.1 y hm; omega)
      rw [this]
      simp
    · simp [hy]
      exact ih
theorem count_down : ∀ {l : List Nat}, l.Pairwise (· > ·) → ∀ x, l.count x ≤ 1
  | [], _, x => by simp
  | y :: l, h, x => by
    have h1 := List.pairwise_cons.1 h
    have ih := count_down h1.2 x
    rw [List.count_cons]
    by_cases hy : y = x
    · subst hy
      have : l.count y = 0 := List.count_eq_zero.2 (fun hm => by have := h1.1 y hm; omega)
      rw [this]
      simp
    · simp [hy]
      exact ih
theorem Cov.two {B e lo : Nat} {l : List (Nat × Nat)} (h : Cov B e lo l) (he : e ≤ 2 ^ B) (i x : Nat) : ((l.take i).map (·.1)).count x ≤ 2 := by
  obtain ⟨A, C, e1, hA, hC⟩ := h.rise he
  have h1 := count_up hA x
  have h2 := count_down hC x
  have h3 : ((l.take i).map (·.1)).count x ≤ (l.map (·.1)).count x := ((List.take_sublist i l).map _).count_le x
  rw [e1, List.map_append, List.count_append] at h3
  rw [e1]
  omega
/-- From 0 on the levels fall from the first on. -/
theorem Cov.zero {B e : Nat} {l : List (Nat × Nat)} (h : Cov B e 0 l) (he : e ≤ 2 ^ B) : (l.map (·.1)).Pairwise (· > ·) :=
  (h.fall (B + 1) (Nat.dvd_zero _) (by have := pow_next B; have := pow_pos B; omega) (Nat.le_refl _)).2
/-- A piece's own span. -/
theorem Cov.own {B L i : Nat} (hL : L ≤ B) (hi : (i + 1) * 2 ^ L ≤ 2 ^ B) : Cov B ((i + 1) * 2 ^ L) (i * 2 ^ L) [(L, i)] := by
  have h1 : (i + 1) * 2 ^ L = i * 2 ^ L + 2 ^ L := by rw [Nat.add_mul, Nat.one_mul]
  have hg : GL B (i * 2 ^ L) ((i + 1) * 2 ^ L) L := ⟨hL, Nat.dvd_mul_left _ _, by omega, .inr (.inr (by rw [pow_next]; have := pow_pos L; omega))⟩
  have hc := Cov.cons hg (by rw [← h1]; exact Cov.nil)
  rwa [Nat.mul_div_cancel _ (pow_pos L)] at hc
/-- From below: a first piece, and a last one. -/
theorem Cov.left {B k a b : Nat} {l : List (Nat × Nat)} (ha : a % 2 = 1) (hab : a < b) (hb : b * 2 ^ k ≤ 2 ^ B) (h : Cov B (b * 2 ^ k) ((a + 1) * 2 ^ k) l) : Cov B (b * 2 ^ k) (a * 2 ^ k) ((k, a) :: l) := by
  have hp := pow_pos k
  have h1 : (a + 1) * 2 ^ k = a * 2 ^ k + 2 ^ k := by rw [Nat.add_mul, Nat.one_mul]
  have h2 : (a + 1) * 2 ^ k ≤ b * 2 ^ k := Nat.mul_le_mul_right _ hab
  have hk : k ≤ B := by
    rcases Nat.lt_or_ge B k with g | g
    · have h3 : 2 ^ B < 2 ^ k := Nat.pow_lt_pow_right (by omega) g
      omega
    · exact g
  have hn : ¬ 2 ^ (k + 1) ∣ a * 2 ^ k := by
    rintro ⟨q, hq⟩
    rw [Nat.pow_succ, Nat.mul_assoc, Nat.mul_comm a] at hq
    have := Nat.eq_of_mul_eq_mul_left (by omega) hq
    omega
  have hg : GL B (a * 2 ^ k) (b * 2 ^ k) k := ⟨hk, Nat.dvd_mul_left _ _, by omega, .inr (.inl hn)⟩
  have hc := Cov.cons hg (by rw [← h1]; exact h)
  rwa [Nat.mul_div_cancel _ hp] at hc
theorem Cov.last {B k b lo : Nat} {l : List (Nat × Nat)} (hb : b % 2 = 0) (hB : (b + 1) * 2 ^ k ≤ 2 ^ B) (h : Cov B (b * 2 ^ k) lo l) : 2 ^ k ∣ lo → Cov B ((b + 1) * 2 ^ k) lo (l ++ [(k, b)]) := by
  have hp := pow_pos k
  have h1 : (b + 1) * 2 ^ k = b * 2 ^ k + 2 ^ k := by rw [Nat.add_mul, Nat.one_mul]
  have hk : k ≤ B := by
    rcases Nat.lt_or_ge B k with g | g
    · have h3 : 2 ^ B < 2 ^ k := Nat.pow_lt_pow_right (by omega) g
      omega
    · exact g
  obtain ⟨E, hE⟩ : ∃ E, b * 2 ^ k = E := ⟨_, rfl⟩
  have hEd : 2 ^ (k + 1) ∣ E := by
    refine ⟨b / 2, ?_⟩
    rw [← hE, Nat.pow_succ, Nat.mul_assoc, show 2 * (b / 2) = b by omega, Nat.mul_comm]
  rw [hE] at h h1
  rw [h1]
  induction h with
  | nil =>
    intro hd
    have hg : GL B E (E + 2 ^ k) k := ⟨hk, hd, Nat.le_refl _, .inr (.inr (by rw [pow_next]; omega))⟩
    have hc := Cov.cons hg Cov.nil
    rw [← hE, Nat.mul_div_cancel _ hp] at hc
    rw [← hE]
    exact hc
  | @cons lo L l g hc ih =>
    intro hd
    have hkL : k ≤ L := by
      rcases Nat.lt_or_ge L k with hlt | hge
      · exfalso
        rcases g.2.2.2 with e1 | e1 | e1
        · omega
        · exact e1 (Nat.dvd_trans (pow_dvd hlt) hd)
        · have h3 : 2 ^ (L + 1) ∣ E := Nat.dvd_trans (pow_dvd (by omega)) hEd
          have h4 : 2 ^ (L + 1) ∣ lo := Nat.dvd_trans (pow_dvd hlt) hd
          have h5 : 2 ^ (L + 1) ∣ E - lo := Nat.dvd_sub h3 h4
          have h6 := g.2.2.1
          have h7 := pow_pos L
          have h8 := Nat.le_of_dvd (by omega) h5
          omega
      · exact hge
    have hg : GL B lo (E + 2 ^ k) L := by
      refine ⟨g.1, g.2.1, by have := g.2.2.1; omega, ?_⟩
      rcases g.2.2.2 with e1 | e1 | e1
      · exact .inl e1
      · exact .inr (.inl e1)
      · by_cases hx : 2 ^ (L + 1) ∣ lo
        · refine .inr (.inr ?_)
          have h3 : 2 ^ (k + 1) ∣ lo + 2 ^ (L + 1) := Nat.dvd_add (Nat.dvd_trans (pow_dvd (by omega)) hx) (pow_dvd (by omega))
          have h4 : 2 ^ (k + 1) ∣ lo + 2 ^ (L + 1) - E := Nat.dvd_sub h3 hEd
          have h5 := Nat.le_of_dvd (by omega) h4
          rw [pow_next] at h5
          omega
        · exact .inr (.inl hx)
    exact Cov.cons hg (ih (Nat.dvd_add (Nat.dvd_trans (pow_dvd hkL) g.2.1) (pow_dvd hkL)))
end Go.Proofs.YtkflggojiiebeaaGreat.Pcs

namespace Go.Proofs.YtkflggojiiebeaaGreat.Pcs
open Go Go.RowKit Lw
set_option linter.unusedVariables false
set_option linter.unusedSimpArgs false
/-- Two to the power of k, as a number of the program. -/
def p2 (k : Nat) : Int := ((2 ^ k : Nat) : Int)
theorem p2_pos (k : Nat) : 1 ≤ p2 k := by unfold p2; have := pow_pos k; omega
theorem p2_mono {a b : Nat} (h : a ≤ b) : p2 a ≤ p2 b := by unfold p2; have := pow_le h; omega
theorem p2_60 : p2 60 = 1152921504606846976 := rfl
theorem p2_bd {k : Nat} (h : k ≤ 60) : 1 ≤ p2 k ∧ p2 k ≤ 1152921504606846976 := ⟨p2_pos k, by rw [← p2_60]; exact p2_mono h⟩
theorem p2_mul {a b : Nat} (h : a ≤ b) : p2 (b - a) * p2 a = p2 b := by
  unfold p2
  rw [← Int.natCast_mul, ← Nat.pow_add, Nat.sub_add_cancel h]
theorem u64_in {x : Int} (h0 : 0 ≤ x) (h1 : x ≤ 18446744073709551615) : IntKind.u64.wrap x = x := by rw [IntKind.wrap_u64]; omega
/-- Is there such a piece? -/
def isP (b L i : Int) : Bool := decide (1 ≤ b ∧ b ≤ 59 ∧ 0 ≤ L ∧ L ≤ b ∧ i < p2 (b - L).toNat)
theorem isP_bd {b L i : Int} (h : isP b L i = true) (hi0 : 0 ≤ i) : 1 ≤ b ∧ b ≤ 59 ∧ 0 ≤ L ∧ L ≤ b ∧ i < p2 (b - L).toNat ∧ 0 ≤ i * p2 L.toNat ∧ i * p2 L.toNat + p2 L.toNat ≤ p2 b.toNat := by
  obtain ⟨h1, h2, h3, h4, h5⟩ := of_decide_eq_true h
  have hp := p2_pos L.toNat
  refine ⟨h1, h2, h3, h4, h5, Int.mul_nonneg hi0 (by omega), ?_⟩
  have e : (b - L).toNat = b.toNat - L.toNat := by omega
  rw [e] at h5
  have e2 := p2_mul (show L.toNat ≤ b.toNat by omega)
  have h6 : (i + 1) * p2 L.toNat ≤ p2 (b.toNat - L.toNat) * p2 L.toNat := Int.mul_le_mul_of_nonneg_right (by omega) (by omega)
  rw [e2, Int.add_mul, Int.one_mul] at h6
  exact h6
theorem PcV.two {w : World} {A : Option Addr} {n c : Nat} {ps : List (Int × Int)} (h : PcV w A n c ps) {k : Nat} {p : Int × Int} (hp : ps[k]? = some p) : ∃ ad g q, A = some ad ∧ ad.add (k * 2) = ⟨g, q, none⟩ ∧ w.cell? ⟨g, q, none⟩ = some (.int .i64 p.1) ∧ w.cell? ⟨g, q + 1, none⟩ = some (.int .u64 p.2) := by
  obtain ⟨a, g, q, h1, h2, h3, h4, _⟩ := h.at hp
  exact ⟨a, g, q, h1, h2, h3, h4⟩
end Go.Proofs.YtkflggojiiebeaaGreat.Pcs

namespace Go.Proofs.YtkflggojiiebeaaGreat.Pcs
open Go Go.RowKit Lw
set_option linter.unusedVariables false
set_option linter.unusedSimpArgs false
/-- There is always a next piece. -/
theorem GL.ex_from {B lo e : Nat} : ∀ (d L : Nat), B - L = d → L ≤ B → 2 ^ L ∣ lo → lo + 2 ^ L ≤ e → ∃ L', GL B lo e L'
  | 0, L, h, h1, h2, h3 => ⟨L, h1, h2, h3, .inl (by omega)⟩
  | d + 1, L, h, h1, h2, h3 => by
    by_cases g1 : 2 ^ (L + 1) ∣ lo
    · by_cases g2 : lo + 2 ^ (L + 1) ≤ e
      · exact GL.ex_from d (L + 1) (by omega) (by omega) g1 g2
      · exact ⟨L, h1, h2, h3, .inr (.inr (by omega))⟩
    · exact ⟨L, h1, h2, h3, .inr (.inl g1)⟩
theorem GL.ex {B lo e : Nat} (h : lo < e) : ∃ L, GL B lo e L :=
  GL.ex_from B 0 (by omega) (by omega) (by simp) (by simp; omega)
theorem Cov.ex {B e : Nat} : ∀ (d lo : Nat), e - lo = d → lo ≤ e → ∃ l, Cov B e lo l := by
  intro d
  induction d using Nat.strongRecOn with
  | ind d ih =>
    intro lo h1 h2
    by_cases h : lo = e
    · subst h
      exact ⟨[], Cov.nil⟩
    · obtain ⟨L, hg⟩ := GL.ex (B := B) (show lo < e by omega)
      have hp := pow_pos L
      have hf := hg.2.2.1
      obtain ⟨l, hl⟩ := ih (e - (lo + 2 ^ L)) (by omega) (lo + 2 ^ L) rfl hf
      exact ⟨_, Cov.cons hg hl⟩
def ints (l : List (Nat × Nat)) : List (Int × Int) := l.map (fun p => ((p.1 : Int), (p.2 : Int)))
theorem ints_len (l : List (Nat × Nat)) : (ints l).length = l.length := List.length_map _
theorem ints_app (l m : List (Nat × Nat)) : ints (l ++ m) = ints l ++ ints m := List.map_append
def okC (b lo hi : Int) : Bool := decide (1 ≤ b ∧ b ≤ 59 ∧ lo ≤ hi ∧ hi < p2 b.toNat)
/-- What Cover answers: a row of pieces of its own. -/
def CovR (w w' : World) (e : Ending) (b lo hi : Int) : Prop :=
  ∃ (A : Option Addr) (n cap : Nat) (l : List (Nat × Nat)), e = .returned (.tuple #[.slice A n cap, .bool (okC b lo hi)]) ∧ (pcT A n cap (ints l)).I w' ∧ (∀ k, (pcT A n cap (ints l)).F k → w.heap.size ≤ k) ∧ Below w.heap.size w w' ∧ (okC b lo hi = true → Cov b.toNat (hi.toNat + 1) lo.toNat l) ∧ (okC b lo hi = false → l = [])
theorem pc_alloc {X : World} {n : Nat} {vs : Array Value} {t : TypeId} (h : X.heap.size = n) : (X.alloc (.cells vs t)).heap[n]? = some (.cells vs t (0, 0)) := by
  subst h
  exact heap_alloc_new X _
theorem pcT_nil (w : World) (A : Option Addr) (h : ∀ a, A = some a → a.block < w.heap.size) : (pcT A 0 0 (ints [])).I w :=
  ⟨⟨fun _ => ⟨rfl, rfl⟩, Nat.le_refl _, by decide, rfl, fun i q hq => by simp [ints] at hq⟩, h⟩
end Go.Proofs.YtkflggojiiebeaaGreat.Pcs

namespace Go.Proofs.YtkflggojiiebeaaGreat.Pcs
open Go Go.RowKit Lw
set_option linter.unusedVariables false
set_option linter.unusedSimpArgs false
def haB (b L i : Int) : Bool := isP b L i && decide (0 < L)
def haL (b L i : Int) : Int := if haB b L i = true then L - 1 else 0
def haX (b L i : Int) : Int := if haB b L i = true then 2 * i else 0
def haY (b L i : Int) : Int := if haB b L i = true then 2 * i + 1 else 0
end Go.Proofs.YtkflggojiiebeaaGreat.Pcs

