/- Texts that statements lean on, put together: SkCopy, InnDef, InnDot, InnCode, ExaDef, ExaCode. -/
import Derived.Test.YtmdkdjgamhaeoaaGreatQa
import Derived.Test.YtmdkdjgamhaeoaaGreatQb
import Derived.Test.YtmdkdjgamhaeoaaGreatQc
import Derived.Test.YtmdkdjgamhaeoaaGreatQd
import Derived.Test.YtmdkdjgamhaeoaaGreatQe
import Derived.Test.YtmdkdjgamhaeoaaGreatQf
import Derived.Test.YtmdkdjgamhaeoaaGreatQg
import Derived.Deep.LoopGhost
import Derived.Deep.RegionHeld3
import Derived.Deep.DeepCutAuto
import Derived.Deep.QuietTactic
import Derived.BigQuiet
import Derived.Laws.EntriesVeiled
import Derived.Deep.CutRange
/- The code's sketch: Copy and Check. Printed by wip/gen/skcopy.py. -/
namespace Go.Proofs.YtmdkdjgamhaeoaaGreat.Sk
open Go Go.RowKit Lw Grd Lin Con Shp
set_option linter.unusedVariables false
set_option linter.unusedSimpArgs false
theorem pgI {w : World} {p : Addr} {F : Nat → Prop} {m n : Nat} {L : List (List Int)} (h : (pgT p F m n L).I w) : PG w p F m n L := h
theorem made_rd {X : World} {n g : Nat} {T : TypeId} (h : X.heap.size = g) : Rd .i64 (X.alloc (.cells (madeCells #[.int .i64 0] n) T)) (some ⟨g, 0, none⟩) (List.replicate n 0) := by
  subst h
  exact (Grd.mid_made X n T).rd
theorem at2_in64 {m n : Nat} {L : List (List Int)} (hd : Dims m n L) {r c : Int} : -9223372036854775808 ≤ at2 L r c ∧ at2 L r c ≤ 9223372036854775807 := by
  unfold at2
  split
  · omega
  · cases h1 : L[r.toNat]? with
    | none => simp
    | some row =>
      simp only [Option.getD_some]
      cases h2 : row[c.toNat]? with
      | none => simp
      | some v => exact (hd.rows row (List.mem_of_getElem? h1)).2 v (List.mem_of_getElem? h2)
theorem int_info : (Tryz.prog.info? 3).map (fun i => (i.zero, i.size, i.bytes)) = some (some (.int .i64 0), 1, 8) := by kernel_rfl
theorem ints_u : Tryz.prog.underlying 168 = some (.slice 3) := by kernel_rfl
set_option maxRecDepth 100000 in
theorem scheck_no (p : Addr) (F : Nat → Prop) (c : Cfg) (l : Int) (L : List (List Int)) (k d : Int) (w : World) (h : SK w p F c l L) (k0 : 0 ≤ k) (k1 : k ≤ 18446744073709551615) (hk : keys c l ≤ k) :
    Calls Tryz.prog 143 #[.pointer (some p), .int .u64 k, .int .i64 d] w fun e w' => e = .returned (.int .i64 2) ∧ Below w.heap.size w w' := by
  have CN := Lib.hid (scolumns_no p F c l L k w h k0 k1 hk)
  clear h
  go_enter Tryz.func143, Tryz.ntmps143
  go_wp2_with (go_at_call 149; (with_reducible refine CN.out.mono ?_); rintro e w1 ⟨rfl, hb1⟩; have HB1 := Lib.hid hb1; clear hb1)
  go_ret
  exact ⟨rfl, HB1.out⟩
set_option maxRecDepth 100000 in
set_option maxHeartbeats 4000000 in
theorem scheck_lin (p : Addr) (F : Nat → Prop) (c : Cfg) (l : Int) (L : List (List Int)) (k d : Int) (w : World) (h : SK w p F c l L) (k0 : 0 ≤ k) (k1 : k ≤ 18446744073709551615) (d0 : -9223372036854775808 ≤ d) (d1 : d ≤ 9223372036854775807) (hk : k < keys c l) (hm : c.md = 1) :
    Calls Tryz.prog 143 #[.pointer (some p), .int .u64 k, .int .i64 d] w fun e w' => e = .returned (.int .i64 (chCode (rws c) (wds c) L (cols c l k) d)) ∧ Below w.heap.size w w' := by
  obtain ⟨i0, hi, hi0, hi1, hi2⟩ := info_parts int_info
  have HS := Lib.hid h
  have hd := h.dims
  have hme := cols_meet k0 hk
  obtain ⟨hr, hok, hl0, hl1, b, gp, G, rfl, hb, hg, hGb, rfl⟩ := h
  have hbl := size_of_heap hb
  have c0w := grd_cell hb 0 (v := .pointer (some gp)) rfl
  have CY := Lib.hid (scolumns_yes _ _ c l L k w HS.out k0 k1 hk)
  have WY : Hid (∀ w', Below w.heap.size w w' → Calls Tryz.prog 151 #[.pointer (some ⟨b, 0, none⟩)] w' fun e w2 => e = .returned (.agg #[.func (.func 156) #[] #[], .func (.func 154) #[] #[], .bool true]) ∧ Below w'.heap.size w' w2) := Lib.hid (fun w' hb2 => way_lin _ _ c l L w' (HS.out.up hb2) hm)
  have hcl : (cols c l k).length = rws c := hme.2.1
  have hrw := rws_bd hr
  have RW := Lib.hid (fun w' hd => rows_any gp G (rws c) (wds c) L w' hd)
  have NW := Lib.hid (fun w' => new_any ((rws c : Nat) : Int) 1 w' (by omega) (by omega) (by omega) (by omega))
  have e1 : cl ((rws c : Nat) : Int) 8 = rws c := by rw [cl_of (by omega) (by omega)]; omega
  have e2 : cl 1 128 = 1 := by rw [cl_of (by omega) (by omega)]; rfl
  rw [e1, e2, ← trial_zero L (cols c l k)] at NW
  have AT := Lib.hid (fun (r v : Int) w' hd h0 h1 h2 h3 => at_any gp G (rws c) (wds c) L r v w' hd h0 h1 h2 h3)
  have NA := Lib.hid (fun r v (hv : (cols c l k)[r]? = some v) => named_at hd hme hv)
  have NB := Lib.hid (fun r x (hr2 : r < rws c) (hx : (named L (cols c l k))[r]? = some x) => trial_put (m := rws c) hr2 hx)
  have hin := cols_in c l k
  have HIN := Lib.hid hin
  have HAB := Lib.hid (fun r v => at2_in64 hd (r := r) (c := v))
  have CH := Lib.hid (fun tp TF A w' hp hrd hap => change_any tp TF (rws c) 1 (trialL L (cols c l k) (rws c) (rws c)) (some A) (rws c) (rws c) (List.replicate (rws c) 0) d w' hp hrd hap (by simp) (by omega) (in64_zero _) d0 d1)
  rw [trial_ch hd hme] at CH
  obtain ⟨V, hV⟩ : ∃ V, chCode (rws c) (wds c) L (cols c l k) d = V := ⟨_, rfl⟩
  rw [hV] at CH ⊢
  have HG := Lib.hid hg
  obtain ⟨m, hmm⟩ : ∃ m, rws c = m := ⟨_, rfl⟩
  rw [hmm] at CY RW NW NB CH hrw hcl HG AT
  obtain ⟨cs, hcs⟩ : ∃ cs, cols c l k = cs := ⟨_, rfl⟩
  rw [hcs] at CY NW NA NB CH hcl HIN
  have hm8 : 1 ≤ m ∧ m ≤ 8 := ⟨hrw.1, hrw.2.1⟩
  have HCL := Lib.hid hcl
  have hmk : ∀ w, (Instr.makeSlice 168 (.int .i64 (m : Int)) (.int .i64 (m : Int))).run Tryz.prog w = .ok (.slice (some ⟨w.heap.size, 0, none⟩) m m) (w.alloc (.cells (madeCells #[.int .i64 0] m) 3)) := by
    intro w
    have h := run_make (P := Tryz.prog) w 168 3 i0 (.int .i64 0) ints_u hi hi0 .i64 .i64 m m (by omega) (Int.le_refl _) (by rw [hi2]; omega) (by omega)
    rw [hi1] at h
    simpa [Value.cells] using h
  have HMK := Lib.hid hmk
  have hfd : ∀ w : World, (Instr.field 221 (.agg #[.func (.func 156) #[] #[], .func (.func 154) #[] #[], .bool true]) 0).run Tryz.prog w = .ok (.func (.func 156) #[] #[]) w := fun _ => by kernel_rfl
  have HFD := Lib.hid hfd
  clear hb hg hcl hrw hV hm hk hd hme hin hmm hcs e1 e2 hi hi0 hi1 hi2 hmk hfd
  go_enter Tryz.func143, Tryz.ntmps143
  go_wp2_with (first
    | (go_at_call 149; (with_reducible refine (CY.out).mono ?_); rintro e w1 ⟨g, rfl, hm1, hg1, hb1⟩; have HV1 := Lib.hid ((Have.nil w).push (midT g cs) hb1 hm1 (fun k hk => by subst hk; exact hg1)); clear hm1 hg1 hb1; have c0 := cell_up c0w HV1.out.below)
    | (go_at_call 150; (with_reducible refine (RW.out _ (pg_up HG.out HV1.out.below)).mono ?_); rintro e w2 ⟨rfl, hb⟩; have HV2 := Lib.hid (HV1.out.up hb); clear hb c0)
    | (go_at_call 76; (with_reducible refine (NW.out _).mono ?_); rintro e w3 ⟨tp, TF0, rfl, h1, h2, hb⟩; have HV3 := Lib.hid (HV2.out.push (pgT tp TF0 m 1 (trialL L cs m 0)) hb h1 h2); clear h1 h2 hb))
  go_loopw [29] (fun iv wr => ∃ (r : Nat) (TF : Nat → Prop), r ≤ m ∧ iv = .int .i64 r ∧ Have w wr [pgT tp TF m 1 (trialL L cs m r), midT g cs]) (fun iv _ => m - (intOf iv).toNat)
  case atStart => exact ⟨0, TF0, Nat.zero_le _, rfl, HV3.out⟩
  case round =>
    obtain ⟨r, TF, hr, rfl, hv⟩ := hrel
    have HVr := Lib.hid hv
    clear hv
    have c0 := cell_up c0w HVr.out.below
    by_cases hrm : r < m
    · obtain ⟨v, hv1⟩ : ∃ v, cs[r]? = some v := ⟨_, List.getElem?_eq_getElem (by rw [HCL.out]; exact hrm)⟩
      have hcv := (midI HVr.out.i1).cell hv1
      have hvb := HIN.out v (List.mem_of_getElem? hv1)
      have hna := NA.out r v hv1
      have hab := HAB.out (r : Int) v
      obtain ⟨x, hx⟩ : ∃ x, at2 L (r : Int) v = x := ⟨_, rfl⟩
      rw [hx] at hna hab
      have hnb := NB.out r x hrm hna
      have CA := Lib.hid (fun w' hb => AT.out (r : Int) v w' (pg_up HG.out hb) (by omega) (by omega) hvb.1 hvb.2)
      rw [hx] at CA
      have CPT := Lib.hid (fun w' hp => put_any tp TF m 1 (trialL L cs m r) (r : Int) 0 x w' hp (by omega) (by omega) (by omega) (by omega) hab.1 hab.2)
      rw [hnb] at CPT
      obtain ⟨bb, hbb⟩ : ∃ bb, in2 (trialL L cs m r) (r : Int) 0 = bb := ⟨_, rfl⟩
      rw [hbb] at CPT
      obtain ⟨ga, hga⟩ : ∃ ga : Addr, (⟨g, 0, none⟩ : Addr) = ga := ⟨_, rfl⟩
      rw [← Ord.add_at, hga] at hcv
      rw [hga]
      have hrm2 : (r : Int) < (m : Int) := by omega
      clear hx hna hnb hab hvb hv1 hbb
      go_wp2_with (first
        | (go_at_call 138; (with_reducible refine (CA.out _ (below_call HVr.out.below (by repeat' (first | (with_reducible exact Below.refl _ _) | (with_reducible assumption) | (with_reducible refine below_over ?_ _ _) | (with_reducible refine Lw.below_alloc ?_ _) | (with_reducible refine Below.drew ?_) | (with_reducible refine below_drewN ?_ _) | (with_reducible refine Below.setCell ?_ ?_ _) | go_size)) (Nat.le_refl _))).mono ?_); rintro e w5 ⟨rfl, hb⟩; have HV5 := Lib.hid (HVr.out.up hb); clear hb)
        | (go_at_call 137; (with_reducible refine (CPT.out _ (pgI HV5.out.i0)).mono ?_); rintro e w6 ⟨rfl, T6, h1, h2, h3⟩; have HV6 := Lib.hid (HV5.out.turn_0 (pgT tp T6 m 1 (trialL L cs m (r + 1))) h1 h2 h3); clear h1 h2 h3))
      go_roundw
      case rel => exact ⟨r + 1, T6, by omega, by go_num, HV6.out⟩
      case measure => simp [intOf]; omega
    · have e : r = m := by omega
      subst e
      have hlt3 : ¬ (r : Int) < (r : Int) := by omega
      have TLT := Lib.hid (fun q (hq : TF q) => (pgT tp TF _ _ _).lt wr HVr.out.i0 q hq)
      have hmk := HMK.out
      have hfd := HFD.out
      clear hrm
      go_upto_region 10 with fail
      go_region_held3 (fun w' => w'.cell? ⟨b, 0, none⟩ = some (.pointer (some gp))) (first | (with_reducible assumption) | (with_reducible refine cell_up c0 ?_ <;> (repeat' (first | (with_reducible exact Below.refl _ _) | (with_reducible assumption) | (with_reducible refine below_over ?_ _ _) | (with_reducible refine Lw.below_alloc ?_ _) | (with_reducible refine Below.drew ?_) | (with_reducible refine below_drewN ?_ _) | (with_reducible refine Below.setCell ?_ ?_ _) | go_size)))) (first
        | (go_at_call 151; (with_reducible refine (WY.out _ (below_call HVr.out.below (by repeat' (first | (with_reducible exact Below.refl _ _) | (with_reducible assumption) | (with_reducible refine below_over ?_ _ _) | (with_reducible refine Lw.below_alloc ?_ _) | (with_reducible refine Below.drew ?_) | (with_reducible refine below_drewN ?_ _) | (with_reducible refine Below.setCell ?_ ?_ _) | go_size)) (Nat.le_refl _))).mono ?_); rintro e w' ⟨rfl, hb2⟩; obtain ⟨bs, d2, rfl⟩ := below_grow hb2; clear hb2)
        | (go_at_call 156; (with_reducible refine (CH.out tp TF _ _ (pg_up (pgI HVr.out.i0) (by repeat' (first | (with_reducible exact Below.refl _ _) | (with_reducible assumption) | (with_reducible refine below_over ?_ _ _) | (with_reducible refine Lw.below_alloc ?_ _) | (with_reducible refine Below.drew ?_) | (with_reducible refine below_drewN ?_ _) | (with_reducible refine Below.setCell ?_ ?_ _) | go_size))) (by first | exact made_rd (by first | rfl | (simp; done)) | exact (made_rd (by first | rfl | (simp; done))).up (by repeat' (first | (with_reducible exact Below.refl _ _) | (with_reducible assumption) | (with_reducible refine below_over ?_ _ _) | (with_reducible refine Lw.below_alloc ?_ _) | (with_reducible refine Below.drew ?_) | (with_reducible refine below_drewN ?_ _) | (with_reducible refine Below.setCell ?_ ?_ _) | go_size))) (fun a ha hq => by injection ha with ha; subst ha; have := TLT.out _ hq; simp at this <;> omega)).mono ?_); rintro e w6 ⟨rfl, T6, h1, h2, h3⟩; have HV6 := Lib.hid ((HVr.out.up (by repeat' (first | (with_reducible exact Below.refl _ _) | (with_reducible assumption) | (with_reducible refine below_over ?_ _ _) | (with_reducible refine Lw.below_alloc ?_ _) | (with_reducible refine Below.drew ?_) | (with_reducible refine below_drewN ?_ _) | (with_reducible refine Below.setCell ?_ ?_ _) | go_size))).turn_0 (pgT tp T6 _ _ _) h1 h2 h3); have x0 := cell_up c0w HV6.out.below; clear h1 h2 h3 c0; have c0 := x0; clear x0))
      all_goals go_wp2
      all_goals go_ret
      all_goals exact ⟨rfl, HV6.out.below⟩
set_option maxRecDepth 100000 in
set_option maxHeartbeats 4000000 in
theorem scheck_con (p : Addr) (F : Nat → Prop) (c : Cfg) (l : Int) (L : List (List Int)) (k d : Int) (w : World) (h : SK w p F c l L) (k0 : 0 ≤ k) (k1 : k ≤ 18446744073709551615) (d0 : -9223372036854775808 ≤ d) (d1 : d ≤ 9223372036854775807) (hk : k < keys c l) (hm : c.md = 2) :
    Calls Tryz.prog 143 #[.pointer (some p), .int .u64 k, .int .i64 d] w fun e w' => e = .returned (.int .i64 (rsCode (rws c) (wds c) L (cols c l k) d)) ∧ Below w.heap.size w w' := by
  obtain ⟨i0, hi, hi0, hi1, hi2⟩ := info_parts int_info
  have HS := Lib.hid h
  have hd := h.dims
  have hme := cols_meet k0 hk
  obtain ⟨hr, hok, hl0, hl1, b, gp, G, rfl, hb, hg, hGb, rfl⟩ := h
  have hbl := size_of_heap hb
  have c0w := grd_cell hb 0 (v := .pointer (some gp)) rfl
  have CY := Lib.hid (scolumns_yes _ _ c l L k w HS.out k0 k1 hk)
  have WY : Hid (∀ w', Below w.heap.size w w' → Calls Tryz.prog 151 #[.pointer (some ⟨b, 0, none⟩)] w' fun e w2 => e = .returned (.agg #[.func (.func 153) #[] #[], .func (.func 154) #[] #[], .bool false]) ∧ Below w'.heap.size w' w2) := Lib.hid (fun w' hb2 => way_con _ _ c l L w' (HS.out.up hb2) hm)
  have hcl : (cols c l k).length = rws c := hme.2.1
  have hrw := rws_bd hr
  have RW := Lib.hid (fun w' hd => rows_any gp G (rws c) (wds c) L w' hd)
  have NW := Lib.hid (fun w' => new_any ((rws c : Nat) : Int) 1 w' (by omega) (by omega) (by omega) (by omega))
  have e1 : cl ((rws c : Nat) : Int) 8 = rws c := by rw [cl_of (by omega) (by omega)]; omega
  have e2 : cl 1 128 = 1 := by rw [cl_of (by omega) (by omega)]; rfl
  rw [e1, e2, ← trial_zero L (cols c l k)] at NW
  have AT := Lib.hid (fun (r v : Int) w' hd h0 h1 h2 h3 => at_any gp G (rws c) (wds c) L r v w' hd h0 h1 h2 h3)
  have NA := Lib.hid (fun r v (hv : (cols c l k)[r]? = some v) => named_at hd hme hv)
  have NB := Lib.hid (fun r x (hr2 : r < rws c) (hx : (named L (cols c l k))[r]? = some x) => trial_put (m := rws c) hr2 hx)
  have hin := cols_in c l k
  have HIN := Lib.hid hin
  have HAB := Lib.hid (fun r v => at2_in64 hd (r := r) (c := v))
  have CH := Lib.hid (fun tp TF A w' hp hrd hap => raise_any tp TF (rws c) 1 (trialL L (cols c l k) (rws c) (rws c)) (some A) (rws c) (rws c) (List.replicate (rws c) 0) d w' hp hrd hap (by simp) (by omega) (in64_zero _) d0 d1)
  rw [trial_rs hd hme] at CH
  obtain ⟨V, hV⟩ : ∃ V, rsCode (rws c) (wds c) L (cols c l k) d = V := ⟨_, rfl⟩
  rw [hV] at CH ⊢
  have HG := Lib.hid hg
  obtain ⟨m, hmm⟩ : ∃ m, rws c = m := ⟨_, rfl⟩
  rw [hmm] at CY RW NW NB CH hrw hcl HG AT
  obtain ⟨cs, hcs⟩ : ∃ cs, cols c l k = cs := ⟨_, rfl⟩
  rw [hcs] at CY NW NA NB CH hcl HIN
  have hm8 : 1 ≤ m ∧ m ≤ 8 := ⟨hrw.1, hrw.2.1⟩
  have HCL := Lib.hid hcl
  have hmk : ∀ w, (Instr.makeSlice 168 (.int .i64 (m : Int)) (.int .i64 (m : Int))).run Tryz.prog w = .ok (.slice (some ⟨w.heap.size, 0, none⟩) m m) (w.alloc (.cells (madeCells #[.int .i64 0] m) 3)) := by
    intro w
    have h := run_make (P := Tryz.prog) w 168 3 i0 (.int .i64 0) ints_u hi hi0 .i64 .i64 m m (by omega) (Int.le_refl _) (by rw [hi2]; omega) (by omega)
    rw [hi1] at h
    simpa [Value.cells] using h
  have HMK := Lib.hid hmk
  have hfd : ∀ w : World, (Instr.field 221 (.agg #[.func (.func 153) #[] #[], .func (.func 154) #[] #[], .bool false]) 0).run Tryz.prog w = .ok (.func (.func 153) #[] #[]) w := fun _ => by kernel_rfl
  have HFD := Lib.hid hfd
  clear hb hg hcl hrw hV hm hk hd hme hin hmm hcs e1 e2 hi hi0 hi1 hi2 hmk hfd
  go_enter Tryz.func143, Tryz.ntmps143
  go_wp2_with (first
    | (go_at_call 149; (with_reducible refine (CY.out).mono ?_); rintro e w1 ⟨g, rfl, hm1, hg1, hb1⟩; have HV1 := Lib.hid ((Have.nil w).push (midT g cs) hb1 hm1 (fun k hk => by subst hk; exact hg1)); clear hm1 hg1 hb1; have c0 := cell_up c0w HV1.out.below)
    | (go_at_call 150; (with_reducible refine (RW.out _ (pg_up HG.out HV1.out.below)).mono ?_); rintro e w2 ⟨rfl, hb⟩; have HV2 := Lib.hid (HV1.out.up hb); clear hb c0)
    | (go_at_call 76; (with_reducible refine (NW.out _).mono ?_); rintro e w3 ⟨tp, TF0, rfl, h1, h2, hb⟩; have HV3 := Lib.hid (HV2.out.push (pgT tp TF0 m 1 (trialL L cs m 0)) hb h1 h2); clear h1 h2 hb))
  go_loopw [29] (fun iv wr => ∃ (r : Nat) (TF : Nat → Prop), r ≤ m ∧ iv = .int .i64 r ∧ Have w wr [pgT tp TF m 1 (trialL L cs m r), midT g cs]) (fun iv _ => m - (intOf iv).toNat)
  case atStart => exact ⟨0, TF0, Nat.zero_le _, rfl, HV3.out⟩
  case round =>
    obtain ⟨r, TF, hr, rfl, hv⟩ := hrel
    have HVr := Lib.hid hv
    clear hv
    have c0 := cell_up c0w HVr.out.below
    by_cases hrm : r < m
    · obtain ⟨v, hv1⟩ : ∃ v, cs[r]? = some v := ⟨_, List.getElem?_eq_getElem (by rw [HCL.out]; exact hrm)⟩
      have hcv := (midI HVr.out.i1).cell hv1
      have hvb := HIN.out v (List.mem_of_getElem? hv1)
      have hna := NA.out r v hv1
      have hab := HAB.out (r : Int) v
      obtain ⟨x, hx⟩ : ∃ x, at2 L (r : Int) v = x := ⟨_, rfl⟩
      rw [hx] at hna hab
      have hnb := NB.out r x hrm hna
      have CA := Lib.hid (fun w' hb => AT.out (r : Int) v w' (pg_up HG.out hb) (by omega) (by omega) hvb.1 hvb.2)
      rw [hx] at CA
      have CPT := Lib.hid (fun w' hp => put_any tp TF m 1 (trialL L cs m r) (r : Int) 0 x w' hp (by omega) (by omega) (by omega) (by omega) hab.1 hab.2)
      rw [hnb] at CPT
      obtain ⟨bb, hbb⟩ : ∃ bb, in2 (trialL L cs m r) (r : Int) 0 = bb := ⟨_, rfl⟩
      rw [hbb] at CPT
      obtain ⟨ga, hga⟩ : ∃ ga : Addr, (⟨g, 0, none⟩ : Addr) = ga := ⟨_, rfl⟩
      rw [← Ord.add_at, hga] at hcv
      rw [hga]
      have hrm2 : (r : Int) < (m : Int) := by omega
      clear hx hna hnb hab hvb hv1 hbb
      go_wp2_with (first
        | (go_at_call 138; (with_reducible refine (CA.out _ (below_call HVr.out.below (by repeat' (first | (with_reducible exact Below.refl _ _) | (with_reducible assumption) | (with_reducible refine below_over ?_ _ _) | (with_reducible refine Lw.below_alloc ?_ _) | (with_reducible refine Below.drew ?_) | (with_reducible refine below_drewN ?_ _) | (with_reducible refine Below.setCell ?_ ?_ _) | go_size)) (Nat.le_refl _))).mono ?_); rintro e w5 ⟨rfl, hb⟩; have HV5 := Lib.hid (HVr.out.up hb); clear hb)
        | (go_at_call 137; (with_reducible refine (CPT.out _ (pgI HV5.out.i0)).mono ?_); rintro e w6 ⟨rfl, T6, h1, h2, h3⟩; have HV6 := Lib.hid (HV5.out.turn_0 (pgT tp T6 m 1 (trialL L cs m (r + 1))) h1 h2 h3); clear h1 h2 h3))
      go_roundw
      case rel => exact ⟨r + 1, T6, by omega, by go_num, HV6.out⟩
      case measure => simp [intOf]; omega
    · have e : r = m := by omega
      subst e
      have hlt3 : ¬ (r : Int) < (r : Int) := by omega
      have TLT := Lib.hid (fun q (hq : TF q) => (pgT tp TF _ _ _).lt wr HVr.out.i0 q hq)
      have hmk := HMK.out
      have hfd := HFD.out
      clear hrm
      go_upto_region 10 with fail
      go_region_held3 (fun w' => w'.cell? ⟨b, 0, none⟩ = some (.pointer (some gp))) (first | (with_reducible assumption) | (with_reducible refine cell_up c0 ?_ <;> (repeat' (first | (with_reducible exact Below.refl _ _) | (with_reducible assumption) | (with_reducible refine below_over ?_ _ _) | (with_reducible refine Lw.below_alloc ?_ _) | (with_reducible refine Below.drew ?_) | (with_reducible refine below_drewN ?_ _) | (with_reducible refine Below.setCell ?_ ?_ _) | go_size)))) (first
        | (go_at_call 151; (with_reducible refine (WY.out _ (below_call HVr.out.below (by repeat' (first | (with_reducible exact Below.refl _ _) | (with_reducible assumption) | (with_reducible refine below_over ?_ _ _) | (with_reducible refine Lw.below_alloc ?_ _) | (with_reducible refine Below.drew ?_) | (with_reducible refine below_drewN ?_ _) | (with_reducible refine Below.setCell ?_ ?_ _) | go_size)) (Nat.le_refl _))).mono ?_); rintro e w' ⟨rfl, hb2⟩; obtain ⟨bs, d2, rfl⟩ := below_grow hb2; clear hb2)
        | (go_at_call 153; (with_reducible refine (CH.out tp TF _ _ (pg_up (pgI HVr.out.i0) (by repeat' (first | (with_reducible exact Below.refl _ _) | (with_reducible assumption) | (with_reducible refine below_over ?_ _ _) | (with_reducible refine Lw.below_alloc ?_ _) | (with_reducible refine Below.drew ?_) | (with_reducible refine below_drewN ?_ _) | (with_reducible refine Below.setCell ?_ ?_ _) | go_size))) (by first | exact made_rd (by first | rfl | (simp; done)) | exact (made_rd (by first | rfl | (simp; done))).up (by repeat' (first | (with_reducible exact Below.refl _ _) | (with_reducible assumption) | (with_reducible refine below_over ?_ _ _) | (with_reducible refine Lw.below_alloc ?_ _) | (with_reducible refine Below.drew ?_) | (with_reducible refine below_drewN ?_ _) | (with_reducible refine Below.setCell ?_ ?_ _) | go_size))) (fun a ha hq => by injection ha with ha; subst ha; have := TLT.out _ hq; simp at this <;> omega)).mono ?_); rintro e w6 ⟨rfl, T6, h1, h2, h3⟩; have HV6 := Lib.hid ((HVr.out.up (by repeat' (first | (with_reducible exact Below.refl _ _) | (with_reducible assumption) | (with_reducible refine below_over ?_ _ _) | (with_reducible refine Lw.below_alloc ?_ _) | (with_reducible refine Below.drew ?_) | (with_reducible refine below_drewN ?_ _) | (with_reducible refine Below.setCell ?_ ?_ _) | go_size))).turn_0 (pgT tp T6 _ _ _) h1 h2 h3); have x0 := cell_up c0w HV6.out.below; clear h1 h2 h3 c0; have c0 := x0; clear x0))
      all_goals go_wp2
      all_goals go_ret
      all_goals exact ⟨rfl, HV6.out.below⟩
set_option maxRecDepth 100000 in
set_option maxHeartbeats 4000000 in
theorem scheck_med (p : Addr) (F : Nat → Prop) (c : Cfg) (l : Int) (L : List (List Int)) (k d : Int) (w : World) (h : SK w p F c l L) (k0 : 0 ≤ k) (k1 : k ≤ 18446744073709551615) (d0 : -9223372036854775808 ≤ d) (d1 : d ≤ 9223372036854775807) (hk : k < keys c l) (hm : c.md = 3) :
    Calls Tryz.prog 143 #[.pointer (some p), .int .u64 k, .int .i64 d] w fun e w' => e = .returned (.int .i64 (chCode (rws c) (wds c) L (cols c l k) d)) ∧ Below w.heap.size w w' := by
  obtain ⟨i0, hi, hi0, hi1, hi2⟩ := info_parts int_info
  have HS := Lib.hid h
  have hd := h.dims
  have hme := cols_meet k0 hk
  obtain ⟨hr, hok, hl0, hl1, b, gp, G, rfl, hb, hg, hGb, rfl⟩ := h
  have hbl := size_of_heap hb
  have c0w := grd_cell hb 0 (v := .pointer (some gp)) rfl
  have CY := Lib.hid (scolumns_yes _ _ c l L k w HS.out k0 k1 hk)
  have WY : Hid (∀ w', Below w.heap.size w w' → Calls Tryz.prog 151 #[.pointer (some ⟨b, 0, none⟩)] w' fun e w2 => e = .returned (.agg #[.func (.func 156) #[] #[], .func (.func 155) #[] #[], .bool true]) ∧ Below w'.heap.size w' w2) := Lib.hid (fun w' hb2 => way_med _ _ c l L w' (HS.out.up hb2) hm)
  have hcl : (cols c l k).length = rws c := hme.2.1
  have hrw := rws_bd hr
  have RW := Lib.hid (fun w' hd => rows_any gp G (rws c) (wds c) L w' hd)
  have NW := Lib.hid (fun w' => new_any ((rws c : Nat) : Int) 1 w' (by omega) (by omega) (by omega) (by omega))
  have e1 : cl ((rws c : Nat) : Int) 8 = rws c := by rw [cl_of (by omega) (by omega)]; omega
  have e2 : cl 1 128 = 1 := by rw [cl_of (by omega) (by omega)]; rfl
  rw [e1, e2, ← trial_zero L (cols c l k)] at NW
  have AT := Lib.hid (fun (r v : Int) w' hd h0 h1 h2 h3 => at_any gp G (rws c) (wds c) L r v w' hd h0 h1 h2 h3)
  have NA := Lib.hid (fun r v (hv : (cols c l k)[r]? = some v) => named_at hd hme hv)
  have NB := Lib.hid (fun r x (hr2 : r < rws c) (hx : (named L (cols c l k))[r]? = some x) => trial_put (m := rws c) hr2 hx)
  have hin := cols_in c l k
  have HIN := Lib.hid hin
  have HAB := Lib.hid (fun r v => at2_in64 hd (r := r) (c := v))
  have CH := Lib.hid (fun tp TF A w' hp hrd hap => change_any tp TF (rws c) 1 (trialL L (cols c l k) (rws c) (rws c)) (some A) (rws c) (rws c) (List.replicate (rws c) 0) d w' hp hrd hap (by simp) (by omega) (in64_zero _) d0 d1)
  rw [trial_ch hd hme] at CH
  obtain ⟨V, hV⟩ : ∃ V, chCode (rws c) (wds c) L (cols c l k) d = V := ⟨_, rfl⟩
  rw [hV] at CH ⊢
  have HG := Lib.hid hg
  obtain ⟨m, hmm⟩ : ∃ m, rws c = m := ⟨_, rfl⟩
  rw [hmm] at CY RW NW NB CH hrw hcl HG AT
  obtain ⟨cs, hcs⟩ : ∃ cs, cols c l k = cs := ⟨_, rfl⟩
  rw [hcs] at CY NW NA NB CH hcl HIN
  have hm8 : 1 ≤ m ∧ m ≤ 8 := ⟨hrw.1, hrw.2.1⟩
  have HCL := Lib.hid hcl
  have hmk : ∀ w, (Instr.makeSlice 168 (.int .i64 (m : Int)) (.int .i64 (m : Int))).run Tryz.prog w = .ok (.slice (some ⟨w.heap.size, 0, none⟩) m m) (w.alloc (.cells (madeCells #[.int .i64 0] m) 3)) := by
    intro w
    have h := run_make (P := Tryz.prog) w 168 3 i0 (.int .i64 0) ints_u hi hi0 .i64 .i64 m m (by omega) (Int.le_refl _) (by rw [hi2]; omega) (by omega)
    rw [hi1] at h
    simpa [Value.cells] using h
  have HMK := Lib.hid hmk
  have hfd : ∀ w : World, (Instr.field 221 (.agg #[.func (.func 156) #[] #[], .func (.func 155) #[] #[], .bool true]) 0).run Tryz.prog w = .ok (.func (.func 156) #[] #[]) w := fun _ => by kernel_rfl
  have HFD := Lib.hid hfd
  clear hb hg hcl hrw hV hm hk hd hme hin hmm hcs e1 e2 hi hi0 hi1 hi2 hmk hfd
  go_enter Tryz.func143, Tryz.ntmps143
  go_wp2_with (first
    | (go_at_call 149; (with_reducible refine (CY.out).mono ?_); rintro e w1 ⟨g, rfl, hm1, hg1, hb1⟩; have HV1 := Lib.hid ((Have.nil w).push (midT g cs) hb1 hm1 (fun k hk => by subst hk; exact hg1)); clear hm1 hg1 hb1; have c0 := cell_up c0w HV1.out.below)
    | (go_at_call 150; (with_reducible refine (RW.out _ (pg_up HG.out HV1.out.below)).mono ?_); rintro e w2 ⟨rfl, hb⟩; have HV2 := Lib.hid (HV1.out.up hb); clear hb c0)
    | (go_at_call 76; (with_reducible refine (NW.out _).mono ?_); rintro e w3 ⟨tp, TF0, rfl, h1, h2, hb⟩; have HV3 := Lib.hid (HV2.out.push (pgT tp TF0 m 1 (trialL L cs m 0)) hb h1 h2); clear h1 h2 hb))
  go_loopw [29] (fun iv wr => ∃ (r : Nat) (TF : Nat → Prop), r ≤ m ∧ iv = .int .i64 r ∧ Have w wr [pgT tp TF m 1 (trialL L cs m r), midT g cs]) (fun iv _ => m - (intOf iv).toNat)
  case atStart => exact ⟨0, TF0, Nat.zero_le _, rfl, HV3.out⟩
  case round =>
    obtain ⟨r, TF, hr, rfl, hv⟩ := hrel
    have HVr := Lib.hid hv
    clear hv
    have c0 := cell_up c0w HVr.out.below
    by_cases hrm : r < m
    · obtain ⟨v, hv1⟩ : ∃ v, cs[r]? = some v := ⟨_, List.getElem?_eq_getElem (by rw [HCL.out]; exact hrm)⟩
      have hcv := (midI HVr.out.i1).cell hv1
      have hvb := HIN.out v (List.mem_of_getElem? hv1)
      have hna := NA.out r v hv1
      have hab := HAB.out (r : Int) v
      obtain ⟨x, hx⟩ : ∃ x, at2 L (r : Int) v = x := ⟨_, rfl⟩
      rw [hx] at hna hab
      have hnb := NB.out r x hrm hna
      have CA := Lib.hid (fun w' hb => AT.out (r : Int) v w' (pg_up HG.out hb) (by omega) (by omega) hvb.1 hvb.2)
      rw [hx] at CA
      have CPT := Lib.hid (fun w' hp => put_any tp TF m 1 (trialL L cs m r) (r : Int) 0 x w' hp (by omega) (by omega) (by omega) (by omega) hab.1 hab.2)
      rw [hnb] at CPT
      obtain ⟨bb, hbb⟩ : ∃ bb, in2 (trialL L cs m r) (r : Int) 0 = bb := ⟨_, rfl⟩
      rw [hbb] at CPT
      obtain ⟨ga, hga⟩ : ∃ ga : Addr, (⟨g, 0, none⟩ : Addr) = ga := ⟨_, rfl⟩
      rw [← Ord.add_at, hga] at hcv
      rw [hga]
      have hrm2 : (r : Int) < (m : Int) := by omega
      clear hx hna hnb hab hvb hv1 hbb
      go_wp2_with (first
        | (go_at_call 138; (with_reducible refine (CA.out _ (below_call HVr.out.below (by repeat' (first | (with_reducible exact Below.refl _ _) | (with_reducible assumption) | (with_reducible refine below_over ?_ _ _) | (with_reducible refine Lw.below_alloc ?_ _) | (with_reducible refine Below.drew ?_) | (with_reducible refine below_drewN ?_ _) | (with_reducible refine Below.setCell ?_ ?_ _) | go_size)) (Nat.le_refl _))).mono ?_); rintro e w5 ⟨rfl, hb⟩; have HV5 := Lib.hid (HVr.out.up hb); clear hb)
        | (go_at_call 137; (with_reducible refine (CPT.out _ (pgI HV5.out.i0)).mono ?_); rintro e w6 ⟨rfl, T6, h1, h2, h3⟩; have HV6 := Lib.hid (HV5.out.turn_0 (pgT tp T6 m 1 (trialL L cs m (r + 1))) h1 h2 h3); clear h1 h2 h3))
      go_roundw
      case rel => exact ⟨r + 1, T6, by omega, by go_num, HV6.out⟩
      case measure => simp [intOf]; omega
    · have e : r = m := by omega
      subst e
      have hlt3 : ¬ (r : Int) < (r : Int) := by omega
      have TLT := Lib.hid (fun q (hq : TF q) => (pgT tp TF _ _ _).lt wr HVr.out.i0 q hq)
      have hmk := HMK.out
      have hfd := HFD.out
      clear hrm
      go_upto_region 10 with fail
      go_region_held3 (fun w' => w'.cell? ⟨b, 0, none⟩ = some (.pointer (some gp))) (first | (with_reducible assumption) | (with_reducible refine cell_up c0 ?_ <;> (repeat' (first | (with_reducible exact Below.refl _ _) | (with_reducible assumption) | (with_reducible refine below_over ?_ _ _) | (with_reducible refine Lw.below_alloc ?_ _) | (with_reducible refine Below.drew ?_) | (with_reducible refine below_drewN ?_ _) | (with_reducible refine Below.setCell ?_ ?_ _) | go_size)))) (first
        | (go_at_call 151; (with_reducible refine (WY.out _ (below_call HVr.out.below (by repeat' (first | (with_reducible exact Below.refl _ _) | (with_reducible assumption) | (with_reducible refine below_over ?_ _ _) | (with_reducible refine Lw.below_alloc ?_ _) | (with_reducible refine Below.drew ?_) | (with_reducible refine below_drewN ?_ _) | (with_reducible refine Below.setCell ?_ ?_ _) | go_size)) (Nat.le_refl _))).mono ?_); rintro e w' ⟨rfl, hb2⟩; obtain ⟨bs, d2, rfl⟩ := below_grow hb2; clear hb2)
        | (go_at_call 156; (with_reducible refine (CH.out tp TF _ _ (pg_up (pgI HVr.out.i0) (by repeat' (first | (with_reducible exact Below.refl _ _) | (with_reducible assumption) | (with_reducible refine below_over ?_ _ _) | (with_reducible refine Lw.below_alloc ?_ _) | (with_reducible refine Below.drew ?_) | (with_reducible refine below_drewN ?_ _) | (with_reducible refine Below.setCell ?_ ?_ _) | go_size))) (by first | exact made_rd (by first | rfl | (simp; done)) | exact (made_rd (by first | rfl | (simp; done))).up (by repeat' (first | (with_reducible exact Below.refl _ _) | (with_reducible assumption) | (with_reducible refine below_over ?_ _ _) | (with_reducible refine Lw.below_alloc ?_ _) | (with_reducible refine Below.drew ?_) | (with_reducible refine below_drewN ?_ _) | (with_reducible refine Below.setCell ?_ ?_ _) | go_size))) (fun a ha hq => by injection ha with ha; subst ha; have := TLT.out _ hq; simp at this <;> omega)).mono ?_); rintro e w6 ⟨rfl, T6, h1, h2, h3⟩; have HV6 := Lib.hid ((HVr.out.up (by repeat' (first | (with_reducible exact Below.refl _ _) | (with_reducible assumption) | (with_reducible refine below_over ?_ _ _) | (with_reducible refine Lw.below_alloc ?_ _) | (with_reducible refine Below.drew ?_) | (with_reducible refine below_drewN ?_ _) | (with_reducible refine Below.setCell ?_ ?_ _) | go_size))).turn_0 (pgT tp T6 _ _ _) h1 h2 h3); have x0 := cell_up c0w HV6.out.below; clear h1 h2 h3 c0; have c0 := x0; clear x0))
      all_goals go_wp2
      all_goals go_ret
      all_goals exact ⟨rfl, HV6.out.below⟩
/-- Check tells what Update would answer. -/
theorem scheck_any (p : Addr) (F : Nat → Prop) (c : Cfg) (l : Int) (L : List (List Int)) (k d : Int) (w : World) (h : SK w p F c l L) (k0 : 0 ≤ k) (k1 : k ≤ 18446744073709551615) (d0 : -9223372036854775808 ≤ d) (d1 : d ≤ 9223372036854775807) :
    Calls Tryz.prog 143 #[.pointer (some p), .int .u64 k, .int .i64 d] w fun e w' => e = .returned (.int .i64 (upCode c l L k d)) ∧ Below w.heap.size w w' := by
  unfold upCode
  by_cases hk : keys c l ≤ k
  · rw [if_pos hk]
    exact scheck_no p F c l L k d w h k0 k1 hk
  rw [if_neg hk]
  have hr := h.1
  have h3 : c.md = 1 ∨ c.md = 2 ∨ c.md = 3 := by have := hr.2.2.2.2.2.2; omega
  rcases h3 with h3 | h3 | h3
  · rw [if_neg (by omega)]; exact scheck_lin p F c l L k d w h k0 k1 d0 d1 (by omega) h3
  · rw [if_pos h3]; exact scheck_con p F c l L k d w h k0 k1 d0 d1 (by omega) h3
  · rw [if_neg (by omega)]; exact scheck_med p F c l L k d w h k0 k1 d0 d1 (by omega) h3
end Go.Proofs.YtmdkdjgamhaeoaaGreat.Sk
/- Sums of products, in numbers; the least product of rows. For stages from 11 on. -/
namespace Go.Proofs.YtmdkdjgamhaeoaaGreat.Inn
open Go Go.RowKit
set_option linter.unusedVariables false
def dsum : List Int → List Int → Int
  | x :: xs, y :: ys => x * y + dsum xs ys
  | _, _ => 0
def dp (xs ys : List Int) (k : Nat) : Int := dsum (xs.take k) (ys.take k)
def dok (xs ys : List Int) : Bool := decide (xs.length = ys.length) && (List.range (xs.length + 1)).all (fun k => Wid.fit (dp xs ys k))
def dhi (xs ys : List Int) : Int := if dok xs ys = true then Wid.fh (dsum xs ys) else 0
def dlo (xs ys : List Int) : Int := if dok xs ys = true then Wid.fl (dsum xs ys) else 0
theorem prod_bd {x y : Int} (hx : -9223372036854775808 ≤ x ∧ x ≤ 9223372036854775807) (hy : -9223372036854775808 ≤ y ∧ y ≤ 9223372036854775807) : -85070591730234615865843651857942052864 ≤ x * y ∧ x * y ≤ 85070591730234615865843651857942052864 := by
  have h : (x * y).natAbs ≤ 9223372036854775808 * 9223372036854775808 := by
    rw [Int.natAbs_mul]
    exact Nat.mul_le_mul (by omega) (by omega)
  omega
/-! ### The least of the rows -/
def lmin : List Int → Int
  | [] => 0
  | x :: xs => xs.foldl min x
/-- The products of the rows. -/
def dots (L M : List (List Int)) : List Int := List.zipWith dsum L M
def oks (L M : List (List Int)) : Bool := (List.zipWith dok L M).all id
end Go.Proofs.YtmdkdjgamhaeoaaGreat.Inn
/- The walks of the code's sums of products: inner.Dot. Printed by wip/gen/inn.py. -/
namespace Go.Proofs.YtmdkdjgamhaeoaaGreat.Inn
open Go Go.RowKit Lw
set_option linter.unusedVariables false
set_option linter.unusedSimpArgs false
end Go.Proofs.YtmdkdjgamhaeoaaGreat.Inn
/- The walks of package inner (the code's): cut, alike, Inner. Printed by wip/gen/inncode.py. -/
namespace Go.Proofs.YtmdkdjgamhaeoaaGreat.Inn
open Go Go.RowKit Lw Grd Lin Con Shp Sk
set_option linter.unusedVariables false
set_option linter.unusedSimpArgs false
def inCode (c c' : Cfg) (l l' : Int) (L M : List (List Int)) : Int := if cfgE c c' = true ∧ l = l' then (if c.md = 1 then (if oks L M = true then 0 else 4) else 3) else 5
def inVal (c c' : Cfg) (l l' : Int) (L M : List (List Int)) : Int := if inCode c c' l l' L M = 0 then lmin (dots L M) else 0
theorem in_no {c c' : Cfg} {l l' : Int} {L M : List (List Int)} (h : ¬ (cfgE c c' = true ∧ l = l')) : inCode c c' l l' L M = 5 ∧ inVal c c' l l' L M = 0 := by
  have e : inCode c c' l l' L M = 5 := if_neg h
  exact ⟨e, by unfold inVal; rw [e]; rfl⟩
theorem cfgE_self (c : Cfg) : cfgE c c = true := decide_eq_true ⟨rfl, rfl, rfl, rfl, rfl⟩
theorem in_yes {c : Cfg} {l : Int} {L M : List (List Int)} (h : c.md = 1) (ho : oks L M = true) : inCode c c l l L M = 0 ∧ inVal c c l l L M = lmin (dots L M) := by
  have e : inCode c c l l L M = 0 := by unfold inCode; rw [if_pos ⟨cfgE_self c, rfl⟩, if_pos h, ho]; rfl
  exact ⟨e, by unfold inVal; rw [e]; rfl⟩
theorem alloc_at {X : World} {n : Nat} {vs : Array Value} {t : TypeId} (h : X.heap.size = n) : (X.alloc (.cells vs t)).heap[n]? = some (.cells vs t (0, 0)) := by
  subst h
  exact heap_alloc_new X _
theorem grow_heap {X : World} {b : Nat} {o : Obj} (h : X.heap[b]? = some o) (bs : Array Obj) (d : Nat) : (grow X bs d).heap[b]? = some o := by
  rw [(grow_below X bs d).block b (size_of_heap h)]
  exact h
theorem lt_sz {a b : Nat} (h : a < b) (x : Nat) : a < b + x := by omega
end Go.Proofs.YtmdkdjgamhaeoaaGreat.Inn
/- What an array of numbers does, in numbers. For stage 12. -/
namespace Go.Proofs.YtmdkdjgamhaeoaaGreat.Exa
open Go Go.RowKit Lw Grd Lin Con Shp Sk
set_option linter.unusedVariables false
set_option linter.unusedSimpArgs false
/-- The number of a key; 0 where there is none. -/
def num (L : List Int) (k : Int) : Int := (L[k.toNat]?).getD 0
def exCode (md : Int) (L : List Int) (k d : Int) : Int := if (L.length : Int) ≤ k then 2 else if md = 2 ∧ d < 0 then 3 else if Wid.fit64 (num L k + d) = true then 0 else 4
def exRes (md : Int) (L : List Int) (k d : Int) : List Int := if exCode md L k d = 0 then L.set k.toNat (num L k + d) else L
theorem ex_key {md : Int} {L : List Int} {k d : Int} (h : (L.length : Int) ≤ k) : exCode md L k d = 2 ∧ exRes md L k d = L := by
  have e : exCode md L k d = 2 := if_pos h
  exact ⟨e, by unfold exRes; rw [e]; rfl⟩
theorem ex_mode {md : Int} {L : List Int} {k d : Int} (h : k < (L.length : Int)) (hm : md = 2 ∧ d < 0) : exCode md L k d = 3 ∧ exRes md L k d = L := by
  have e : exCode md L k d = 3 := by unfold exCode; rw [if_neg (by omega), if_pos hm]
  exact ⟨e, by unfold exRes; rw [e]; rfl⟩
theorem ex_yes {md : Int} {L : List Int} {k d : Int} (h : k < (L.length : Int)) (hm : ¬ (md = 2 ∧ d < 0)) (hf : Wid.fit64 (num L k + d) = true) : exCode md L k d = 0 ∧ exRes md L k d = L.set k.toNat (num L k + d) := by
  have e : exCode md L k d = 0 := by unfold exCode; rw [if_neg (by omega), if_neg hm, if_pos hf]
  exact ⟨e, by unfold exRes; rw [if_pos e]⟩
theorem ex_over {md : Int} {L : List Int} {k d : Int} (h : k < (L.length : Int)) (hm : ¬ (md = 2 ∧ d < 0)) (hf : Wid.fit64 (num L k + d) = false) : exCode md L k d = 4 ∧ exRes md L k d = L := by
  have e : exCode md L k d = 4 := by unfold exCode; rw [if_neg (by omega), if_neg hm, if_neg (by rw [hf]; decide)]
  exact ⟨e, by unfold exRes; rw [e]; rfl⟩
theorem in64_fit {z : Int} (h : Wid.fit64 z = true) : -9223372036854775808 ≤ z ∧ z ≤ 9223372036854775807 := by
  have h1 : -9223372036854775808 ≤ z ∧ z < 9223372036854775808 := of_decide_eq_true h
  omega
theorem ex_zero {md : Int} {L : List Int} {k d : Int} (h : exCode md L k d = 0) : k < (L.length : Int) ∧ Wid.fit64 (num L k + d) = true := by
  unfold exCode at h
  split at h
  · cases h
  · split at h
    · cases h
    · split at h
      · rename_i h1 _ h2
        exact ⟨by omega, h2⟩
      · cases h
/-! ### What each key has -/
def sums (K : Nat) (us : Ups) : List Int := (List.range K).map (fun k : Nat => hasK (k : Int) us)
theorem sums_len (K : Nat) (us : Ups) : (sums K us).length = K := by unfold sums; simp
theorem sums_get {K : Nat} {us : Ups} {k : Nat} (h : k < K) : (sums K us)[k]? = some (hasK (k : Int) us) := by
  unfold sums
  rw [List.getElem?_map, List.getElem?_range h]
  rfl
theorem sums_nil (K : Nat) : sums K [] = List.replicate K 0 := by
  apply List.ext_getElem?
  intro j
  by_cases h : j < K
  · rw [sums_get h, List.getElem?_replicate, if_pos h]
    rfl
  · rw [List.getElem?_eq_none (by rw [sums_len]; omega), List.getElem?_eq_none (by simp; omega)]
theorem has_one (k : Int) (u : Int × Int) : hasK k [u] = if u.1 = k then u.2 else 0 := by
  unfold hasK hasK
  omega
theorem sums_snoc {K : Nat} {us : Ups} {u : Int × Int} (h0 : 0 ≤ u.1) (h1 : u.1 < K) : sums K (us ++ [u]) = (sums K us).set u.1.toNat (num (sums K us) u.1 + u.2) := by
  apply List.ext_getElem?
  intro j
  rw [List.getElem?_set]
  by_cases h : j < K
  · rw [sums_get h, hasK_app, has_one]
    by_cases hj : u.1.toNat = j
    · have e : u.1 = (j : Int) := by omega
      rw [if_pos hj, if_pos (show u.1.toNat < (sums K us).length by rw [sums_len]; omega), if_pos e]
      unfold num
      rw [hj, sums_get h]
      rfl
    · rw [if_neg hj, if_neg (show ¬ u.1 = (j : Int) by omega), sums_get h, Int.add_zero]
  · rw [List.getElem?_eq_none (by rw [sums_len]; omega)]
    have h2 : ¬ u.1.toNat = j := by omega
    rw [if_neg h2, List.getElem?_eq_none (by rw [sums_len]; omega)]
/-- An update of small numbers is never refused. -/
theorem sums_step {md : Int} {K : Nat} {us : Ups} {u : Int × Int} (h0 : 0 ≤ u.1) (h1 : u.1 < K) (hl : us.length ≤ 60) (hb : ∀ v ∈ us ++ [u], -1099511627776 ≤ v.2 ∧ v.2 ≤ 1099511627776) (hm : md = 2 → 0 ≤ u.2) : exCode md (sums K us) u.1 u.2 = 0 ∧ exRes md (sums K us) u.1 u.2 = sums K (us ++ [u]) := by
  have hn : num (sums K us) u.1 = hasK u.1 us := by
    unfold num
    rw [sums_get (show u.1.toNat < K by omega)]
    show hasK ((u.1.toNat : Nat) : Int) us = _
    rw [Int.toNat_of_nonneg h0]
  have h2 := hasK_bd (k := u.1) (b := 1099511627776) (by omega) (us := us) (fun v hv => hb v (by simp [hv]))
  have h3 := hb u (by simp)
  have hf : Wid.fit64 (num (sums K us) u.1 + u.2) = true := by
    rw [hn]
    exact (Wid.fit64_yes (by omega) (by omega)).1
  have hy := ex_yes (md := md) (k := u.1) (d := u.2) (L := sums K us) (by rw [sums_len]; exact h1) (fun h => by have := hm h.1; omega) hf
  exact ⟨hy.1, by rw [hy.2, sums_snoc h0 h1]⟩
/-! ### A grid of one row -/
theorem set_one (L : List Int) {k : Int} (h0 : 0 ≤ k) (h1 : k < (L.length : Int)) (x : Int) : setL [L] 0 k x = [L.set k.toNat x] := by
  have hin : in2 [L] 0 k = true := by
    unfold in2
    simp
    omega
  unfold setL
  rw [if_pos hin]
  rfl
theorem at_one (L : List Int) {k : Int} (h0 : 0 ≤ k) : at2 [L] 0 k = num L k := by
  unfold at2 num
  rw [if_neg (by omega)]
  rfl
/-- Two arrays put together, with a sign. -/
def exJ (s : Int) (L M : List Int) : Int := if (rowS s L M).all Wid.fit64 = true then 0 else 4
def exM (s : Int) (L M : List Int) : List Int := if (rowS s L M).all Wid.fit64 = true then rowS s L M else L
end Go.Proofs.YtmdkdjgamhaeoaaGreat.Exa
/- The walks of package exact (the code's): an array is a block of its grid of one row, its config and its level. Printed by wip/gen/exacode.py. -/
namespace Go.Proofs.YtmdkdjgamhaeoaaGreat.Exa
open Go Go.RowKit Lw Grd Lin Con Shp Sk
set_option linter.unusedVariables false
set_option linter.unusedSimpArgs false
/-- An array of the code at p, in the blocks F. -/
def EX (w : World) (p : Addr) (F : Nat → Prop) (c : Cfg) (l : Int) (L : List Int) : Prop :=
  IsRight c ∧ c.Ok ∧ 0 ≤ l ∧ l ≤ c.bt ∧ (L.length : Int) = keys c l ∧ 1 ≤ L.length ∧ L.length ≤ 128 ∧ ∃ (b : Nat) (gp : Addr) (G : Nat → Prop), p = ⟨b, 0, none⟩ ∧ w.heap[b]? = some (.cells #[.pointer (some gp), .int .i64 c.bt, .int .i64 c.rw, .int .i64 c.wd, .int .i64 c.md, .int .u64 c.sd, .int .i64 l] 161 (0, 0)) ∧ PG w gp G 1 L.length [L] ∧ ¬ G b ∧ F = (fun k => k = b ∨ G k)
theorem EX.in64 {w : World} {p : Addr} {F : Nat → Prop} {c : Cfg} {l : Int} {L : List Int} (h : EX w p F c l L) : In64 L := by
  obtain ⟨hr, hok, hl0, hl1, hlk, hn1, hn8, b, gp, G, rfl, hb, hg, hGb, rfl⟩ := h
  exact (hg.dims.rows L (by simp)).2
theorem EX.right {w : World} {p : Addr} {F : Nat → Prop} {c : Cfg} {l : Int} {L : List Int} (h : EX w p F c l L) : IsRight c ∧ 0 ≤ l ∧ l ≤ c.bt := ⟨h.1, h.2.2.1, h.2.2.2.1⟩
theorem EX.ok {w : World} {p : Addr} {F : Nat → Prop} {c : Cfg} {l : Int} {L : List Int} (h : EX w p F c l L) : c.Ok := h.2.1
theorem EX.size {w : World} {p : Addr} {F : Nat → Prop} {c : Cfg} {l : Int} {L : List Int} (h : EX w p F c l L) : (L.length : Int) = keys c l ∧ 1 ≤ L.length ∧ L.length ≤ 128 := ⟨h.2.2.2.2.1, h.2.2.2.2.2.1, h.2.2.2.2.2.2.1⟩
theorem EX.keep {w' : World} {H : Nat → Prop} {w : World} {p : Addr} {F : Nat → Prop} {c : Cfg} {l : Int} {L : List Int} (h : EX w p F c l L) (hk : Kept H w w') (hf : ∀ k, F k → ¬ H k) : EX w' p F c l L := by
  obtain ⟨hr, hok, hl0, hl1, hlk, hn1, hn8, b, gp, G, rfl, hb, hg, hGb, rfl⟩ := h
  exact ⟨hr, hok, hl0, hl1, hlk, hn1, hn8, b, gp, G, rfl, hk.heap hb (hf b (.inl rfl)), (pgT gp G _ _ [L]).keep w w' H hg hk (fun k h => hf k (.inr h)), hGb, rfl⟩
theorem EX.up {w' : World} {w : World} {p : Addr} {F : Nat → Prop} {c : Cfg} {l : Int} {L : List Int} (h : EX w p F c l L) (hk : Below w.heap.size w w') : EX w' p F c l L := h.keep (Kept.of_below (F := fun _ => False) hk) (fun _ _ h => h)
theorem EX.lt {w : World} {p : Addr} {F : Nat → Prop} {c : Cfg} {l : Int} {L : List Int} (h : EX w p F c l L) (k : Nat) (hk : F k) : k < w.heap.size := by
  obtain ⟨hr, hok, hl0, hl1, hlk, hn1, hn8, b, gp, G, rfl, hb, hg, hGb, rfl⟩ := h
  rcases hk with rfl | hk
  · exact size_of_heap hb
  · exact (pgT gp G _ _ [L]).lt w hg k hk
def exT (p : Addr) (F : Nat → Prop) (c : Cfg) (l : Int) (L : List Int) : Thing where
  I := fun w => EX w p F c l L
  F := F
  keep := fun w w' H h hk hf => h.keep hk hf
  lt := fun w h k hk => h.lt k hk
theorem ex_turn {w w' : World} {b : Nat} {gp : Addr} {G G' : Nat → Prop} {c : Cfg} {l : Int} {L M : List Int} (hr : IsRight c) (hok : c.Ok) (hl0 : 0 ≤ l) (hl1 : l ≤ c.bt) (hlk : (L.length : Int) = keys c l) (hn1 : 1 ≤ L.length) (hn8 : L.length ≤ 128)
    (hb : w.heap[b]? = some (.cells #[.pointer (some gp), .int .i64 c.bt, .int .i64 c.rw, .int .i64 c.wd, .int .i64 c.md, .int .u64 c.sd, .int .i64 l] 161 (0, 0))) (hGb : ¬ G b) (hM : M.length = L.length) (g' : PG w' gp G' 1 L.length [M]) (hk : Kept G w w') (hG : ∀ k, G' k → G k ∨ w.heap.size ≤ k) :
    ∃ F', EX w' ⟨b, 0, none⟩ F' c l M ∧ Kept (fun k => k = b ∨ G k) w w' ∧ (∀ q, F' q → (q = b ∨ G q) ∨ w.heap.size ≤ q) := by
  have hbl := size_of_heap hb
  refine ⟨_, ⟨hr, hok, hl0, hl1, by rw [hM]; exact hlk, by rw [hM]; exact hn1, by rw [hM]; exact hn8, b, gp, G', rfl, hk.heap hb hGb, by rw [hM]; exact g', fun h => ?_, rfl⟩, hk.mono (fun k _ h => .inr h), fun q hq => ?_⟩
  · rcases hG b h with h1 | h1
    · exact hGb h1
    · omega
  · rcases hq with rfl | h1
    · exact .inl (.inl rfl)
    · rcases hG q h1 with h2 | h2
      · exact .inl (.inr h2)
      · exact .inr h2
set_option maxRecDepth 100000 in
theorem efalls_any (p : Addr) (F : Nat → Prop) (c : Cfg) (l : Int) (L : List Int) (w : World) (h : EX w p F c l L) :
    Calls Tryz.prog 139 #[.pointer (some p)] w fun e w' => e = .returned (.bool (c.md != 2)) ∧ Below w.heap.size w w' := by
  obtain ⟨hr, hok, hl0, hl1, hlk, hn1, hn8, b, gp, G, rfl, hb, hg, hGb, rfl⟩ := h
  have hbl := size_of_heap hb
  have c4 := grd_cell hb 4 (v := .int .i64 c.md) rfl
  clear hb hg
  go_enter Tryz.func139, Tryz.ntmps139
  go_wp2
  go_ret
  exact ⟨rfl, (by repeat' (first | (with_reducible exact Below.refl _ _) | (with_reducible assumption) | (with_reducible refine below_over ?_ _ _) | (with_reducible refine Lw.below_alloc ?_ _) | (with_reducible refine Below.drew ?_) | (with_reducible refine below_drewN ?_ _) | (with_reducible refine Below.setCell ?_ ?_ _) | go_size))⟩
set_option maxRecDepth 100000 in
set_option maxHeartbeats 4000000 in
theorem enew_yes (c : Cfg) (l : Int) (w : World) (h : c.Ok) (l0 : -9223372036854775808 ≤ l) (l1 : l ≤ 9223372036854775807) (hx : exactB c l = true) :
    Calls Tryz.prog 57 #[.agg #[.int .i64 c.bt, .int .i64 c.rw, .int .i64 c.wd, .int .i64 c.md, .int .u64 c.sd], .int .i64 l] w fun e w' => ∃ (p : Addr) (F : Nat → Prop), e = .returned (.tuple #[.pointer (some p), .int .i64 0]) ∧ EX w' p F c l (List.replicate (keys c l).toNat 0) ∧ (∀ k, F k → w.heap.size ≤ k) ∧ Below w.heap.size w w' := by
  have hx2 := of_decide_eq_true hx
  have hr := keys_pos.1 hx2.1
  have hw2 := wds_bd hr.1
  have C := Lib.hid (fun w => exact_any c l w h l0 l1)
  have CK := Lib.hid (fun w => keys_any c l w h l0 l1)
  have hwd := hr.1.2.2.2.2.2.1
  obtain ⟨n, hn⟩ : ∃ n : Nat, keys c l = (n : Int) := ⟨(keys c l).toNat, by omega⟩
  have hn1 : 1 ≤ n := by omega
  have hn8 : n ≤ 128 := by omega
  have N := Lib.hid (fun w => new_any 1 (n : Int) w (by omega) (by omega) (by omega) (by omega))
  have e1 : cl 1 8 = 1 := by decide
  have e2 : cl (n : Int) 128 = n := by unfold cl; omega
  have ez : zerosL 1 n = [List.replicate n 0] := rfl
  rw [e1, e2, ez] at N
  have HR := Lib.hid hr
  rw [hx] at C
  have HK := Lib.hid hn
  rw [hn] at CK ⊢
  rw [Int.toNat_natCast]
  have u1 : IntKind.i64.wrap (n : Int) = n := IntWalk.i64_in _ ⟨by omega, by omega⟩
  clear hr hw2 e1 e2 hx2 hx ez hwd hn
  go_enter Tryz.func57, Tryz.ntmps57
  go_wp2_with (first
    | (go_at_call 56; (with_reducible refine (C.out _).mono ?_); rintro e w' ⟨rfl, hb9⟩; obtain ⟨bs, d9, rfl⟩ := below_grow hb9; clear hb9)
    | (go_at_call 34; (with_reducible refine (CK.out _).mono ?_); rintro e w' ⟨rfl, hb9⟩; obtain ⟨bs2, d2, rfl⟩ := below_grow hb9; clear hb9)
    | (go_at_call 76; (with_reducible refine (N.out _).mono ?_); rintro e w2 ⟨gp, G, rfl, hg, hG, hb9⟩; have HB2 : Hid (Below w.heap.size w w2) := Lib.hid (below_call (show Below w.heap.size w _ from (by repeat' (first | (with_reducible exact Below.refl _ _) | (with_reducible assumption) | (with_reducible refine below_over ?_ _ _) | (with_reducible refine Lw.below_alloc ?_ _) | (with_reducible refine Below.drew ?_) | (with_reducible refine below_drewN ?_ _) | (with_reducible refine Below.setCell ?_ ?_ _) | go_size))) hb9 (Nat.le_refl _)); have HQ := Lib.hid hg; have HF : Hid (∀ k, G k → w.heap.size ≤ k) := Lib.hid (fun k hk => Nat.le_trans (Below.size (show Below w.heap.size w _ from (by repeat' (first | (with_reducible exact Below.refl _ _) | (with_reducible assumption) | (with_reducible refine below_over ?_ _ _) | (with_reducible refine Lw.below_alloc ?_ _) | (with_reducible refine Below.drew ?_) | (with_reducible refine below_drewN ?_ _) | (with_reducible refine Below.setCell ?_ ?_ _) | go_size)))) (hG k hk)); have x0 : w2.cell? ⟨w.heap.size, 0, none⟩ = some (.int .i64 c.bt) := cell_up (show World.cell? _ _ = _ by simp [go_sem]) hb9; have x1 : w2.cell? ⟨w.heap.size, 1, none⟩ = some (.int .i64 c.rw) := cell_up (show World.cell? _ _ = _ by simp [go_sem]) hb9; have x2 : w2.cell? ⟨w.heap.size, 2, none⟩ = some (.int .i64 c.wd) := cell_up (show World.cell? _ _ = _ by simp [go_sem]) hb9; have x3 : w2.cell? ⟨w.heap.size, 3, none⟩ = some (.int .i64 c.md) := cell_up (show World.cell? _ _ = _ by simp [go_sem]) hb9; have x4 : w2.cell? ⟨w.heap.size, 4, none⟩ = some (.int .u64 c.sd) := cell_up (show World.cell? _ _ = _ by simp [go_sem]) hb9; have hbw2 := HB2.out; clear hg hG hb9))
  go_ret2
  have hgl := fun k (hk : G k) => (pgT gp G _ _ _).lt _ HQ.out k hk
  have hnw := heap_alloc_new w2 (.cells #[.pointer (some gp), .int .i64 c.bt, .int .i64 c.rw, .int .i64 c.wd, .int .i64 c.md, .int .u64 c.sd, .int .i64 l] 161)
  have hs := HB2.out.size
  refine ⟨⟨w2.heap.size, 0, none⟩, fun k => k = w2.heap.size ∨ G k, rfl, ⟨HR.out.1, h, HR.out.2.1, HR.out.2.2, by rw [List.length_replicate, HK.out], by rw [List.length_replicate]; exact hn1, by rw [List.length_replicate]; exact hn8, _, gp, G, rfl, hnw, by rw [List.length_replicate]; exact pg_alloc HQ.out _, fun hk => by have := hgl _ hk; omega, rfl⟩, fun k hk => ?_, ?_⟩
  · rcases hk with rfl | hk
    · exact hs
    · exact HF.out k hk
  · exact HB2.out.alloc hs _
set_option maxRecDepth 100000 in
set_option maxHeartbeats 4000000 in
theorem epoint_no (p : Addr) (F : Nat → Prop) (c : Cfg) (l : Int) (L : List Int) (k : Int) (w : World) (h : EX w p F c l L) (k0 : 0 ≤ k) (k1 : k ≤ 18446744073709551615) (hk : (L.length : Int) ≤ k) :
    Calls Tryz.prog 133 #[.pointer (some p), .int .u64 k] w fun e w' => e = .returned (.tuple #[.int .i64 0, .int .i64 2]) ∧ Below w.heap.size w w' := by
  obtain ⟨hr, hok, hl0, hl1, hlk, hn1, hn8, b, gp, G, rfl, hb, hg, hGb, rfl⟩ := h
  have hbl := size_of_heap hb
  have c0 := grd_cell hb 0 (v := .pointer (some gp)) rfl
  have c1 := grd_cell hb 1 (v := .int .i64 c.bt) rfl
  have c2 := grd_cell hb 2 (v := .int .i64 c.rw) rfl
  have c3 := grd_cell hb 3 (v := .int .i64 c.wd) rfl
  have c4 := grd_cell hb 4 (v := .int .i64 c.md) rfl
  have c5 := grd_cell hb 5 (v := .int .u64 c.sd) rfl
  have c6 := grd_cell hb 6 (v := .int .i64 l) rfl
  have CK := Lib.hid (fun w => keys_any c l w hok (by omega) (by have := hr.2.1; omega))
  rw [← hlk] at CK
  clear hb hg hlk
  go_enter Tryz.func133, Tryz.ntmps133
  go_wp2
  go_region_held3 (fun w' => w'.cell? ⟨b, 1, none⟩ = some (.int .i64 c.bt) ∧ w'.cell? ⟨b, 2, none⟩ = some (.int .i64 c.rw) ∧ w'.cell? ⟨b, 3, none⟩ = some (.int .i64 c.wd) ∧ w'.cell? ⟨b, 4, none⟩ = some (.int .i64 c.md) ∧ w'.cell? ⟨b, 5, none⟩ = some (.int .u64 c.sd) ∧ w'.cell? ⟨b, 6, none⟩ = some (.int .i64 l)) (first | (refine ⟨?_, ?_, ?_, ?_, ?_, ?_⟩ <;> (first | (with_reducible assumption) | (with_reducible refine cell_up c1 ?_) | (with_reducible refine cell_up c2 ?_) | (with_reducible refine cell_up c3 ?_) | (with_reducible refine cell_up c4 ?_) | (with_reducible refine cell_up c5 ?_) | (with_reducible refine cell_up c6 ?_)) <;> (repeat' (first | (with_reducible exact Below.refl _ _) | (with_reducible assumption) | (with_reducible refine below_over ?_ _ _) | (with_reducible refine Lw.below_alloc ?_ _) | (with_reducible refine Below.drew ?_) | (with_reducible refine below_drewN ?_ _) | (with_reducible refine Below.setCell ?_ ?_ _) | go_size)))) (first
    | (go_at_call 34; (with_reducible refine (CK.out _).mono ?_); rintro e w' ⟨rfl, hb9⟩; obtain ⟨bs, d9, rfl⟩ := below_grow hb9; clear hb9))
  all_goals go_wp2
  all_goals go_ret2
  all_goals exact ⟨rfl, (by repeat' (first | (with_reducible exact Below.refl _ _) | (with_reducible assumption) | (with_reducible refine below_over ?_ _ _) | (with_reducible refine Lw.below_alloc ?_ _) | (with_reducible refine Below.drew ?_) | (with_reducible refine below_drewN ?_ _) | (with_reducible refine Below.setCell ?_ ?_ _) | go_size))⟩
set_option maxRecDepth 100000 in
set_option maxHeartbeats 4000000 in
theorem epoint_yes (p : Addr) (F : Nat → Prop) (c : Cfg) (l : Int) (L : List Int) (k : Int) (w : World) (h : EX w p F c l L) (k0 : 0 ≤ k) (k1 : k ≤ 18446744073709551615) (hk : k < (L.length : Int)) :
    Calls Tryz.prog 133 #[.pointer (some p), .int .u64 k] w fun e w' => e = .returned (.tuple #[.int .i64 (num L k), .int .i64 0]) ∧ Below w.heap.size w w' := by
  obtain ⟨hr, hok, hl0, hl1, hlk, hn1, hn8, b, gp, G, rfl, hb, hg, hGb, rfl⟩ := h
  have hbl := size_of_heap hb
  have c0 := grd_cell hb 0 (v := .pointer (some gp)) rfl
  have c1 := grd_cell hb 1 (v := .int .i64 c.bt) rfl
  have c2 := grd_cell hb 2 (v := .int .i64 c.rw) rfl
  have c3 := grd_cell hb 3 (v := .int .i64 c.wd) rfl
  have c4 := grd_cell hb 4 (v := .int .i64 c.md) rfl
  have c5 := grd_cell hb 5 (v := .int .u64 c.sd) rfl
  have c6 := grd_cell hb 6 (v := .int .i64 l) rfl
  have CK := Lib.hid (fun w => keys_any c l w hok (by omega) (by have := hr.2.1; omega))
  rw [← hlk] at CK
  have hkx : ¬ (L.length : Int) ≤ k := by omega
  have u1 : IntKind.i64.wrap k = k := IntWalk.i64_in _ ⟨by omega, by omega⟩
  have AT : Hid (∀ w', Below w.heap.size w w' → _) := Lib.hid (fun w' hb2 => at_any gp G 1 L.length [L] 0 k w' (pg_up hg hb2) (by omega) (by omega) (by omega) (by omega))
  rw [at_one L k0] at AT
  clear hb hg hlk
  go_enter Tryz.func133, Tryz.ntmps133
  go_wp2
  go_region_held3 (fun w' => w'.cell? ⟨b, 1, none⟩ = some (.int .i64 c.bt) ∧ w'.cell? ⟨b, 2, none⟩ = some (.int .i64 c.rw) ∧ w'.cell? ⟨b, 3, none⟩ = some (.int .i64 c.wd) ∧ w'.cell? ⟨b, 4, none⟩ = some (.int .i64 c.md) ∧ w'.cell? ⟨b, 5, none⟩ = some (.int .u64 c.sd) ∧ w'.cell? ⟨b, 6, none⟩ = some (.int .i64 l)) (first | (refine ⟨?_, ?_, ?_, ?_, ?_, ?_⟩ <;> (first | (with_reducible assumption) | (with_reducible refine cell_up c1 ?_) | (with_reducible refine cell_up c2 ?_) | (with_reducible refine cell_up c3 ?_) | (with_reducible refine cell_up c4 ?_) | (with_reducible refine cell_up c5 ?_) | (with_reducible refine cell_up c6 ?_)) <;> (repeat' (first | (with_reducible exact Below.refl _ _) | (with_reducible assumption) | (with_reducible refine below_over ?_ _ _) | (with_reducible refine Lw.below_alloc ?_ _) | (with_reducible refine Below.drew ?_) | (with_reducible refine below_drewN ?_ _) | (with_reducible refine Below.setCell ?_ ?_ _) | go_size)))) (first
    | (go_at_call 34; (with_reducible refine (CK.out _).mono ?_); rintro e w' ⟨rfl, hb9⟩; obtain ⟨bs, d9, rfl⟩ := below_grow hb9; clear hb9))
  all_goals (go_wp2_with (go_at_call 138; (with_reducible refine (AT.out _ (by repeat' (first | (with_reducible exact Below.refl _ _) | (with_reducible assumption) | (with_reducible refine below_over ?_ _ _) | (with_reducible refine Lw.below_alloc ?_ _) | (with_reducible refine Below.drew ?_) | (with_reducible refine below_drewN ?_ _) | (with_reducible refine Below.setCell ?_ ?_ _) | go_size))).mono ?_); rintro e w' ⟨rfl, hb9⟩; obtain ⟨bs2, d2, rfl⟩ := below_grow hb9; clear hb9))
  all_goals go_ret2
  all_goals exact ⟨rfl, (by repeat' (first | (with_reducible exact Below.refl _ _) | (with_reducible assumption) | (with_reducible refine below_over ?_ _ _) | (with_reducible refine Lw.below_alloc ?_ _) | (with_reducible refine Below.drew ?_) | (with_reducible refine below_drewN ?_ _) | (with_reducible refine Below.setCell ?_ ?_ _) | go_size))⟩
set_option maxRecDepth 100000 in
set_option maxHeartbeats 4000000 in
theorem esum_no (p : Addr) (F : Nat → Prop) (c : Cfg) (l : Int) (L : List Int) (k d : Int) (w : World) (h : EX w p F c l L) (k0 : 0 ≤ k) (k1 : k ≤ 18446744073709551615) (d0 : -9223372036854775808 ≤ d) (d1 : d ≤ 9223372036854775807) (hk : (L.length : Int) ≤ k) :
    Calls Tryz.prog 135 #[.pointer (some p), .int .u64 k, .int .i64 d] w fun e w' => e = .returned (.tuple #[.int .i64 (0), .int .i64 2]) ∧ Below w.heap.size w w' := by
  have CP := Lib.hid (epoint_no p F c l L k w h k0 k1 hk)
  clear h
  go_enter Tryz.func135, Tryz.ntmps135
  go_wp2_with (go_at_call 133; (with_reducible refine (CP.out).mono ?_); rintro e w1 ⟨rfl, hb9⟩; have HB1 := Lib.hid hb9; clear hb9)
  go_ret2
  exact ⟨rfl, HB1.out⟩
set_option maxRecDepth 100000 in
set_option maxHeartbeats 4000000 in
theorem esum_mode (p : Addr) (F : Nat → Prop) (c : Cfg) (l : Int) (L : List Int) (k d : Int) (w : World) (h : EX w p F c l L) (k0 : 0 ≤ k) (k1 : k ≤ 18446744073709551615) (d0 : -9223372036854775808 ≤ d) (d1 : d ≤ 9223372036854775807) (hk : k < (L.length : Int)) (hm : c.md = 2 ∧ d < 0) :
    Calls Tryz.prog 135 #[.pointer (some p), .int .u64 k, .int .i64 d] w fun e w' => e = .returned (.tuple #[.int .i64 (0), .int .i64 3]) ∧ Below w.heap.size w w' := by
  have CP := Lib.hid (epoint_yes p F c l L k w h k0 k1 hk)
  have FW : Hid (∀ w', Below w.heap.size w w' → _) := Lib.hid (fun w' hb2 => efalls_any p F c l L w' (h.up hb2))
  rw [show (c.md != 2) = false by simp [hm.1]] at FW
  have hd := hm.2
  clear h hm
  go_enter Tryz.func135, Tryz.ntmps135
  go_wp2_with (first
    | (go_at_call 133; (with_reducible refine (CP.out).mono ?_); rintro e w1 ⟨rfl, hb9⟩; have HB1 := Lib.hid hb9; clear hb9)
    | (go_at_call 139; (with_reducible refine (FW.out _ HB1.out).mono ?_); rintro e w2 ⟨rfl, hb9⟩; have HB2 := Lib.hid (below_call HB1.out hb9 (Nat.le_refl _)); clear hb9))
  go_ret2
  exact ⟨rfl, HB2.out⟩
set_option maxRecDepth 100000 in
set_option maxHeartbeats 4000000 in
theorem esum_over (p : Addr) (F : Nat → Prop) (c : Cfg) (l : Int) (L : List Int) (k d : Int) (w : World) (h : EX w p F c l L) (k0 : 0 ≤ k) (k1 : k ≤ 18446744073709551615) (d0 : -9223372036854775808 ≤ d) (d1 : d ≤ 9223372036854775807) (hk : k < (L.length : Int)) (hm : ¬ (c.md = 2 ∧ d < 0)) (hf : Wid.fit64 (num L k + d) = false) :
    Calls Tryz.prog 135 #[.pointer (some p), .int .u64 k, .int .i64 d] w fun e w' => e = .returned (.tuple #[.int .i64 (0), .int .i64 4]) ∧ Below w.heap.size w w' := by
  have hv : -9223372036854775808 ≤ num L k ∧ num L k ≤ 9223372036854775807 := by
    have h0 := h.in64
    obtain ⟨v, hv⟩ : ∃ v, L[k.toNat]? = some v := ⟨_, List.getElem?_eq_getElem (by omega)⟩
    have : num L k = v := by unfold num; rw [hv]; rfl
    rw [this]
    exact h0.at hv
  have CQ := Lib.hid (epoint_yes p F c l L k w h k0 k1 hk)
  have CP := Lib.hid (fun w => Wid.plus_any (num L k) d w hv.1 hv.2 d0 d1)
  rw [hf] at CP
  clear hf
  have FW : Hid (∀ w', Below w.heap.size w w' → _) := Lib.hid (fun w' hb2 => efalls_any p F c l L w' (h.up hb2))
  by_cases hd : d < 0
  · rw [show (c.md != 2) = true by simp; omega] at FW
    clear h hm hv
    go_enter Tryz.func135, Tryz.ntmps135
    go_wp2_with (first
      | (go_at_call 133; (with_reducible refine (CQ.out).mono ?_); rintro e w1 ⟨rfl, hb9⟩; have HB1 := Lib.hid hb9; clear hb9)
      | (go_at_call 139; (with_reducible refine (FW.out _ HB1.out).mono ?_); rintro e w2 ⟨rfl, hb9⟩; have HB2 := Lib.hid (below_call HB1.out hb9 (Nat.le_refl _)); clear hb9)
      | (go_at_call 140; (with_reducible refine (CP.out _).mono ?_); rintro e w3 ⟨rfl, hb9⟩; have HB3 := Lib.hid (below_call HB2.out hb9 (Nat.le_refl _)); clear hb9))
    go_ret2
    exact ⟨rfl, HB3.out⟩
  · clear h hm hv
    go_enter Tryz.func135, Tryz.ntmps135
    go_wp2_with (first
      | (go_at_call 133; (with_reducible refine (CQ.out).mono ?_); rintro e w1 ⟨rfl, hb9⟩; have HB1 := Lib.hid hb9; clear hb9)
      
      | (go_at_call 140; (with_reducible refine (CP.out _).mono ?_); rintro e w3 ⟨rfl, hb9⟩; have HB3 := Lib.hid (below_call HB1.out hb9 (Nat.le_refl _)); clear hb9))
    go_ret2
    exact ⟨rfl, HB3.out⟩
set_option maxRecDepth 100000 in
set_option maxHeartbeats 4000000 in
theorem esum_yes (p : Addr) (F : Nat → Prop) (c : Cfg) (l : Int) (L : List Int) (k d : Int) (w : World) (h : EX w p F c l L) (k0 : 0 ≤ k) (k1 : k ≤ 18446744073709551615) (d0 : -9223372036854775808 ≤ d) (d1 : d ≤ 9223372036854775807) (hk : k < (L.length : Int)) (hm : ¬ (c.md = 2 ∧ d < 0)) (hf : Wid.fit64 (num L k + d) = true) :
    Calls Tryz.prog 135 #[.pointer (some p), .int .u64 k, .int .i64 d] w fun e w' => e = .returned (.tuple #[.int .i64 (num L k + d), .int .i64 0]) ∧ Below w.heap.size w w' := by
  have hv : -9223372036854775808 ≤ num L k ∧ num L k ≤ 9223372036854775807 := by
    have h0 := h.in64
    obtain ⟨v, hv⟩ : ∃ v, L[k.toNat]? = some v := ⟨_, List.getElem?_eq_getElem (by omega)⟩
    have : num L k = v := by unfold num; rw [hv]; rfl
    rw [this]
    exact h0.at hv
  have CQ := Lib.hid (epoint_yes p F c l L k w h k0 k1 hk)
  have CP := Lib.hid (fun w => Wid.plus_any (num L k) d w hv.1 hv.2 d0 d1)
  have hfz := in64_fit hf
  rw [hf, (Wid.fit64_yes hfz.1 (by omega)).2] at CP
  obtain ⟨S, hS⟩ : ∃ S, num L k + d = S := ⟨_, rfl⟩
  rw [hS] at CP ⊢
  clear hf hfz hS
  have FW : Hid (∀ w', Below w.heap.size w w' → _) := Lib.hid (fun w' hb2 => efalls_any p F c l L w' (h.up hb2))
  by_cases hd : d < 0
  · rw [show (c.md != 2) = true by simp; omega] at FW
    clear h hm hv
    go_enter Tryz.func135, Tryz.ntmps135
    go_wp2_with (first
      | (go_at_call 133; (with_reducible refine (CQ.out).mono ?_); rintro e w1 ⟨rfl, hb9⟩; have HB1 := Lib.hid hb9; clear hb9)
      | (go_at_call 139; (with_reducible refine (FW.out _ HB1.out).mono ?_); rintro e w2 ⟨rfl, hb9⟩; have HB2 := Lib.hid (below_call HB1.out hb9 (Nat.le_refl _)); clear hb9)
      | (go_at_call 140; (with_reducible refine (CP.out _).mono ?_); rintro e w3 ⟨rfl, hb9⟩; have HB3 := Lib.hid (below_call HB2.out hb9 (Nat.le_refl _)); clear hb9))
    go_ret2
    exact ⟨rfl, HB3.out⟩
  · clear h hm hv
    go_enter Tryz.func135, Tryz.ntmps135
    go_wp2_with (first
      | (go_at_call 133; (with_reducible refine (CQ.out).mono ?_); rintro e w1 ⟨rfl, hb9⟩; have HB1 := Lib.hid hb9; clear hb9)
      
      | (go_at_call 140; (with_reducible refine (CP.out _).mono ?_); rintro e w3 ⟨rfl, hb9⟩; have HB3 := Lib.hid (below_call HB1.out hb9 (Nat.le_refl _)); clear hb9))
    go_ret2
    exact ⟨rfl, HB3.out⟩
def sumV (md : Int) (L : List Int) (k d : Int) : Int := if exCode md L k d = 0 then num L k + d else 0
theorem esum_any (p : Addr) (F : Nat → Prop) (c : Cfg) (l : Int) (L : List Int) (k d : Int) (w : World) (h : EX w p F c l L) (k0 : 0 ≤ k) (k1 : k ≤ 18446744073709551615) (d0 : -9223372036854775808 ≤ d) (d1 : d ≤ 9223372036854775807) :
    Calls Tryz.prog 135 #[.pointer (some p), .int .u64 k, .int .i64 d] w fun e w' => e = .returned (.tuple #[.int .i64 (sumV c.md L k d), .int .i64 (exCode c.md L k d)]) ∧ Below w.heap.size w w' := by
  by_cases hk : (L.length : Int) ≤ k
  · have e := ex_key (md := c.md) (d := d) hk
    rw [show sumV c.md L k d = 0 by unfold sumV; rw [e.1]; rfl, e.1]
    exact esum_no p F c l L k d w h k0 k1 d0 d1 hk
  have hk2 : k < (L.length : Int) := by omega
  by_cases hm : c.md = 2 ∧ d < 0
  · have e := ex_mode (md := c.md) (d := d) hk2 hm
    rw [show sumV c.md L k d = 0 by unfold sumV; rw [e.1]; rfl, e.1]
    exact esum_mode p F c l L k d w h k0 k1 d0 d1 hk2 hm
  cases hf : Wid.fit64 (num L k + d) with
  | true =>
    have e := ex_yes (md := c.md) hk2 hm hf
    rw [show sumV c.md L k d = num L k + d by unfold sumV; rw [e.1]; rfl, e.1]
    exact esum_yes p F c l L k d w h k0 k1 d0 d1 hk2 hm hf
  | false =>
    have e := ex_over (md := c.md) hk2 hm hf
    rw [show sumV c.md L k d = 0 by unfold sumV; rw [e.1]; rfl, e.1]
    exact esum_over p F c l L k d w h k0 k1 d0 d1 hk2 hm hf
set_option maxRecDepth 100000 in
set_option maxHeartbeats 4000000 in
theorem echeck_any (p : Addr) (F : Nat → Prop) (c : Cfg) (l : Int) (L : List Int) (k d : Int) (w : World) (h : EX w p F c l L) (k0 : 0 ≤ k) (k1 : k ≤ 18446744073709551615) (d0 : -9223372036854775808 ≤ d) (d1 : d ≤ 9223372036854775807) :
    Calls Tryz.prog 129 #[.pointer (some p), .int .u64 k, .int .i64 d] w fun e w' => e = .returned (.int .i64 (exCode c.md L k d)) ∧ Below w.heap.size w w' := by
  have CS := Lib.hid (esum_any p F c l L k d w h k0 k1 d0 d1)
  clear h
  go_enter Tryz.func129, Tryz.ntmps129
  go_wp2_with (go_at_call 135; (with_reducible refine (CS.out).mono ?_); rintro e w1 ⟨rfl, hb9⟩; have HB1 := Lib.hid hb9; clear hb9)
  go_ret
  exact ⟨rfl, HB1.out⟩
set_option maxRecDepth 100000 in
set_option maxHeartbeats 4000000 in
theorem eupd_no (p : Addr) (F : Nat → Prop) (c : Cfg) (l : Int) (L : List Int) (k d : Int) (w : World) (h : EX w p F c l L) (k0 : 0 ≤ k) (k1 : k ≤ 18446744073709551615) (d0 : -9223372036854775808 ≤ d) (d1 : d ≤ 9223372036854775807) (hz : exCode c.md L k d ≠ 0) :
    Calls Tryz.prog 134 #[.pointer (some p), .int .u64 k, .int .i64 d] w fun e w' => e = .returned (.int .i64 (exCode c.md L k d)) ∧ Below w.heap.size w w' := by
  have CS := Lib.hid (esum_any p F c l L k d w h k0 k1 d0 d1)
  obtain ⟨V, hV⟩ : ∃ V, exCode c.md L k d = V := ⟨_, rfl⟩
  rw [hV] at CS hz ⊢
  have hz2 : (V == 0) = false := by simpa using hz
  clear h hV
  go_enter Tryz.func134, Tryz.ntmps134
  go_wp2_with (go_at_call 135; (with_reducible refine (CS.out).mono ?_); rintro e w1 ⟨rfl, hb9⟩; have HB1 := Lib.hid hb9; clear hb9)
  go_ret
  exact ⟨rfl, HB1.out⟩
set_option maxRecDepth 100000 in
set_option maxHeartbeats 4000000 in
theorem eupd_yes (p : Addr) (F : Nat → Prop) (c : Cfg) (l : Int) (L : List Int) (k d : Int) (w : World) (h : EX w p F c l L) (k0 : 0 ≤ k) (k1 : k ≤ 18446744073709551615) (d0 : -9223372036854775808 ≤ d) (d1 : d ≤ 9223372036854775807) (hz : exCode c.md L k d = 0) :
    Calls Tryz.prog 134 #[.pointer (some p), .int .u64 k, .int .i64 d] w fun e w' => e = .returned (.int .i64 0) ∧ ∃ F', EX w' p F' c l (exRes c.md L k d) ∧ Kept F w w' ∧ (∀ q, F' q → F q ∨ w.heap.size ≤ q) := by
  have CS := Lib.hid (esum_any p F c l L k d w h k0 k1 d0 d1)
  have hx := ex_zero hz
  have hfz := in64_fit hx.2
  rw [show sumV c.md L k d = num L k + d from if_pos hz, hz] at CS
  rw [show exRes c.md L k d = L.set k.toNat (num L k + d) from if_pos hz]
  obtain ⟨S, hS⟩ : ∃ S, num L k + d = S := ⟨_, rfl⟩
  rw [hS] at CS hfz ⊢
  obtain ⟨hr, hok, hl0, hl1, hlk, hn1, hn8, b, gp, G, rfl, hb, hg, hGb, rfl⟩ := h
  have hbl := size_of_heap hb
  have c0w := grd_cell hb 0 (v := .pointer (some gp)) rfl
  have u1 : IntKind.i64.wrap k = k := IntWalk.i64_in _ ⟨by omega, by omega⟩
  have PT : Hid (∀ w', Below w.heap.size w w' → Calls Tryz.prog 137 #[.pointer (some gp), .int .i64 0, .int .i64 k, .int .i64 S] w' fun e w2 => (∃ b, e = .returned (.bool b)) ∧ ∃ G', PG w2 gp G' 1 L.length [L.set k.toNat S] ∧ Kept G w w2 ∧ (∀ q, G' q → G q ∨ w.heap.size ≤ q)) := Lib.hid (fun w' hb2 => (put_any gp G 1 L.length [L] 0 k S w' (pg_up hg hb2) (by omega) (by omega) (by omega) (by omega) hfz.1 hfz.2).mono (fun e w2 ⟨e1, G', h1, h2, h3⟩ => ⟨⟨_, e1⟩, G', by rw [← set_one L k0 hx.1 S]; exact h1, (Kept.of_below hb2).trans h2 (fun q hq h => h), fun q hq => (h3 q hq).elim .inl (fun h => .inr (Nat.le_trans hb2.size h))⟩))
  have HT : Hid (∀ w' G', PG w' gp G' 1 L.length [L.set k.toNat S] → Kept G w w' → (∀ k, G' k → G k ∨ w.heap.size ≤ k) → ∃ F', EX w' ⟨b, 0, none⟩ F' c l (L.set k.toNat S) ∧ Kept (fun k => k = b ∨ G k) w w' ∧ (∀ q, F' q → (q = b ∨ G q) ∨ w.heap.size ≤ q)) := Lib.hid (fun w' G' h1 h2 h3 => ex_turn hr hok hl0 hl1 hlk hn1 hn8 hb hGb (List.length_set ..) h1 h2 h3)
  have HX := Lib.hid hfz
  clear hb hg hz hx hfz hS
  go_enter Tryz.func134, Tryz.ntmps134
  go_wp2_with (go_at_call 135; (with_reducible refine (CS.out).mono ?_); rintro e w1 ⟨rfl, hb9⟩; have HB1 := Lib.hid hb9; have x0 := cell_up c0w hb9; clear hb9)
  go_wp2_with (go_at_call 137; (with_reducible refine (PT.out _ HB1.out).mono ?_); rintro e w6 ⟨⟨bb, rfl⟩, G6, hp6, hk6, hf6⟩; have HP6 := Lib.hid hp6; have HK6 := Lib.hid hk6; have HF6 := Lib.hid hf6; clear hp6 hk6 hf6)
  go_ret
  exact ⟨rfl, HT.out _ _ HP6.out HK6.out HF6.out⟩
theorem eupd_any (p : Addr) (F : Nat → Prop) (c : Cfg) (l : Int) (L : List Int) (k d : Int) (w : World) (h : EX w p F c l L) (k0 : 0 ≤ k) (k1 : k ≤ 18446744073709551615) (d0 : -9223372036854775808 ≤ d) (d1 : d ≤ 9223372036854775807) :
    Calls Tryz.prog 134 #[.pointer (some p), .int .u64 k, .int .i64 d] w fun e w' => e = .returned (.int .i64 (exCode c.md L k d)) ∧ ∃ F', EX w' p F' c l (exRes c.md L k d) ∧ Kept F w w' ∧ (∀ q, F' q → F q ∨ w.heap.size ≤ q) := by
  by_cases hz : exCode c.md L k d = 0
  · rw [hz]
    exact eupd_yes p F c l L k d w h k0 k1 d0 d1 hz
  · rw [show exRes c.md L k d = L from if_neg hz]
    exact (eupd_no p F c l L k d w h k0 k1 d0 d1 hz).mono (fun e w' h2 => ⟨h2.1, F, h.up h2.2, Kept.of_below h2.2, fun q hq => .inl hq⟩)
/-- s: 1 for Merge, -1 for Subtract. -/
def mgC (s : Int) (c d : Cfg) (l l' : Int) (L M : List Int) : Int :=
  if cfgE c d = true ∧ l = l' then (if s = -1 ∧ c.md = 2 then 3 else exJ s L M) else 5
def mgR (s : Int) (c d : Cfg) (l l' : Int) (L M : List Int) : List Int :=
  if cfgE c d = true ∧ l = l' then (if s = -1 ∧ c.md = 2 then L else exM s L M) else L
end Go.Proofs.YtmdkdjgamhaeoaaGreat.Exa
