/- The statement LevelApart of layer 13 holds: a copy is a level of its own. Printed by wip/gen/levapart.py. -/
import Derived.Test.YtkannodfamnmcaaGreatMm
import Derived.Deep.LoopGhost
import Derived.Deep.RegionHeld3
import Derived.Deep.DeepCutAuto
import Derived.Deep.QuietTactic
import Derived.BigQuiet
namespace Go.Proofs.YtkannodfamnmcaaGreat.Lev
open Go Go.RowKit Lw Grd Lin Con Shp Sk Exa Inn
set_option linter.unusedVariables false
set_option linter.unusedSimpArgs false
theorem naA_Config (p : Addr) (w : World) : (nilAhead 333 76 (.pointer (some p)) "Config").run Tryz.prog w = .ok (some false) w := by kernel_rfl
theorem naA_Level (p : Addr) (w : World) : (nilAhead 333 76 (.pointer (some p)) "Level").run Tryz.prog w = .ok (some false) w := by kernel_rfl
theorem naA_Cells (p : Addr) (w : World) : (nilAhead 333 76 (.pointer (some p)) "Cells").run Tryz.prog w = .ok (some false) w := by kernel_rfl
theorem naS_Config (p : Addr) (w : World) : (nilAhead 333 68 (.pointer (some p)) "Config").run Tryz.prog w = .ok (some false) w := by kernel_rfl
theorem naS_Level (p : Addr) (w : World) : (nilAhead 333 68 (.pointer (some p)) "Level").run Tryz.prog w = .ok (some false) w := by kernel_rfl
theorem naS_Cells (p : Addr) (w : World) : (nilAhead 333 68 (.pointer (some p)) "Cells").run Tryz.prog w = .ok (some false) w := by kernel_rfl
theorem open_upd_c : Tryz.prog.cellsOf 63 = 2 := by kernel_rfl
set_option maxRecDepth 100000 in
theorem open_upd {H : Type} {enc : TypeId × Value → H} {w : World} {v : Value} {d : DataW H} {p : List MemPlace} {base : Nat} (hv : Value.okWide Tryz.prog w .any base 63 v)
    (h : DataW.Trod enc Tryz.prog w 0 (fun _ => true) true 63 v d p) :
    ∃ (x0 : Int) (x1 : Int), v = .agg #[.int .u64 x0, .int .i64 x1] ∧ (0 ≤ x0 ∧ x0 ≤ 18446744073709551615) ∧ (-9223372036854775808 ≤ x1 ∧ x1 ≤ 9223372036854775807) := by
  have hcs : ∃ cs : Array Value, v = .agg cs ∧ cs.size = Tryz.prog.cellsOf 63 := by
    simp only [Value.okWide, Tryz.underlying63] at hv
    obtain ⟨cs, h1, h2, _⟩ := hv
    exact ⟨cs, h1, h2⟩
  obtain ⟨⟨l⟩, rfl, hsz⟩ := hcs
  rw [open_upd_c] at hsz
  obtain ⟨fuel, hf0⟩ := h
  obtain ⟨xs, k, _, _, _, hxl, hf⟩ := DataW.trod_struct Tryz.underlying63 hf0
  match xs, hxl, l, hsz with
  | [y0, y1], _, [v0, v1], _ =>
    have g0 := hf 0 _ rfl
    have g1 := hf 1 _ rfl
    simp [Value.cells, show Tryz.prog.cellsOf 22 = 1 from by kernel_rfl, show Tryz.prog.cellsOf 2 = 1 from by kernel_rfl] at g0 g1
    obtain ⟨x0, f0, _, w0⟩ := DataW.trod_int (show Tryz.prog.underlying 22 = some (.int .u64) by kernel_rfl) g0
    simp at f0
    subst f0
    obtain ⟨x1, f1, _, w1⟩ := DataW.trod_int (show Tryz.prog.underlying 2 = some (.int .i64) by kernel_rfl) g1
    simp at f1
    subst f1
    exact ⟨x0, x1, rfl, Lw.wf_u64 w0, Lw.wf_i64 w1⟩
theorem dv_lt (b : Bool) (d : Int) : -1099511627776 < dv b d ∧ dv b d < 1099511627776 := by
  have := tmod_bd d
  unfold dv
  split
  · split <;> omega
  · omega
theorem cut_lt (c : Cfg) (l : Int) (u : Int × Int) : -1099511627776 < (cutU c l u).2 ∧ (cutU c l u).2 < 1099511627776 := dv_lt _ _
theorem flat_eq {m n : Nat} {L M : List (List Int)} (hL : Sz m n L) (hM : Sz m n M) (h : L.flatten = M.flatten) : L = M := by
  refine sz_ext hL hM fun r q hr hq => ?_
  rw [cel_flat hL hr hq, cel_flat hM hr hq, h]
theorem newS_ne {c : Cfg} {l : Int} {us : Ups} {u : Int × Int} (hr : IsRight c) (h : UpsIn c l us) (hl : us.length ≤ 60) (hu : UpsIn c l [u]) (hp : 1 ≤ u.2) : (cells c l (us ++ [u])).flatten ≠ (cells c l us).flatten := by
  have hu1 := hu.1 u (by simp)
  have hk : ¬ keys c l ≤ u.1 := by omega
  have hm := cols_meet hu1.1 hu1.2.1
  obtain ⟨hc, hv⟩ := up_ok hr h hl hu
  have hs := cells_sz h
  obtain ⟨L, hL⟩ : ∃ L, cells c l us = L := ⟨_, rfl⟩
  rw [hL] at hc hv hs ⊢
  rw [← hv]
  obtain ⟨K, hK⟩ : ∃ K, cols c l u.1 = K := ⟨_, rfl⟩
  unfold upCode at hc
  unfold upRes
  rw [hK] at hc hm ⊢
  rw [if_neg hk] at hc ⊢
  by_cases h2 : c.md = 2
  · rw [if_pos h2] at hc ⊢
    have hnd : ¬ u.2 < 0 := by omega
    unfold rsCode at hc
    unfold rsRes
    rw [if_pos hm, if_neg hnd] at hc
    by_cases hf : Wid.fit64 (lea L K + u.2) = true
    · rw [if_pos ⟨hm, by omega, hf⟩]
      intro e
      have e2 := flat_eq (sz_raised hs hm.2.1 _) hs e
      have e3 := lea_raised hs hm (x := lea L K + u.2) (by omega)
      rw [e2] at e3
      omega
    · rw [if_neg hf] at hc
      omega
  · rw [if_neg h2] at hc ⊢
    unfold chCode at hc
    unfold chRes
    rw [if_pos hm] at hc
    by_cases hf : chFits L K u.2 = true
    · rw [if_pos ⟨hm, hf⟩]
      intro e
      have e2 := flat_eq (sz_changed hs hm.2.1 _) hs e
      have hK0 : 0 < K.length := by have := hm.1; have := hm.2.1; omega
      have h0 : K[0]? = some K[0] := List.getElem?_eq_getElem hK0
      have h1 := hm.2.2 _ (List.mem_of_getElem? h0)
      have e3 := cel_changed hs hm u.2 (r := 0) (c := (K[0]).toNat) (by have := hm.1; omega) (by omega)
      rw [e2, h0, if_pos (by rw [Int.toNat_of_nonneg h1.1])] at e3
      omega
    · rw [if_neg hf] at hc
      omega
theorem newA_ne {md : Int} {L : List Int} {k d : Int} (hz : exCode md L k d = 0) (k0 : 0 ≤ k) (hp : 1 ≤ d) : exRes md L k d ≠ L := by
  obtain ⟨hk, hf⟩ := ex_zero hz
  rw [(ex_yes hk (fun h => by omega) hf).2]
  intro e
  have e2 := congrArg (fun M => num M k) e
  simp only [num] at e2
  rw [List.getElem?_set_self (by omega)] at e2
  simp only [Option.getD_some] at e2
  omega
set_option maxRecDepth 100000 in
set_option maxHeartbeats 16000000 in
theorem apart_A (x : Cfg) (lv : Int) (A : Option Addr) (n0 k0 : Nat) (qs : Ups) (uk ud : Int) (w : World) (hx : x.Ok) (hlv : -9223372036854775808 ≤ lv ∧ lv ≤ 9223372036854775807) (hq : UpdV w A n0 k0 qs) (hub : 0 ≤ uk ∧ uk ≤ 18446744073709551615) (hdb : -9223372036854775808 ≤ ud ∧ ud ≤ 9223372036854775807) (c : Cfg) (hC : anyC x 8 9 = c) (X1 l : Int) (a1 : bits .and .i64 lv 65535 = X1) (b1 : 0 ≤ X1) (c1 : X1 ≤ 65535) (dd1 : Int.tmod X1 (c.bt + 1) = l) (ee1 : 0 ≤ l) (ff1 : l < c.bt + 1) (n : Nat) (hn : keys c l = (n : Int)) (hxa : exactB c l = true) :
    Calls Tryz.prog 5 #[.agg #[.int .i64 x.bt, .int .i64 x.rw, .int .i64 x.wd, .int .i64 x.md, .int .u64 x.sd, .int .i64 lv, .slice A n0 k0], .agg #[.int .u64 uk, .int .i64 ud]] w fun e w' => e = .returned (.bool true) ∧ Below w.heap.size w w' := by
  have hr := any_right x 8 9 (by omega) (by omega) (by omega) (by omega)
  have hco := any_ok x hx 8 9 (by omega) (by omega) (by omega) (by omega)
  have hb8 : (anyC x 8 9).bt ≤ 8 := by
    show 1 + x.bt % 65536 % 8 ≤ 8
    omega
  rw [hC] at hr hco hb8
  have hbt := hr.1
  have hkeys : 1 ≤ keys c l := keys_pos.2 ⟨hr, by omega, by omega⟩
  have FD := Lib.hid (fun w hq => fed_A x lv A n0 k0 qs 0 60 0 60 c l w hx hlv hq rfl rfl (by omega) (by omega) hC X1 a1 b1 c1 dd1 ee1 ff1 n hn hxa)
  have CT := Lib.hid (fun w => rcut10_any c l uk ud w hco (by omega) (by omega) hub.1 hub.2 hdb.1 hdb.2 hkeys)
  have hcu := cutU_ok hkeys (uk, ud)
  have hcl := cut_lt c l (uk, ud)
  obtain ⟨U, hU⟩ : ∃ U, (cutU c l (uk, ud)).1 = U := ⟨_, rfl⟩
  obtain ⟨D, hD⟩ : ∃ D, (cutU c l (uk, ud)).2 = D := ⟨_, rfl⟩
  rw [hU, hD] at CT hcu
  rw [hD] at hcl
  obtain ⟨E, hE⟩ : ∃ E, 1 + max D (-D) = E := ⟨_, rfl⟩
  have hEb : 1 ≤ E ∧ E ≤ 1099511627776 := by omega
  have hin := upsR_in hkeys qs 0 60
  have hlen := upsR_len c l qs 0 60
  have hone : UpsIn c l [(U, E)] := by
    refine ⟨fun u hu => ?_, fun _ u hu => ?_⟩
    · rw [List.mem_singleton.1 hu]
      exact ⟨hcu.1, hcu.2.1, by show -1099511627776 ≤ E; omega, by show E ≤ 1099511627776; omega⟩
    · rw [List.mem_singleton.1 hu]
      show 0 ≤ E
      omega
  have hkb := keys_bd c l
  have hst := sums_step (md := c.md) (K := n) (us := (upsR c l qs 0 60)) (u := (U, E)) hcu.1 (by have := hcu.2.1; rw [hn] at this; exact this) hlen (fun v hv => by
    rcases List.mem_append.1 hv with h | h
    · exact ⟨(hin.1 v h).2.2.1, (hin.1 v h).2.2.2⟩
    · rw [List.mem_singleton.1 h]
      exact ⟨by show -1099511627776 ≤ E; omega, by show E ≤ 1099511627776; omega⟩) (fun _ => by show 0 ≤ E; omega)
  have hne := newA_ne hst.1 hcu.1 hEb.1
  rw [hst.2] at hne
  have hl1 := sums_len n (upsR c l qs 0 60)
  have hl2 := sums_len n ((upsR c l qs 0 60) ++ [(U, E)])
  have hn8 : n ≤ 128 := by have := exact_len hxa; omega
  obtain ⟨N, hN⟩ : ∃ N, sums n (upsR c l qs 0 60) = N := ⟨_, rfl⟩
  obtain ⟨M, hM⟩ : ∃ M, sums n ((upsR c l qs 0 60) ++ [(U, E)]) = M := ⟨_, rfl⟩
  rw [hN] at FD hst hne hl1
  rw [hM] at hst hne hl2
  have CC := Lib.hid (fun p F w h => ecells_mid p F c l N w h)
  have CC2 := Lib.hid (fun p F w h => ecells_mid p F c l M w h)
  have CO := Lib.hid (fun p F w h => vcopy_A p F c l N w h)
  have CU := Lib.hid (fun p F w h => eupd_any p F c l N U E w h hcu.1 (by omega) (by omega) (by omega))
  rw [hst.1, hst.2] at CU
  have CF := Lib.hid (fun p F w h => econfig_any p F c l M w h)
  have CLV := Lib.hid (fun p F w h => elevel_any p F c l M w h)
  rw [hl1] at CC
  rw [hl2] at CC2
  have F1 := Lib.hid hl1
  have F2 := Lib.hid hl2
  have eqN : decide (N = N) = true := decide_eq_true rfl
  have neN : decide (M = N) = false := decide_eq_false hne
  have HQ := Lib.hid hq
  have HBX : Hid (Have w ((w.alloc (.cells #[.int .i64 x.bt, .int .i64 x.rw, .int .i64 x.wd, .int .i64 x.md, .int .u64 x.sd, .int .i64 lv, .slice A n0 k0] 61)).alloc (.cells #[.int .u64 uk, .int .i64 ud] 63)) [boxT (w.heap.size + 1) 63 #[.int .u64 uk, .int .i64 ud], boxT w.heap.size 61 #[.int .i64 x.bt, .int .i64 x.rw, .int .i64 x.wd, .int .i64 x.md, .int .u64 x.sd, .int .i64 lv, .slice A n0 k0]]) := Lib.hid (two_boxs w _ _ _ _)
  have hsg : (D < 0 ∧ D ≤ -D ∧ wrap64 (-D) = -D ∧ IntKind.i64.wrap (-D) = -D ∧ wrap64 (1 + -D) = E ∧ IntKind.i64.wrap (1 + -D) = E) ∨ (0 ≤ D ∧ -D ≤ D ∧ wrap64 (-D) = -D ∧ IntKind.i64.wrap (-D) = -D ∧ wrap64 (1 + D) = E ∧ IntKind.i64.wrap (1 + D) = E) := by
    by_cases h : D < 0
    · refine .inl ⟨h, by omega, IntWalk.wrap64_in _ ⟨by omega, by omega⟩, IntWalk.i64_in _ ⟨by omega, by omega⟩, ?_, ?_⟩
      · rw [show 1 + -D = E by omega]; exact IntWalk.wrap64_in _ ⟨by omega, by omega⟩
      · rw [show 1 + -D = E by omega]; exact IntWalk.i64_in _ ⟨by omega, by omega⟩
    · refine .inr ⟨by omega, by omega, IntWalk.wrap64_in _ ⟨by omega, by omega⟩, IntWalk.i64_in _ ⟨by omega, by omega⟩, ?_, ?_⟩
      · rw [show 1 + D = E by omega]; exact IntWalk.wrap64_in _ ⟨by omega, by omega⟩
      · rw [show 1 + D = E by omega]; exact IntWalk.i64_in _ ⟨by omega, by omega⟩
  have HSG := Lib.hid hsg
  clear hr hco hb8 hbt hkeys hcu hcl hU hD hE hEb hin hlen hone hst hne hl1 hl2 hN hM hq hx hC hxa hlv hsg hub hdb hkb a1 b1 c1 dd1 hn
  have nCells := naA_Cells
  have nConfig := naA_Config
  have nLevel := naA_Level
  go_enter Tryz.func5, Tryz.ntmps5
  go_upto_region 10 with (first
    | (go_at_call 24; (with_reducible refine (CT.out _).mono ?_); rintro e w6 ⟨rfl, hb⟩; have HV6 := Lib.hid ((HV5.out.up hb).push (boxT w6.heap.size 63 #[.int .u64 U, .int .i64 D]) (Lw.below_alloc (Below.refl _ _) _) (heap_alloc_new w6 _) (fun k hk => Nat.le_of_eq hk.symm)); clear hb; clear y0 y1 x0 x1 x2 x3 x4 x5 x6; clear e0 e1 e2 e3 e4; obtain ⟨e0, e1, e2, e3, e4⟩ := box5 HV6.out.i3; obtain ⟨d0, d1⟩ := box2 HV6.out.i0)
    | (go_at_call_of 87 (Value.pointer (some p)); (with_reducible refine (CC.out p F _ (exI HV4.out.i2)).mono ?_); rintro e w5 ⟨g1, cap1, rfl, h1, h2, -, -, hb⟩; have HV5 := Lib.hid (HV4.out.push (midT g1 N) hb h1 (fun k hk => by subst hk; exact h2)); clear h1 h2 hb; clear y0 y1 x0 x1 x2 x3 x4 x5 x6; obtain ⟨y0, y1⟩ := box2 HV5.out.i4; obtain ⟨x0, x1, x2, x3, x4, x5, x6⟩ := box7 HV5.out.i5; clear e0 e1 e2 e3 e4; obtain ⟨e0, e1, e2, e3, e4⟩ := box5 HV5.out.i2)
    | (go_at_call 17; (with_reducible refine (CO.out p F _ (exI HV3.out.i1)).mono ?_); rintro e w4 ⟨q, G, rfl, h1, h2, hb⟩; have HV4 := Lib.hid (HV3.out.push (exT q G c l N) hb h1 h2); clear h1 h2 hb; clear y0 y1 x0 x1 x2 x3 x4 x5 x6; obtain ⟨y0, y1⟩ := box2 HV4.out.i3; obtain ⟨x0, x1, x2, x3, x4, x5, x6⟩ := box7 HV4.out.i4; clear e0 e1 e2 e3 e4; obtain ⟨e0, e1, e2, e3, e4⟩ := box5 HV4.out.i1)
    | (go_at_call 23; (with_reducible refine (FD.out _ (HQ.out.up HV1.out.below)).mono ?_); rintro e w2 ⟨p, F, rfl, hv⟩; have HV2 := Lib.hid ((HV1.out.join hv)); simp only [List.cons_append, List.nil_append] at HV2; clear hv; have HV3 := Lib.hid (HV2.out.push (boxT w2.heap.size 24 #[.int .i64 c.bt, .int .i64 c.rw, .int .i64 c.wd, .int .i64 c.md, .int .u64 c.sd]) (Lw.below_alloc (Below.refl _ _) _) (heap_alloc_new w2 _) (fun k hk => Nat.le_of_eq hk.symm)); clear y0 y1 x0 x1 x2 x3 x4 x5 x6; obtain ⟨y0, y1⟩ := box2 HV3.out.i2; obtain ⟨x0, x1, x2, x3, x4, x5, x6⟩ := box7 HV3.out.i3; obtain ⟨e0, e1, e2, e3, e4⟩ := box5 HV3.out.i0)
    | (go_at_call 7; (with_reducible refine (shown_any _).mono ?_); rintro e w1 ⟨rfl, hb⟩; have HV1 := Lib.hid (HBX.out.up hb); clear hb; obtain ⟨y0, y1⟩ := box2 HV1.out.i0; obtain ⟨x0, x1, x2, x3, x4, x5, x6⟩ := box7 HV1.out.i1))
  obtain ⟨gu, hgu⟩ : ∃ gu, w6.heap.size = gu := ⟨_, rfl⟩
  obtain ⟨gc, hgc⟩ : ∃ gc, w2.heap.size = gc := ⟨_, rfl⟩
  rw [hgu, hgc] at HV6 ⊢
  rw [hgu] at d0 d1
  rw [hgc] at e0 e1 e2 e3 e4
  clear HV1 HV2 HV3 HV4 HV5 HBX HQ FD CO CT hgu hgc
  rcases HSG.out with ⟨s1, s2, s3, s4, s5, s6⟩ | ⟨s1, s2, s3, s4, s5, s6⟩
  all_goals clear HSG
  all_goals go_upto_region 11 with (go_at_call 183; (with_reducible refine (CU.out q G _ (exI HV6.out.i2)).mono ?_); rintro e w7 ⟨rfl, G2, h1, h2, h3⟩; have HV7 := Lib.hid (HV6.out.turn_2 (exT q G2 c l M) h1 h2 h3); clear h1 h2 h3 d0 d1; clear e0 e1 e2 e3 e4; obtain ⟨e0, e1, e2, e3, e4⟩ := box5 HV7.out.i3)
  all_goals clear s1 s2 s3 s4 s5 s6
  all_goals go_region_held3 (fun w' => w'.cell? ⟨gc, 0, none⟩ = some (.int .i64 c.bt) ∧ w'.cell? ⟨gc, 1, none⟩ = some (.int .i64 c.rw) ∧ w'.cell? ⟨gc, 2, none⟩ = some (.int .i64 c.wd) ∧ w'.cell? ⟨gc, 3, none⟩ = some (.int .i64 c.md) ∧ w'.cell? ⟨gc, 4, none⟩ = some (.int .u64 c.sd)) (first | (refine ⟨?_, ?_, ?_, ?_, ?_⟩ <;> (first | (with_reducible assumption) | (with_reducible refine cell_up e0 ?_) | (with_reducible refine cell_up e1 ?_) | (with_reducible refine cell_up e2 ?_) | (with_reducible refine cell_up e3 ?_) | (with_reducible refine cell_up e4 ?_)) <;> (repeat' (first | (with_reducible exact Below.refl _ _) | (with_reducible assumption) | (with_reducible refine below_over ?_ _ _) | (with_reducible refine Lw.below_alloc ?_ _) | (with_reducible refine Below.drew ?_) | (with_reducible refine below_drewN ?_ _) | (with_reducible refine Below.setCell ?_ ?_ _) | go_size)))) (first
    | (go_at_call 17; (with_reducible refine (vcopy_nil _).mono ?_); rintro e we ⟨rfl, hb⟩; have HVe := Lib.hid ((HVd.out.up (by repeat' (first | (with_reducible exact Below.refl _ _) | (with_reducible assumption) | (with_reducible refine below_over ?_ _ _) | (with_reducible refine Lw.below_alloc ?_ _) | (with_reducible refine Below.drew ?_) | (with_reducible refine below_drewN ?_ _) | (with_reducible refine Below.setCell ?_ ?_ _) | go_size))).up hb); clear hb; clear e0 e1 e2 e3 e4; obtain ⟨e0, e1, e2, e3, e4⟩ := box5 HVe.out.i5)
    | (go_at_call 86; (with_reducible refine (CLV.out q G2 _ (exI (HVc.out.up (by repeat' (first | (with_reducible exact Below.refl _ _) | (with_reducible assumption) | (with_reducible refine below_over ?_ _ _) | (with_reducible refine Lw.below_alloc ?_ _) | (with_reducible refine Below.drew ?_) | (with_reducible refine below_drewN ?_ _) | (with_reducible refine Below.setCell ?_ ?_ _) | go_size))).i4)).mono ?_); rintro e wd ⟨rfl, hb⟩; have HVd := Lib.hid ((HVc.out.up (by repeat' (first | (with_reducible exact Below.refl _ _) | (with_reducible assumption) | (with_reducible refine below_over ?_ _ _) | (with_reducible refine Lw.below_alloc ?_ _) | (with_reducible refine Below.drew ?_) | (with_reducible refine below_drewN ?_ _) | (with_reducible refine Below.setCell ?_ ?_ _) | go_size))).up hb); clear hb; clear e0 e1 e2 e3 e4; obtain ⟨e0, e1, e2, e3, e4⟩ := box5 HVd.out.i5)
    | (go_at_call 85; (with_reducible refine (CF.out q G2 _ (exI (HVb.out.up (by repeat' (first | (with_reducible exact Below.refl _ _) | (with_reducible assumption) | (with_reducible refine below_over ?_ _ _) | (with_reducible refine Lw.below_alloc ?_ _) | (with_reducible refine Below.drew ?_) | (with_reducible refine below_drewN ?_ _) | (with_reducible refine Below.setCell ?_ ?_ _) | go_size))).i4)).mono ?_); rintro e wc ⟨rfl, hb⟩; have HVc := Lib.hid ((HVb.out.up (by repeat' (first | (with_reducible exact Below.refl _ _) | (with_reducible assumption) | (with_reducible refine below_over ?_ _ _) | (with_reducible refine Lw.below_alloc ?_ _) | (with_reducible refine Below.drew ?_) | (with_reducible refine below_drewN ?_ _) | (with_reducible refine Below.setCell ?_ ?_ _) | go_size))).up hb); clear hb; clear e0 e1 e2 e3 e4; obtain ⟨e0, e1, e2, e3, e4⟩ := box5 HVc.out.i5)
    | (go_at_call 22; (with_reducible refine (rsame_any _ _ _ _ _ _ M N _ (midI (HVa.out.up (by repeat' (first | (with_reducible exact Below.refl _ _) | (with_reducible assumption) | (with_reducible refine below_over ?_ _ _) | (with_reducible refine Lw.below_alloc ?_ _) | (with_reducible refine Below.drew ?_) | (with_reducible refine below_drewN ?_ _) | (with_reducible refine Below.setCell ?_ ?_ _) | go_size))).i0).rd (midI (HVa.out.up (by repeat' (first | (with_reducible exact Below.refl _ _) | (with_reducible assumption) | (with_reducible refine below_over ?_ _ _) | (with_reducible refine Lw.below_alloc ?_ _) | (with_reducible refine Below.drew ?_) | (with_reducible refine below_drewN ?_ _) | (with_reducible refine Below.setCell ?_ ?_ _) | go_size))).i3).rd F2.out F1.out (by omega) (by omega)).mono ?_); rintro e wb ⟨rfl, hb⟩; have HVb := Lib.hid ((HVa.out.up (by repeat' (first | (with_reducible exact Below.refl _ _) | (with_reducible assumption) | (with_reducible refine below_over ?_ _ _) | (with_reducible refine Lw.below_alloc ?_ _) | (with_reducible refine Below.drew ?_) | (with_reducible refine below_drewN ?_ _) | (with_reducible refine Below.setCell ?_ ?_ _) | go_size))).up hb); clear hb; clear e0 e1 e2 e3 e4; obtain ⟨e0, e1, e2, e3, e4⟩ := box5 HVb.out.i5)
    | (go_at_call_of 87 (Value.pointer (some q)); (with_reducible refine (CC2.out q G2 _ (exI (HV9.out.up (by repeat' (first | (with_reducible exact Below.refl _ _) | (with_reducible assumption) | (with_reducible refine below_over ?_ _ _) | (with_reducible refine Lw.below_alloc ?_ _) | (with_reducible refine Below.drew ?_) | (with_reducible refine below_drewN ?_ _) | (with_reducible refine Below.setCell ?_ ?_ _) | go_size))).i3)).mono ?_); rintro e wa ⟨g3, cap3, rfl, h1, h2, -, -, hb⟩; have HVa := Lib.hid ((HV9.out.up (by repeat' (first | (with_reducible exact Below.refl _ _) | (with_reducible assumption) | (with_reducible refine below_over ?_ _ _) | (with_reducible refine Lw.below_alloc ?_ _) | (with_reducible refine Below.drew ?_) | (with_reducible refine below_drewN ?_ _) | (with_reducible refine Below.setCell ?_ ?_ _) | go_size))).push (midT g3 M) hb h1 (fun k hk => by subst hk; exact h2)); clear h1 h2 hb; clear e0 e1 e2 e3 e4; obtain ⟨e0, e1, e2, e3, e4⟩ := box5 HVa.out.i5)
    | (go_at_call 22; (with_reducible refine (rsame_any _ _ _ _ _ _ N N _ (midI (HV8.out.up (by repeat' (first | (with_reducible exact Below.refl _ _) | (with_reducible assumption) | (with_reducible refine below_over ?_ _ _) | (with_reducible refine Lw.below_alloc ?_ _) | (with_reducible refine Below.drew ?_) | (with_reducible refine below_drewN ?_ _) | (with_reducible refine Below.setCell ?_ ?_ _) | go_size))).i0).rd (midI (HV8.out.up (by repeat' (first | (with_reducible exact Below.refl _ _) | (with_reducible assumption) | (with_reducible refine below_over ?_ _ _) | (with_reducible refine Lw.below_alloc ?_ _) | (with_reducible refine Below.drew ?_) | (with_reducible refine below_drewN ?_ _) | (with_reducible refine Below.setCell ?_ ?_ _) | go_size))).i2).rd F1.out F1.out (by omega) (by omega)).mono ?_); rintro e w9 ⟨rfl, hb⟩; have HV9 := Lib.hid ((HV8.out.up (by repeat' (first | (with_reducible exact Below.refl _ _) | (with_reducible assumption) | (with_reducible refine below_over ?_ _ _) | (with_reducible refine Lw.below_alloc ?_ _) | (with_reducible refine Below.drew ?_) | (with_reducible refine below_drewN ?_ _) | (with_reducible refine Below.setCell ?_ ?_ _) | go_size))).up hb); clear hb; clear e0 e1 e2 e3 e4; obtain ⟨e0, e1, e2, e3, e4⟩ := box5 HV9.out.i4)
    | (go_at_call_of 87 (Value.pointer (some p)); (with_reducible refine (CC.out p F _ (exI (HV7.out.up (by repeat' (first | (with_reducible exact Below.refl _ _) | (with_reducible assumption) | (with_reducible refine below_over ?_ _ _) | (with_reducible refine Lw.below_alloc ?_ _) | (with_reducible refine Below.drew ?_) | (with_reducible refine below_drewN ?_ _) | (with_reducible refine Below.setCell ?_ ?_ _) | go_size))).i4)).mono ?_); rintro e w8 ⟨g2, cap2, rfl, h1, h2, -, -, hb⟩; have HV8 := Lib.hid ((HV7.out.up (by repeat' (first | (with_reducible exact Below.refl _ _) | (with_reducible assumption) | (with_reducible refine below_over ?_ _ _) | (with_reducible refine Lw.below_alloc ?_ _) | (with_reducible refine Below.drew ?_) | (with_reducible refine below_drewN ?_ _) | (with_reducible refine Below.setCell ?_ ?_ _) | go_size))).push (midT g2 N) hb h1 (fun k hk => by subst hk; exact h2)); clear h1 h2 hb; clear e0 e1 e2 e3 e4; obtain ⟨e0, e1, e2, e3, e4⟩ := box5 HV8.out.i4))
  all_goals go_wp2
  all_goals go_ret
  all_goals exact ⟨ret_bs (by first | rfl | (simp [*]; done)), (HVe.out.up (by repeat' (first | (with_reducible exact Below.refl _ _) | (with_reducible assumption) | (with_reducible refine below_over ?_ _ _) | (with_reducible refine Lw.below_alloc ?_ _) | (with_reducible refine Below.drew ?_) | (with_reducible refine below_drewN ?_ _) | (with_reducible refine Below.setCell ?_ ?_ _) | go_size))).below⟩
set_option maxRecDepth 100000 in
set_option maxHeartbeats 16000000 in
theorem apart_S (x : Cfg) (lv : Int) (A : Option Addr) (n0 k0 : Nat) (qs : Ups) (uk ud : Int) (w : World) (hx : x.Ok) (hlv : -9223372036854775808 ≤ lv ∧ lv ≤ 9223372036854775807) (hq : UpdV w A n0 k0 qs) (hub : 0 ≤ uk ∧ uk ≤ 18446744073709551615) (hdb : -9223372036854775808 ≤ ud ∧ ud ≤ 9223372036854775807) (c : Cfg) (hC : anyC x 8 9 = c) (X1 l : Int) (a1 : bits .and .i64 lv 65535 = X1) (b1 : 0 ≤ X1) (c1 : X1 ≤ 65535) (dd1 : Int.tmod X1 (c.bt + 1) = l) (ee1 : 0 ≤ l) (ff1 : l < c.bt + 1) (hxa : exactB c l = false) :
    Calls Tryz.prog 5 #[.agg #[.int .i64 x.bt, .int .i64 x.rw, .int .i64 x.wd, .int .i64 x.md, .int .u64 x.sd, .int .i64 lv, .slice A n0 k0], .agg #[.int .u64 uk, .int .i64 ud]] w fun e w' => e = .returned (.bool true) ∧ Below w.heap.size w w' := by
  have hr := any_right x 8 9 (by omega) (by omega) (by omega) (by omega)
  have hco := any_ok x hx 8 9 (by omega) (by omega) (by omega) (by omega)
  have hb8 : (anyC x 8 9).bt ≤ 8 := by
    show 1 + x.bt % 65536 % 8 ≤ 8
    omega
  rw [hC] at hr hco hb8
  have hbt := hr.1
  have hkeys : 1 ≤ keys c l := keys_pos.2 ⟨hr, by omega, by omega⟩
  have FD := Lib.hid (fun w hq => fed_S x lv A n0 k0 qs 0 60 0 60 c l w hx hlv hq rfl rfl (by omega) (by omega) hC X1 a1 b1 c1 dd1 ee1 ff1 hxa)
  have CT := Lib.hid (fun w => rcut10_any c l uk ud w hco (by omega) (by omega) hub.1 hub.2 hdb.1 hdb.2 hkeys)
  have hcu := cutU_ok hkeys (uk, ud)
  have hcl := cut_lt c l (uk, ud)
  obtain ⟨U, hU⟩ : ∃ U, (cutU c l (uk, ud)).1 = U := ⟨_, rfl⟩
  obtain ⟨D, hD⟩ : ∃ D, (cutU c l (uk, ud)).2 = D := ⟨_, rfl⟩
  rw [hU, hD] at CT hcu
  rw [hD] at hcl
  obtain ⟨E, hE⟩ : ∃ E, 1 + max D (-D) = E := ⟨_, rfl⟩
  have hEb : 1 ≤ E ∧ E ≤ 1099511627776 := by omega
  have hin := upsR_in hkeys qs 0 60
  have hlen := upsR_len c l qs 0 60
  have hone : UpsIn c l [(U, E)] := by
    refine ⟨fun u hu => ?_, fun _ u hu => ?_⟩
    · rw [List.mem_singleton.1 hu]
      exact ⟨hcu.1, hcu.2.1, by show -1099511627776 ≤ E; omega, by show E ≤ 1099511627776; omega⟩
    · rw [List.mem_singleton.1 hu]
      show 0 ≤ E
      omega
  have hkb := keys_bd c l
  have hst := up_ok hr hin hlen hone
  have hne := newS_ne hr hin hlen hone hEb.1
  have hl1 := lsz_flat (cells_sz hin)
  have hl2 : (cells c l ((upsR c l qs 0 60) ++ [(U, E)])).flatten.length = rws c * wds c := by
    refine lsz_flat (cells_sz ⟨fun v hv => ?_, fun hm v hv => ?_⟩)
    · rcases List.mem_append.1 hv with h | h
      · exact hin.1 v h
      · exact hone.1 v h
    · rcases List.mem_append.1 hv with h | h
      · exact hin.2 hm v h
      · exact hone.2 hm v h
  have hq9 : rws c * wds c ≤ 1024 := Nat.mul_le_mul (rws_bd hr).2.1 (wds_bd hr).2.1
  obtain ⟨N, hN⟩ : ∃ N, cells c l (upsR c l qs 0 60) = N := ⟨_, rfl⟩
  obtain ⟨M, hM⟩ : ∃ M, cells c l ((upsR c l qs 0 60) ++ [(U, E)]) = M := ⟨_, rfl⟩
  rw [hN] at FD hst hne hl1
  rw [hM] at hst hne hl2
  have CC := Lib.hid (fun p F w h => scells_mid p F c l N w h)
  have CC2 := Lib.hid (fun p F w h => scells_mid p F c l M w h)
  have CO := Lib.hid (fun p F w h => vcopy_S p F c l N w h)
  have CU := Lib.hid (fun p F w h => supd_any p F c l N U E w h hcu.1 (by omega) (by omega) (by omega))
  rw [hst.1, hst.2] at CU
  have CF := Lib.hid (fun p F w h => sconfig_any p F c l M w h)
  have CLV := Lib.hid (fun p F w h => slevel_any p F c l M w h)
  obtain ⟨Q, hQ⟩ : ∃ Q, rws c * wds c = Q := ⟨_, rfl⟩
  rw [hQ] at CC CC2 hl1 hl2 hq9
  have F1 := Lib.hid hl1
  have F2 := Lib.hid hl2
  have eqN : decide (N.flatten = N.flatten) = true := decide_eq_true rfl
  have neN : decide (M.flatten = N.flatten) = false := decide_eq_false hne
  have HQ := Lib.hid hq
  have HBX : Hid (Have w ((w.alloc (.cells #[.int .i64 x.bt, .int .i64 x.rw, .int .i64 x.wd, .int .i64 x.md, .int .u64 x.sd, .int .i64 lv, .slice A n0 k0] 61)).alloc (.cells #[.int .u64 uk, .int .i64 ud] 63)) [boxT (w.heap.size + 1) 63 #[.int .u64 uk, .int .i64 ud], boxT w.heap.size 61 #[.int .i64 x.bt, .int .i64 x.rw, .int .i64 x.wd, .int .i64 x.md, .int .u64 x.sd, .int .i64 lv, .slice A n0 k0]]) := Lib.hid (two_boxs w _ _ _ _)
  have hsg : (D < 0 ∧ D ≤ -D ∧ wrap64 (-D) = -D ∧ IntKind.i64.wrap (-D) = -D ∧ wrap64 (1 + -D) = E ∧ IntKind.i64.wrap (1 + -D) = E) ∨ (0 ≤ D ∧ -D ≤ D ∧ wrap64 (-D) = -D ∧ IntKind.i64.wrap (-D) = -D ∧ wrap64 (1 + D) = E ∧ IntKind.i64.wrap (1 + D) = E) := by
    by_cases h : D < 0
    · refine .inl ⟨h, by omega, IntWalk.wrap64_in _ ⟨by omega, by omega⟩, IntWalk.i64_in _ ⟨by omega, by omega⟩, ?_, ?_⟩
      · rw [show 1 + -D = E by omega]; exact IntWalk.wrap64_in _ ⟨by omega, by omega⟩
      · rw [show 1 + -D = E by omega]; exact IntWalk.i64_in _ ⟨by omega, by omega⟩
    · refine .inr ⟨by omega, by omega, IntWalk.wrap64_in _ ⟨by omega, by omega⟩, IntWalk.i64_in _ ⟨by omega, by omega⟩, ?_, ?_⟩
      · rw [show 1 + D = E by omega]; exact IntWalk.wrap64_in _ ⟨by omega, by omega⟩
      · rw [show 1 + D = E by omega]; exact IntWalk.i64_in _ ⟨by omega, by omega⟩
  have HSG := Lib.hid hsg
  clear hr hco hb8 hbt hkeys hcu hcl hU hD hE hEb hin hlen hone hst hne hl1 hl2 hN hM hq hx hC hxa hlv hsg hub hdb hkb a1 b1 c1 dd1 hQ
  have nCells := naS_Cells
  have nConfig := naS_Config
  have nLevel := naS_Level
  go_enter Tryz.func5, Tryz.ntmps5
  go_upto_region 10 with (first
    | (go_at_call 24; (with_reducible refine (CT.out _).mono ?_); rintro e w6 ⟨rfl, hb⟩; have HV6 := Lib.hid ((HV5.out.up hb).push (boxT w6.heap.size 63 #[.int .u64 U, .int .i64 D]) (Lw.below_alloc (Below.refl _ _) _) (heap_alloc_new w6 _) (fun k hk => Nat.le_of_eq hk.symm)); clear hb; clear y0 y1 x0 x1 x2 x3 x4 x5 x6; clear e0 e1 e2 e3 e4; obtain ⟨e0, e1, e2, e3, e4⟩ := box5 HV6.out.i3; obtain ⟨d0, d1⟩ := box2 HV6.out.i0)
    | (go_at_call_of 81 (Value.pointer (some p)); (with_reducible refine (CC.out p F _ (skI HV4.out.i2)).mono ?_); rintro e w5 ⟨g1, cap1, rfl, h1, h2, -, -, hb⟩; have HV5 := Lib.hid (HV4.out.push (midT g1 N.flatten) hb h1 (fun k hk => by subst hk; exact h2)); clear h1 h2 hb; clear y0 y1 x0 x1 x2 x3 x4 x5 x6; obtain ⟨y0, y1⟩ := box2 HV5.out.i4; obtain ⟨x0, x1, x2, x3, x4, x5, x6⟩ := box7 HV5.out.i5; clear e0 e1 e2 e3 e4; obtain ⟨e0, e1, e2, e3, e4⟩ := box5 HV5.out.i2)
    | (go_at_call 17; (with_reducible refine (CO.out p F _ (skI HV3.out.i1)).mono ?_); rintro e w4 ⟨q, G, rfl, h1, h2, hb⟩; have HV4 := Lib.hid (HV3.out.push (skT q G c l N) hb h1 h2); clear h1 h2 hb; clear y0 y1 x0 x1 x2 x3 x4 x5 x6; obtain ⟨y0, y1⟩ := box2 HV4.out.i3; obtain ⟨x0, x1, x2, x3, x4, x5, x6⟩ := box7 HV4.out.i4; clear e0 e1 e2 e3 e4; obtain ⟨e0, e1, e2, e3, e4⟩ := box5 HV4.out.i1)
    | (go_at_call 23; (with_reducible refine (FD.out _ (HQ.out.up HV1.out.below)).mono ?_); rintro e w2 ⟨p, F, rfl, hv⟩; have HV2 := Lib.hid ((HV1.out.join hv)); simp only [List.cons_append, List.nil_append] at HV2; clear hv; have HV3 := Lib.hid (HV2.out.push (boxT w2.heap.size 24 #[.int .i64 c.bt, .int .i64 c.rw, .int .i64 c.wd, .int .i64 c.md, .int .u64 c.sd]) (Lw.below_alloc (Below.refl _ _) _) (heap_alloc_new w2 _) (fun k hk => Nat.le_of_eq hk.symm)); clear y0 y1 x0 x1 x2 x3 x4 x5 x6; obtain ⟨y0, y1⟩ := box2 HV3.out.i2; obtain ⟨x0, x1, x2, x3, x4, x5, x6⟩ := box7 HV3.out.i3; obtain ⟨e0, e1, e2, e3, e4⟩ := box5 HV3.out.i0)
    | (go_at_call 7; (with_reducible refine (shown_any _).mono ?_); rintro e w1 ⟨rfl, hb⟩; have HV1 := Lib.hid (HBX.out.up hb); clear hb; obtain ⟨y0, y1⟩ := box2 HV1.out.i0; obtain ⟨x0, x1, x2, x3, x4, x5, x6⟩ := box7 HV1.out.i1))
  obtain ⟨gu, hgu⟩ : ∃ gu, w6.heap.size = gu := ⟨_, rfl⟩
  obtain ⟨gc, hgc⟩ : ∃ gc, w2.heap.size = gc := ⟨_, rfl⟩
  rw [hgu, hgc] at HV6 ⊢
  rw [hgu] at d0 d1
  rw [hgc] at e0 e1 e2 e3 e4
  clear HV1 HV2 HV3 HV4 HV5 HBX HQ FD CO CT hgu hgc
  rcases HSG.out with ⟨s1, s2, s3, s4, s5, s6⟩ | ⟨s1, s2, s3, s4, s5, s6⟩
  all_goals clear HSG
  all_goals go_upto_region 11 with (go_at_call 166; (with_reducible refine (CU.out q G _ (skI HV6.out.i2)).mono ?_); rintro e w7 ⟨rfl, G2, h1, h2, h3⟩; have HV7 := Lib.hid (HV6.out.turn_2 (skT q G2 c l M) h1 h2 h3); clear h1 h2 h3 d0 d1; clear e0 e1 e2 e3 e4; obtain ⟨e0, e1, e2, e3, e4⟩ := box5 HV7.out.i3)
  all_goals clear s1 s2 s3 s4 s5 s6
  all_goals go_region_held3 (fun w' => w'.cell? ⟨gc, 0, none⟩ = some (.int .i64 c.bt) ∧ w'.cell? ⟨gc, 1, none⟩ = some (.int .i64 c.rw) ∧ w'.cell? ⟨gc, 2, none⟩ = some (.int .i64 c.wd) ∧ w'.cell? ⟨gc, 3, none⟩ = some (.int .i64 c.md) ∧ w'.cell? ⟨gc, 4, none⟩ = some (.int .u64 c.sd)) (first | (refine ⟨?_, ?_, ?_, ?_, ?_⟩ <;> (first | (with_reducible assumption) | (with_reducible refine cell_up e0 ?_) | (with_reducible refine cell_up e1 ?_) | (with_reducible refine cell_up e2 ?_) | (with_reducible refine cell_up e3 ?_) | (with_reducible refine cell_up e4 ?_)) <;> (repeat' (first | (with_reducible exact Below.refl _ _) | (with_reducible assumption) | (with_reducible refine below_over ?_ _ _) | (with_reducible refine Lw.below_alloc ?_ _) | (with_reducible refine Below.drew ?_) | (with_reducible refine below_drewN ?_ _) | (with_reducible refine Below.setCell ?_ ?_ _) | go_size)))) (first
    | (go_at_call 17; (with_reducible refine (vcopy_nil _).mono ?_); rintro e we ⟨rfl, hb⟩; have HVe := Lib.hid ((HVd.out.up (by repeat' (first | (with_reducible exact Below.refl _ _) | (with_reducible assumption) | (with_reducible refine below_over ?_ _ _) | (with_reducible refine Lw.below_alloc ?_ _) | (with_reducible refine Below.drew ?_) | (with_reducible refine below_drewN ?_ _) | (with_reducible refine Below.setCell ?_ ?_ _) | go_size))).up hb); clear hb; clear e0 e1 e2 e3 e4; obtain ⟨e0, e1, e2, e3, e4⟩ := box5 HVe.out.i5)
    | (go_at_call 110; (with_reducible refine (CLV.out q G2 _ (skI (HVc.out.up (by repeat' (first | (with_reducible exact Below.refl _ _) | (with_reducible assumption) | (with_reducible refine below_over ?_ _ _) | (with_reducible refine Lw.below_alloc ?_ _) | (with_reducible refine Below.drew ?_) | (with_reducible refine below_drewN ?_ _) | (with_reducible refine Below.setCell ?_ ?_ _) | go_size))).i4)).mono ?_); rintro e wd ⟨rfl, hb⟩; have HVd := Lib.hid ((HVc.out.up (by repeat' (first | (with_reducible exact Below.refl _ _) | (with_reducible assumption) | (with_reducible refine below_over ?_ _ _) | (with_reducible refine Lw.below_alloc ?_ _) | (with_reducible refine Below.drew ?_) | (with_reducible refine below_drewN ?_ _) | (with_reducible refine Below.setCell ?_ ?_ _) | go_size))).up hb); clear hb; clear e0 e1 e2 e3 e4; obtain ⟨e0, e1, e2, e3, e4⟩ := box5 HVd.out.i5)
    | (go_at_call 80; (with_reducible refine (CF.out q G2 _ (skI (HVb.out.up (by repeat' (first | (with_reducible exact Below.refl _ _) | (with_reducible assumption) | (with_reducible refine below_over ?_ _ _) | (with_reducible refine Lw.below_alloc ?_ _) | (with_reducible refine Below.drew ?_) | (with_reducible refine below_drewN ?_ _) | (with_reducible refine Below.setCell ?_ ?_ _) | go_size))).i4)).mono ?_); rintro e wc ⟨rfl, hb⟩; have HVc := Lib.hid ((HVb.out.up (by repeat' (first | (with_reducible exact Below.refl _ _) | (with_reducible assumption) | (with_reducible refine below_over ?_ _ _) | (with_reducible refine Lw.below_alloc ?_ _) | (with_reducible refine Below.drew ?_) | (with_reducible refine below_drewN ?_ _) | (with_reducible refine Below.setCell ?_ ?_ _) | go_size))).up hb); clear hb; clear e0 e1 e2 e3 e4; obtain ⟨e0, e1, e2, e3, e4⟩ := box5 HVc.out.i5)
    | (go_at_call 22; (with_reducible refine (rsame_any _ _ _ _ _ _ M.flatten N.flatten _ (midI (HVa.out.up (by repeat' (first | (with_reducible exact Below.refl _ _) | (with_reducible assumption) | (with_reducible refine below_over ?_ _ _) | (with_reducible refine Lw.below_alloc ?_ _) | (with_reducible refine Below.drew ?_) | (with_reducible refine below_drewN ?_ _) | (with_reducible refine Below.setCell ?_ ?_ _) | go_size))).i0).rd (midI (HVa.out.up (by repeat' (first | (with_reducible exact Below.refl _ _) | (with_reducible assumption) | (with_reducible refine below_over ?_ _ _) | (with_reducible refine Lw.below_alloc ?_ _) | (with_reducible refine Below.drew ?_) | (with_reducible refine below_drewN ?_ _) | (with_reducible refine Below.setCell ?_ ?_ _) | go_size))).i3).rd F2.out F1.out (by omega) (by omega)).mono ?_); rintro e wb ⟨rfl, hb⟩; have HVb := Lib.hid ((HVa.out.up (by repeat' (first | (with_reducible exact Below.refl _ _) | (with_reducible assumption) | (with_reducible refine below_over ?_ _ _) | (with_reducible refine Lw.below_alloc ?_ _) | (with_reducible refine Below.drew ?_) | (with_reducible refine below_drewN ?_ _) | (with_reducible refine Below.setCell ?_ ?_ _) | go_size))).up hb); clear hb; clear e0 e1 e2 e3 e4; obtain ⟨e0, e1, e2, e3, e4⟩ := box5 HVb.out.i5)
    | (go_at_call_of 81 (Value.pointer (some q)); (with_reducible refine (CC2.out q G2 _ (skI (HV9.out.up (by repeat' (first | (with_reducible exact Below.refl _ _) | (with_reducible assumption) | (with_reducible refine below_over ?_ _ _) | (with_reducible refine Lw.below_alloc ?_ _) | (with_reducible refine Below.drew ?_) | (with_reducible refine below_drewN ?_ _) | (with_reducible refine Below.setCell ?_ ?_ _) | go_size))).i3)).mono ?_); rintro e wa ⟨g3, cap3, rfl, h1, h2, -, -, hb⟩; have HVa := Lib.hid ((HV9.out.up (by repeat' (first | (with_reducible exact Below.refl _ _) | (with_reducible assumption) | (with_reducible refine below_over ?_ _ _) | (with_reducible refine Lw.below_alloc ?_ _) | (with_reducible refine Below.drew ?_) | (with_reducible refine below_drewN ?_ _) | (with_reducible refine Below.setCell ?_ ?_ _) | go_size))).push (midT g3 M.flatten) hb h1 (fun k hk => by subst hk; exact h2)); clear h1 h2 hb; clear e0 e1 e2 e3 e4; obtain ⟨e0, e1, e2, e3, e4⟩ := box5 HVa.out.i5)
    | (go_at_call 22; (with_reducible refine (rsame_any _ _ _ _ _ _ N.flatten N.flatten _ (midI (HV8.out.up (by repeat' (first | (with_reducible exact Below.refl _ _) | (with_reducible assumption) | (with_reducible refine below_over ?_ _ _) | (with_reducible refine Lw.below_alloc ?_ _) | (with_reducible refine Below.drew ?_) | (with_reducible refine below_drewN ?_ _) | (with_reducible refine Below.setCell ?_ ?_ _) | go_size))).i0).rd (midI (HV8.out.up (by repeat' (first | (with_reducible exact Below.refl _ _) | (with_reducible assumption) | (with_reducible refine below_over ?_ _ _) | (with_reducible refine Lw.below_alloc ?_ _) | (with_reducible refine Below.drew ?_) | (with_reducible refine below_drewN ?_ _) | (with_reducible refine Below.setCell ?_ ?_ _) | go_size))).i2).rd F1.out F1.out (by omega) (by omega)).mono ?_); rintro e w9 ⟨rfl, hb⟩; have HV9 := Lib.hid ((HV8.out.up (by repeat' (first | (with_reducible exact Below.refl _ _) | (with_reducible assumption) | (with_reducible refine below_over ?_ _ _) | (with_reducible refine Lw.below_alloc ?_ _) | (with_reducible refine Below.drew ?_) | (with_reducible refine below_drewN ?_ _) | (with_reducible refine Below.setCell ?_ ?_ _) | go_size))).up hb); clear hb; clear e0 e1 e2 e3 e4; obtain ⟨e0, e1, e2, e3, e4⟩ := box5 HV9.out.i4)
    | (go_at_call_of 81 (Value.pointer (some p)); (with_reducible refine (CC.out p F _ (skI (HV7.out.up (by repeat' (first | (with_reducible exact Below.refl _ _) | (with_reducible assumption) | (with_reducible refine below_over ?_ _ _) | (with_reducible refine Lw.below_alloc ?_ _) | (with_reducible refine Below.drew ?_) | (with_reducible refine below_drewN ?_ _) | (with_reducible refine Below.setCell ?_ ?_ _) | go_size))).i4)).mono ?_); rintro e w8 ⟨g2, cap2, rfl, h1, h2, -, -, hb⟩; have HV8 := Lib.hid ((HV7.out.up (by repeat' (first | (with_reducible exact Below.refl _ _) | (with_reducible assumption) | (with_reducible refine below_over ?_ _ _) | (with_reducible refine Lw.below_alloc ?_ _) | (with_reducible refine Below.drew ?_) | (with_reducible refine below_drewN ?_ _) | (with_reducible refine Below.setCell ?_ ?_ _) | go_size))).push (midT g2 N.flatten) hb h1 (fun k hk => by subst hk; exact h2)); clear h1 h2 hb; clear e0 e1 e2 e3 e4; obtain ⟨e0, e1, e2, e3, e4⟩ := box5 HV8.out.i4))
  all_goals go_wp2
  all_goals go_ret
  all_goals exact ⟨ret_bs (by first | rfl | (simp [*]; done)), (HVe.out.up (by repeat' (first | (with_reducible exact Below.refl _ _) | (with_reducible assumption) | (with_reducible refine below_over ?_ _ _) | (with_reducible refine Lw.below_alloc ?_ _) | (with_reducible refine Below.drew ?_) | (with_reducible refine below_drewN ?_ _) | (with_reducible refine Below.setCell ?_ ?_ _) | go_size))).below⟩
theorem apart_law (x : Cfg) (lv : Int) (A : Option Addr) (n0 k0 : Nat) (qs : Ups) (uk ud : Int) (w : World) (hx : x.Ok) (hlv : -9223372036854775808 ≤ lv ∧ lv ≤ 9223372036854775807) (hq : UpdV w A n0 k0 qs) (hub : 0 ≤ uk ∧ uk ≤ 18446744073709551615) (hdb : -9223372036854775808 ≤ ud ∧ ud ≤ 9223372036854775807) :
    Calls Tryz.prog 5 #[.agg #[.int .i64 x.bt, .int .i64 x.rw, .int .i64 x.wd, .int .i64 x.md, .int .u64 x.sd, .int .i64 lv, .slice A n0 k0], .agg #[.int .u64 uk, .int .i64 ud]] w fun e w' => e = .returned (.bool true) ∧ Below w.heap.size w w' := by
  obtain ⟨c, hC⟩ : ∃ c, anyC x 8 9 = c := ⟨_, rfl⟩
  have hr := any_right x 8 9 (by omega) (by omega) (by omega) (by omega)
  have hb8 : (anyC x 8 9).bt ≤ 8 := by
    show 1 + x.bt % 65536 % 8 ≤ 8
    omega
  rw [hC] at hr hb8
  have hbt := hr.1
  obtain ⟨X, l, a1, b1, c1, dd1, ee1, ff1⟩ := level_of lv (c.bt + 1) (by omega) (by omega)
  cases hx2 : exactB c l with
  | true =>
    obtain ⟨n, hn⟩ : ∃ n : Nat, keys c l = (n : Int) := ⟨(keys c l).toNat, by have := exact_len hx2; omega⟩
    exact apart_A x lv A n0 k0 qs uk ud w hx hlv hq hub hdb c hC X l a1 b1 c1 dd1 ee1 ff1 n hn hx2
  | false => exact apart_S x lv A n0 k0 qs uk ud w hx hlv hq hub hdb c hC X l a1 b1 c1 dd1 ee1 ff1 hx2
namespace levelApart
open Go.ChangeShapes Go.WideShapes Go.ChangeAt Go.Joins
set_option maxRecDepth 100000 in
theorem lifted (os : Os) (started : os.Started) (H : Type) (enc : TypeId × Value → H) :
    ReturnsInHanded {} Tryz.checked os 5 .any (Rows.levelApartSpec.pre6 enc Tryz.prog Tryz.f5 Rows.levelApartRow.domain false) (Rows.levelApartSpec.post enc Tryz.prog Tryz.f5 false true false false) := by
  refine Lw.lifted (C := Tryz.checked) (B := 4) (by kernel_rfl) os started (by kernel_rfl) Tryz.func5
    (ChangeSpec.witness6 (enc := enc) (C := Tryz.checked) false ⟨#[], #[.agg #[.int .i64 0, .int .i64 0, .int .i64 0, .int .i64 0, .int .u64 0, .int .i64 0, .slice none 0 0], .agg #[.int .u64 0, .int .i64 0]], []⟩ 8 (by kernel_rfl) (by kernel_rfl) (by kernel_rfl) (by kernel_rfl)) rfl Tryz.underlying4 (by kernel_rfl) (by kernel_rfl) (by kernel_rfl) ?_ ?_
  · intro ds h
    rw [Tryz.params5] at h
    match ds, h with
    | [_, _], _ => rfl
  · intro W base args ds p hval hA
    rw [Tryz.params5] at hA hval
    obtain ⟨v0, vs0, d0, ds0, p0, q0, hargs, rfl, rfl, h0, r0⟩ := trodAll_cons hA
    obtain ⟨v1, vs1, d1, ds1, p1, q1, rfl, rfl, rfl, h1, r1⟩ := trodAll_cons r0
    obtain ⟨rfl, rfl, rfl⟩ := trodAll_nil r1
    obtain rfl : args = #[v0, v1] := by cases args; simp_all
    obtain ⟨x0, lv0, A0, n0, k0, qs0, rfl, hx0, hlv0, hq0⟩ := open_playV (hval 0 61 v0 rfl rfl) h0
    obtain ⟨x1_0, x1_1, rfl, z1_0, z1_1⟩ := open_upd (hval 1 63 v1 rfl rfl) h1
    exact apart_law x0 lv0 A0 n0 k0 qs0 x1_0 x1_1 W hx0 hlv0 hq0 z1_0 z1_1
theorem over : Rows.levelApartRow.holds Tryz.pinned (OpenSpec.ofChange Rows.levelApartSpec) :=
  OpenClaim.holds_of_wide 5 Tryz.f5 rfl rfl rfl rfl rfl rfl rfl ⟨rfl, rfl, rfl, rfl, rfl⟩ rfl rfl rfl rfl rfl (by kernel_rfl) Tryz.func5 (by kernel_rfl)
    (of_decide_eq_true (by kernel_rfl)) (by unfold Func.isWrapper; first | (rw [if_pos (by decide +kernel)]; kernel_rfl) | (rw [if_neg (by decide +kernel)]; exact ⟨rfl, rfl⟩))
    (fun os started H enc _ => lifted os started H enc)
theorem proved : Rows.LevelApartSaid :=
  over
#print axioms proved
end levelApart
end Go.Proofs.YtkannodfamnmcaaGreat.Lev
