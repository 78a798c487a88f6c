/- The statement StackMakes of layer 15 holds: there is a stack just of a right config. Printed by wip/gen/stk4.py. -/
import Derived.Test.YtccabgeeglhagaaMd
import Derived.Test.YtccabgeeglhagaaMj
import Derived.Deep.LoopGhost
import Derived.Deep.RegionHeld3
import Derived.Deep.DeepCutAuto
import Derived.Deep.QuietTactic
import Derived.BigQuiet
namespace Go.Proofs.Ytccabgeeglhagaa.Stk
open Go Go.RowKit Lw Grd Lin Con Shp Sk Exa Lev
set_option linter.unusedVariables false
set_option linter.unusedSimpArgs false
theorem rright_yes (c : Cfg) (w : World) (h : c.Ok) (hr : IsRight c) : Calls Try.prog 25 #[.agg #[.int .i64 c.bt, .int .i64 c.rw, .int .i64 c.wd, .int .i64 c.md, .int .u64 c.sd]] w fun e w' => e = .returned (.bool true) ∧ Below w.heap.size w w' := by
  have h1 := rright_any c w h
  rw [show right c = true from decide_eq_true hr] at h1
  exact h1
theorem rright_no (c : Cfg) (w : World) (h : c.Ok) (hr : ¬ IsRight c) : Calls Try.prog 25 #[.agg #[.int .i64 c.bt, .int .i64 c.rw, .int .i64 c.wd, .int .i64 c.md, .int .u64 c.sd]] w fun e w' => e = .returned (.bool false) ∧ Below w.heap.size w w' := by
  have h1 := rright_any c w h
  rw [show right c = false from decide_eq_false hr] at h1
  exact h1
theorem top_ar {c : Cfg} (hr : IsRight c) (us : Ups) : stOf c us c.bt.toNat = .A (sums 1 (upN us c.bt.toNat)) := by
  have hb := hr.1
  have e : ((c.bt.toNat : Nat) : Int) = c.bt := by omega
  unfold stOf
  rw [e, if_pos (Exa.exact_top hr), keys_top hr]
  rfl
theorem top_at {c : Cfg} (hr : IsRight c) (us : Ups) : (stsOf c us)[c.bt.toNat]? = some (.A (sums 1 (upN us c.bt.toNat))) := by
  rw [stsOf_get (by omega), top_ar hr]
theorem mk_tot {c : Cfg} (hr : IsRight c) : spV c (stsOf c []) c.bt 0 = 0 := by
  have hb := hr.1
  unfold spV
  rw [if_pos (by omega), top_at hr]
  rfl
theorem mk_c1 {c : Cfg} (hr : IsRight c) : (lvFl (stsOf c []) c.bt).length = 1 := by
  have hb := hr.1
  unfold lvFl
  rw [if_pos (by omega), top_at hr]
  exact sums_len 1 _
theorem mk_c2 {c : Cfg} (hr : IsRight c) {n : Int} (hn : c.bt < n) : lvFl (stsOf c []) n = [] := by
  have hb := hr.1
  unfold lvFl
  rw [if_pos (by omega), List.getElem?_eq_none (by rw [stsOf_len]; omega)]
  rfl
theorem mk_c3 (c : Cfg) {n : Int} (hn : n < 0) : lvFl (stsOf c []) n = [] := if_neg (by omega)
theorem mk_len (p : Addr) (F : Nat → Prop) (c : Cfg) (n : Int) (m : Nat) (w : World) (h : ST w p F c (stsOf c [])) (n0 : -9223372036854775808 ≤ n) (n1 : n ≤ 9223372036854775807) (hm : (lvFl (stsOf c []) n).length = m) :
    Calls Try.prog 16 #[.pointer (some p), .int .i64 n] w fun e w' => ∃ (A : Option Addr) (cap : Nat), e = .returned (.slice A m cap) ∧ Below w.heap.size w w' := by
  refine (cs_cells p F c _ n w h n0 n1).mono ?_
  rintro e w' ⟨A, k, cap, rfl, -, hk, -, hb⟩
  rw [hm] at hk
  subst hk
  exact ⟨A, cap, rfl, hb⟩
set_option maxRecDepth 100000 in
set_option maxHeartbeats 4000000 in
theorem makes_no (c : Cfg) (w : World) (h : c.Ok) (hr : ¬ IsRight c) :
    Calls Try.prog 8 #[.agg #[.int .i64 c.bt, .int .i64 c.rw, .int .i64 c.wd, .int .i64 c.md, .int .u64 c.sd]] w fun e w' => e = .returned (.bool true) ∧ Below w.heap.size w w' := by
  have CR := Lib.hid (fun w => rright_no c w h hr)
  have CN := Lib.hid (fun w => cs_none c w h hr)
  have HBX : Hid (Have w (w.alloc (.cells #[.int .i64 c.bt, .int .i64 c.rw, .int .i64 c.wd, .int .i64 c.md, .int .u64 c.sd] 24)) [boxT w.heap.size 24 #[.int .i64 c.bt, .int .i64 c.rw, .int .i64 c.wd, .int .i64 c.md, .int .u64 c.sd]]) := Lib.hid (box_new w _ _)
  clear h hr
  go_enter Try.func8, Try.ntmps8
  go_wp2_with (first
    | (go_at_call 25; (with_reducible refine (CR.out _).mono ?_); rintro e w4 ⟨rfl, hb⟩; have HV4 := Lib.hid (HV3.out.up hb); clear hb)
    | (go_at_call 26; (with_reducible refine (CN.out _).mono ?_); rintro e w3 ⟨rfl, hb⟩; have HV3 := Lib.hid (HV2.out.up hb); clear hb; clear c0 c1 c2 c3 c4; obtain ⟨c0, c1, c2, c3, c4⟩ := box5 HV3.out.i0)
    | (go_at_call 25; (with_reducible refine (CR.out _).mono ?_); rintro e w2 ⟨rfl, hb⟩; have HV2 := Lib.hid (HV1.out.up hb); clear hb; clear c0 c1 c2 c3 c4; obtain ⟨c0, c1, c2, c3, c4⟩ := box5 HV2.out.i0)
    | (go_at_call 9; (with_reducible refine (shown_any _).mono ?_); rintro e w1 ⟨rfl, hb⟩; have HV1 := Lib.hid (HBX.out.up hb); clear hb; obtain ⟨c0, c1, c2, c3, c4⟩ := box5 HV1.out.i0))
  go_ret
  exact ⟨ret_bs (by first | rfl | (simp [*]; done)), HV4.out.below⟩
set_option maxRecDepth 100000 in
set_option maxHeartbeats 4000000 in
theorem makes_yes (c : Cfg) (w : World) (h : c.Ok) (hr : IsRight c) :
    Calls Try.prog 8 #[.agg #[.int .i64 c.bt, .int .i64 c.rw, .int .i64 c.wd, .int .i64 c.md, .int .u64 c.sd]] w fun e w' => e = .returned (.bool true) ∧ Below w.heap.size w w' := by
  have hb0 := hr.1
  have hb1 := hr.2.1
  have q0 := Int.tmod_nonneg 20 (show 0 ≤ c.bt - 1 by omega)
  have q1 := Int.tmod_lt_of_pos (c.bt - 1) (show (0 : Int) < 20 by omega)
  have w1a : wrap64 (c.bt - 1) = c.bt - 1 := IntWalk.wrap64_in _ ⟨by omega, by omega⟩
  have w1b : IntKind.i64.wrap (c.bt - 1) = c.bt - 1 := IntWalk.i64_in _ ⟨by omega, by omega⟩
  obtain ⟨t, ht⟩ : ∃ t, Int.tmod (c.bt - 1) 20 = t := ⟨_, rfl⟩
  rw [ht] at q0 q1
  obtain ⟨b, hb⟩ : ∃ b, 1 + t = b := ⟨_, rfl⟩
  have w2a : wrap64 (1 + t) = b := by rw [hb]; exact IntWalk.wrap64_in _ ⟨by omega, by omega⟩
  have w2b : IntKind.i64.wrap (1 + t) = b := by rw [hb]; exact IntWalk.i64_in _ ⟨by omega, by omega⟩
  obtain ⟨d, hd⟩ : ∃ d : Cfg, { c with bt := b } = d := ⟨_, rfl⟩
  have hdr : IsRight d := by
    rw [← hd]
    exact ⟨by show 1 ≤ b; omega, by show b ≤ 59; omega, hr.2.2⟩
  have hdo : d.Ok := by
    rw [← hd]
    exact ⟨by show -9223372036854775808 ≤ b; omega, by show b ≤ 9223372036854775807; omega, h.r0, h.r1, h.w0, h.w1, h.m0, h.m1, h.s0, h.s1⟩
  have hdb : d.bt = b := by rw [← hd]
  have CR := Lib.hid (fun w => rright_yes c w h hr)
  have CD := Lib.hid (fun w => rright_yes d w hdo hdr)
  have CN := Lib.hid (fun w => cs_new d w hdo hdr)
  have CC := Lib.hid (fun p F w hs => cs_config p F d (stsOf d []) w hs)
  have CT0 := Lib.hid (fun p F w hs => cs_total p F d (stsOf d []) w hs)
  rw [mk_tot hdr] at CT0
  have C1 := Lib.hid (fun p F w hs => mk_len p F d d.bt 1 w hs (by omega) (by omega) (mk_c1 hdr))
  have C2 := Lib.hid (fun p F w hs => mk_len p F d (b + 1) 0 w hs (by omega) (by omega) (by rw [mk_c2 hdr (by omega)]; rfl))
  have C3 := Lib.hid (fun p F w hs => mk_len p F d (-1) 0 w hs (by omega) (by omega) (by rw [mk_c3 d (by omega)]; rfl))
  have wn : wrap64 (b + 1) = b + 1 := IntWalk.wrap64_in _ ⟨by omega, by omega⟩
  have wn2 : IntKind.i64.wrap (b + 1) = b + 1 := IntWalk.i64_in _ ⟨by omega, by omega⟩
  have hdv : d.rw = c.rw ∧ d.wd = c.wd ∧ d.md = c.md ∧ d.sd = c.sd := by rw [← hd]; exact ⟨rfl, rfl, rfl, rfl⟩
  rw [hdb, hdv.1, hdv.2.1, hdv.2.2.1, hdv.2.2.2] at CD CN CC
  rw [hdb] at C1
  have HBX : Hid (Have w (w.alloc (.cells #[.int .i64 c.bt, .int .i64 c.rw, .int .i64 c.wd, .int .i64 c.md, .int .u64 c.sd] 24)) [boxT w.heap.size 24 #[.int .i64 c.bt, .int .i64 c.rw, .int .i64 c.wd, .int .i64 c.md, .int .u64 c.sd]]) := Lib.hid (box_new w _ _)
  clear h hr hb0 hb1 q0 q1 hb hd hdr hdo hdb hdv
  go_enter Try.func8, Try.ntmps8
  go_upto_region 3 with (first
    | (go_at_call 25; (with_reducible refine (CR.out _).mono ?_); rintro e w2 ⟨rfl, hb⟩; have HV2 := Lib.hid (HV1.out.up hb); clear hb; clear c0 c1 c2 c3 c4; obtain ⟨c0, c1, c2, c3, c4⟩ := box5 HV2.out.i0)
    | (go_at_call 9; (with_reducible refine (shown_any _).mono ?_); rintro e w1 ⟨rfl, hb⟩; have HV1 := Lib.hid (HBX.out.up hb); clear hb; obtain ⟨c0, c1, c2, c3, c4⟩ := box5 HV1.out.i0))
  have f0 := boxs_frozen HV2.out.i0 0
  have hsz := box_lt HV2.out.i0
  go_upto_region 4 with fail
  have HV3 := Lib.hid (HV2.out.turn_0 (w' := w2.setCell ⟨w.heap.size, 0, none⟩ (.int .i64 b)) (boxT w.heap.size 24 #[.int .i64 b, .int .i64 c.rw, .int .i64 c.wd, .int .i64 c.md, .int .u64 c.sd]) (boxs_set HV2.out.i0 0 _) (Kept.set (F := fun q => q = w.heap.size) (Kept.refl _ w2) (.inl rfl) 0 _) (fun k hk => .inl hk))
  obtain ⟨W, hW⟩ : ∃ W, w2.setCell ⟨w.heap.size, 0, none⟩ (.int .i64 b) = W := ⟨_, rfl⟩
  rw [hW] at HV3 ⊢
  clear hW f0 hsz w1a w1b w2a w2b ht; clear c0 c1 c2 c3 c4; obtain ⟨c0, c1, c2, c3, c4⟩ := box5 HV3.out.i0
  go_upto_region 9 with (first
    | (go_at_call 25; (with_reducible refine (CD.out _).mono ?_); rintro e w5 ⟨rfl, hb⟩; have HV5 := Lib.hid (HV4.out.up hb); clear hb; clear c0 c1 c2 c3 c4; obtain ⟨c0, c1, c2, c3, c4⟩ := box5 HV5.out.i1)
    | (go_at_call 26; (with_reducible refine (CN.out _).mono ?_); rintro e w4 ⟨p, F, rfl, h1, h2, hb⟩; have HV4 := Lib.hid (HV3.out.push (stT p F d (stsOf d [])) hb h1 h2); clear h1 h2 hb; clear c0 c1 c2 c3 c4; obtain ⟨c0, c1, c2, c3, c4⟩ := box5 HV4.out.i1))
  go_region_held3 (fun w' => w'.cell? ⟨w.heap.size, 0, none⟩ = some (.int .i64 b) ∧ w'.cell? ⟨w.heap.size, 1, none⟩ = some (.int .i64 c.rw) ∧ w'.cell? ⟨w.heap.size, 2, none⟩ = some (.int .i64 c.wd) ∧ w'.cell? ⟨w.heap.size, 3, none⟩ = some (.int .i64 c.md) ∧ w'.cell? ⟨w.heap.size, 4, none⟩ = some (.int .u64 c.sd)) (first | (refine ⟨?_, ?_, ?_, ?_, ?_⟩ <;> (first | (with_reducible assumption) | (with_reducible refine cell_up c0 ?_) | (with_reducible refine cell_up c1 ?_) | (with_reducible refine cell_up c2 ?_) | (with_reducible refine cell_up c3 ?_) | (with_reducible refine cell_up c4 ?_)) <;> (repeat' (first | (with_reducible exact Below.refl _ _) | (with_reducible assumption) | (with_reducible refine below_over ?_ _ _) | (with_reducible refine Lw.below_alloc ?_ _) | (with_reducible refine Below.drew ?_) | (with_reducible refine below_drewN ?_ _) | (with_reducible refine Below.setCell ?_ ?_ _) | go_size)))) (first
    | (go_at_call 16; (with_reducible refine (C3.out p F _ (stI (HV5.out.up (by repeat' (first | (with_reducible exact Below.refl _ _) | (with_reducible assumption) | (with_reducible refine below_over ?_ _ _) | (with_reducible refine Lw.below_alloc ?_ _) | (with_reducible refine Below.drew ?_) | (with_reducible refine below_drewN ?_ _) | (with_reducible refine Below.setCell ?_ ?_ _) | go_size))).i0)).mono ?_); rintro e w9 ⟨A3, cap3, rfl, hb⟩; obtain ⟨bs9, d9, rfl⟩ := below_grow hb; clear hb)
    | (go_at_call 16; (with_reducible refine (C2.out p F _ (stI (HV5.out.up (by repeat' (first | (with_reducible exact Below.refl _ _) | (with_reducible assumption) | (with_reducible refine below_over ?_ _ _) | (with_reducible refine Lw.below_alloc ?_ _) | (with_reducible refine Below.drew ?_) | (with_reducible refine below_drewN ?_ _) | (with_reducible refine Below.setCell ?_ ?_ _) | go_size))).i0)).mono ?_); rintro e w8 ⟨A2, cap2, rfl, hb⟩; obtain ⟨bs8, d8, rfl⟩ := below_grow hb; clear hb)
    | (go_at_call 16; (with_reducible refine (C1.out p F _ (stI (HV5.out.up (by repeat' (first | (with_reducible exact Below.refl _ _) | (with_reducible assumption) | (with_reducible refine below_over ?_ _ _) | (with_reducible refine Lw.below_alloc ?_ _) | (with_reducible refine Below.drew ?_) | (with_reducible refine below_drewN ?_ _) | (with_reducible refine Below.setCell ?_ ?_ _) | go_size))).i0)).mono ?_); rintro e w7 ⟨A1, cap1, rfl, hb⟩; obtain ⟨bs7, d7, rfl⟩ := below_grow hb; clear hb)
    | (go_at_call 18; (with_reducible refine (CT0.out p F _ (stI (HV5.out.up (by repeat' (first | (with_reducible exact Below.refl _ _) | (with_reducible assumption) | (with_reducible refine below_over ?_ _ _) | (with_reducible refine Lw.below_alloc ?_ _) | (with_reducible refine Below.drew ?_) | (with_reducible refine below_drewN ?_ _) | (with_reducible refine Below.setCell ?_ ?_ _) | go_size))).i0)).mono ?_); rintro e w6 ⟨rfl, hb⟩; obtain ⟨bs6, d6, rfl⟩ := below_grow hb; clear hb)
    | (go_at_call 27; (with_reducible refine (CC.out p F _ (stI (HV5.out.up (by repeat' (first | (with_reducible exact Below.refl _ _) | (with_reducible assumption) | (with_reducible refine below_over ?_ _ _) | (with_reducible refine Lw.below_alloc ?_ _) | (with_reducible refine Below.drew ?_) | (with_reducible refine below_drewN ?_ _) | (with_reducible refine Below.setCell ?_ ?_ _) | go_size))).i0)).mono ?_); rintro e w5b ⟨rfl, hb⟩; obtain ⟨bs5, d5, rfl⟩ := below_grow hb; clear hb))
  all_goals go_wp2
  all_goals go_ret
  all_goals exact ⟨ret_bs (by first | rfl | (simp [*]; done)), (HV5.out.up (by repeat' (first | (with_reducible exact Below.refl _ _) | (with_reducible assumption) | (with_reducible refine below_over ?_ _ _) | (with_reducible refine Lw.below_alloc ?_ _) | (with_reducible refine Below.drew ?_) | (with_reducible refine below_drewN ?_ _) | (with_reducible refine Below.setCell ?_ ?_ _) | go_size))).below⟩
theorem makes_law (c : Cfg) (w : World) (h : c.Ok) :
    Calls Try.prog 8 #[.agg #[.int .i64 c.bt, .int .i64 c.rw, .int .i64 c.wd, .int .i64 c.md, .int .u64 c.sd]] w fun e w' => e = .returned (.bool true) ∧ Below w.heap.size w w' := by
  by_cases hr : IsRight c
  · exact makes_yes c w h hr
  · exact makes_no c w h hr
namespace stackMakes
open Go.ChangeShapes Go.WideShapes Go.ChangeAt Go.Joins
set_option maxRecDepth 100000 in
theorem lifted (os : Os) (started : os.Started) (H : Type) (enc : TypeId × Value → H) :
    ReturnsInHanded {} Try.checked os 8 .any (Rows.stackMakesSpec.pre6 enc Try.prog Try.f8 Rows.stackMakesRow.domain false) (Rows.stackMakesSpec.post enc Try.prog Try.f8 false true false false) := by
  refine Lw.lifted (C := Try.checked) (B := 4) (by kernel_rfl) os started (by kernel_rfl) Try.func8
    (ChangeSpec.witness6 (enc := enc) (C := Try.checked) false ⟨#[], #[.agg #[.int .i64 0, .int .i64 0, .int .i64 0, .int .i64 0, .int .u64 0]], []⟩ 8 (by kernel_rfl) (by kernel_rfl) (by kernel_rfl) (by kernel_rfl)) rfl Try.underlying4 (by kernel_rfl) (by kernel_rfl) (by kernel_rfl) ?_ ?_
  · intro ds h
    rw [Try.params8] at h
    match ds, h with
    | [_], _ => rfl
  · intro W base args ds p hval hA
    rw [Try.params8] at hA hval
    obtain ⟨v0, vs0, d0, ds0, p0, q0, hargs, rfl, rfl, h0, r0⟩ := trodAll_cons hA
    obtain ⟨rfl, rfl, rfl⟩ := trodAll_nil r0
    obtain rfl : args = #[v0] := by cases args; simp_all
    obtain ⟨x0_0, x0_1, x0_2, x0_3, x0_4, rfl, z0_0, z0_1, z0_2, z0_3, z0_4⟩ := open_cfg (hval 0 24 v0 rfl rfl) h0
    exact makes_law ⟨x0_0, x0_1, x0_2, x0_3, x0_4⟩ W ⟨z0_0.1, z0_0.2, z0_1.1, z0_1.2, z0_2.1, z0_2.2, z0_3.1, z0_3.2, z0_4.1, z0_4.2⟩
theorem over : Rows.stackMakesRow.holds Try.pinned (OpenSpec.ofChange Rows.stackMakesSpec) :=
  OpenClaim.holds_of_wide 8 Try.f8 rfl rfl rfl rfl rfl rfl rfl ⟨rfl, rfl, rfl, rfl, rfl⟩ rfl rfl rfl rfl rfl (by kernel_rfl) Try.func8 (by kernel_rfl)
    (of_decide_eq_true (by kernel_rfl)) (by unfold Func.isWrapper; first | (rw [if_pos (by decide +kernel)]; kernel_rfl) | (rw [if_neg (by decide +kernel)]; exact ⟨rfl, rfl⟩))
    (fun os started H enc _ => lifted os started H enc)
theorem proved : Rows.StackMakesSaid :=
  over
#print axioms proved
end stackMakes
end Go.Proofs.Ytccabgeeglhagaa.Stk
