/- The statement StackSums of layer 15 holds. Printed by wip/gen/stk9.py. -/
import Derived.Test.YtccabgeeglhagaaMc
import Derived.Test.YtccabgeeglhagaaMd
import Derived.Test.YtccabgeeglhagaaMg
import Derived.Test.YtccabgeeglhagaaMh
import Derived.Test.YtccabgeeglhagaaMj
import Derived.Deep.LoopGhost
import Derived.Deep.RegionHeld3
import Derived.Deep.DeepCutAuto
import Derived.Deep.QuietTactic
import Derived.BigQuiet
namespace Go.Proofs.Ytccabgeeglhagaa.Stk
open Go Go.RowKit Lw Grd Lin Con Shp Sk Exa Lev
set_option linter.unusedVariables false
set_option linter.unusedSimpArgs false
theorem put_at9 {w0 w : World} {ts : List Thing} (h : Have w0 w ts) (t : Thing) (ht : t.I w) (hn : ∀ k, t.F k → ∀ u ∈ ts, ¬ u.F k) (hw : ∀ k, t.F k → w0.heap.size ≤ k) : Have w0 w (t :: ts) :=
  ⟨ht, hw, fun u hu k hk hu2 => hn k hk u hu hu2, h⟩
theorem upsR_get {c : Cfg} {l : Int} {qs : Ups} {i : Nat} {q : Int × Int} (hi : i < 60) (hq : qs[i]? = some q) : (upsR c l qs 0 60)[i]? = some (cutU c l q) := by
  unfold upsR
  rw [List.drop_zero, List.getElem?_map, List.getElem?_take, if_pos hi, hq]
  rfl
theorem upsR_ln (c : Cfg) (l : Int) (qs : Ups) : (upsR c l qs 0 60).length = min 60 qs.length := by
  unfold upsR
  rw [List.drop_zero, List.length_map, List.length_take]
theorem upN_get {us : Ups} {i n : Nat} {U D : Int} (h : us[i]? = some (U, D)) : (upN us n)[i]? = some (upK U n, D) := by
  unfold upN
  rw [List.getElem?_map, h]
  rfl
theorem upsE_of {c : Cfg} {n : Nat} {us : Ups} (h : UpsIn c n us) {K : Nat} (hK : keys c n = K) : UpsE c.md K us := fun u hu => by
  have h1 := h.1 u hu
  exact ⟨h1.1, by rw [← hK]; exact h1.2.1, h1.2.2.1, h1.2.2.2, fun hm => h.2 hm u hu⟩
theorem kw1 {K : Nat} (h : K ≤ 1024) : IntKind.i64.wrap (K : Int) = (K : Int) := IntWalk.i64_in _ ⟨by omega, by omega⟩
theorem kw2 {K : Nat} (h : K ≤ 1024) : IntKind.u64.wrap (K : Int) = (K : Int) := IntWalk.u64_in _ ⟨by omega, by omega⟩
theorem kw3 {K : Nat} (h : K ≤ 1024) : wrap64 (K : Int) = (K : Int) := IntWalk.wrap64_in _ ⟨by omega, by omega⟩
theorem bw1 {b : Int} (h : 1 ≤ b) (g : b ≤ 59) : IntKind.i64.wrap (b + 1) = b + 1 := IntWalk.i64_in _ ⟨by omega, by omega⟩
theorem bw2 {b : Int} (h : 1 ≤ b) (g : b ≤ 59) : wrap64 (b + 1) = b + 1 := IntWalk.wrap64_in _ ⟨by omega, by omega⟩
theorem bw3 {b : Int} (h : 1 ≤ b) : ¬ b + 1 = 0 := by omega
theorem mk_row (K : Nat) (hK : K ≤ 1024) : ∀ w, (Instr.makeSlice 34 (.int .i64 (K : Int)) (.int .i64 (K : Int))).run Try.prog w = .ok (.slice (some ⟨w.heap.size, 0, none⟩) K K) (w.alloc (.cells (madeCells #[.int .i64 0] K) 2)) := by
  obtain ⟨i0, hi, hi0, hi1, hi2⟩ := info_parts Grd.i64_info
  intro w
  have h := run_make (P := Try.prog) w 34 2 i0 (.int .i64 0) Grd.i64s_u hi hi0 .i64 .i64 K K (by omega) (Int.le_refl _) (by rw [hi2]; omega) (by omega)
  rw [hi1] at h
  simpa [Value.cells] using h
theorem kle {K : Nat} (h : K ≤ 1024) : K ≤ 9223372036854775807 := by omega
theorem zero_sums (K : Nat) : sums K [] = List.replicate K 0 := sums_nil K
set_option maxRecDepth 100000 in
set_option maxHeartbeats 40000000 in
theorem sums_e_false (x : Cfg) (A : Option Addr) (n0 k0 : Nat) (qs : Ups) (lv : Int) (w : World) (hx : x.Ok) (hq : UpdV w A n0 k0 qs) (c : Cfg) (hC : { anyC x 10 9 with md := 1 } = c) (X : Int) (n : Nat) (a1 : bits .and .i64 lv 65535 = X) (b1 : 0 ≤ X) (dd1 : Int.tmod X (c.bt + 1) = (n : Int)) (ff1 : (n : Int) < c.bt + 1) (hxe : exactB c n = true) :
    Calls Try.prog 3 #[.agg #[.int .i64 x.bt, .int .i64 x.rw, .int .i64 x.wd, .int .i64 x.md, .int .u64 x.sd, .slice A n0 k0], .int .i64 lv, .bool false] w fun e w' => e = .returned (.bool true) ∧ Below w.heap.size w w' := by
  have hr0 := any_right x 10 9 (by omega) (by omega) (by omega) (by omega)
  have hco0 := any_ok x hx 10 9 (by omega) (by omega) (by omega) (by omega)
  have hr : IsRight c := by rw [← hC]; exact ⟨hr0.1, hr0.2.1, hr0.2.2.1, hr0.2.2.2.1, hr0.2.2.2.2.1, hr0.2.2.2.2.2.1, (by show (1 : Int) ≤ 1; omega), (by show (1 : Int) ≤ 3; omega)⟩
  have hco : c.Ok := by rw [← hC]; exact ⟨hco0.b0, hco0.b1, hco0.r0, hco0.r1, hco0.w0, hco0.w1, by show -9223372036854775808 ≤ (1 : Int); omega, by show (1 : Int) ≤ 9223372036854775807; omega, hco0.s0, hco0.s1⟩
  have hbt := hr.1
  have hb5 := hr.2.1
  have hkeys : 1 ≤ keys c 0 := keys_pos.2 ⟨hr, by omega, by omega⟩
  have FD := Lib.hid (fun w hq => fed_m x A n0 k0 qs 1 (by omega) (by omega) 0 60 0 60 c w hx hq rfl rfl (by omega) (by omega) hC)
  have hin := upsR_in hkeys qs 0 60
  have hln := upsR_ln c 0 qs
  rw [hq.len] at hln
  have HUG := Lib.hid (fun i q (hi : i < 60) (h : qs[i]? = some q) => upsR_get (c := c) (l := 0) hi h)
  have hcu := fun q => cutU_ok hkeys q
  have HCU := Lib.hid hcu
  have CCU := Lib.hid (fun w k d h0 h1 h2 h3 => rcut15_any c k d w hco h0 h1 h2 h3 hkeys)
  have HUK := Lib.hid (fun U (h0 : 0 ≤ U) (h1 : U < keys c 0) => upK_keys hr (k := U) (n := n) h0 h1 (by omega))
  have HSR := Lib.hid (fun U => shr_at (U := U) (n := n) (by omega))
  have hkn0 := keys_bd c 0
  have HK0 := Lib.hid hkn0
  have CX := Lib.hid (fun w => exact_any c n w hco (by omega) (by omega))
  rw [hxe] at CX
  obtain ⟨us, hus⟩ : ∃ us, upsR c 0 qs 0 60 = us := ⟨_, rfl⟩
  rw [hus] at FD hin hln HUG
  have hlv := lv_size hr hin (n := n) (by omega)
  have hla := lv_at hr us (n := n) (by omega)
  obtain ⟨hk1, hk2⟩ := of_decide_eq_true hxe
  have hwd := wds_bd hr
  obtain ⟨K, hKK⟩ : ∃ K : Nat, keys c n = K := ⟨(keys c n).toNat, by omega⟩
  have hK8 : K ≤ 128 := by omega
  have hK1 : 1 ≤ K := by omega
  have hst : (stOf c us n).fl = sums K (upN us n) := by
    unfold stOf
    rw [if_pos hxe, hKK]
    rfl
  rw [hst] at hla
  have hue := upsE_of (upN_in hr hin (n := n) (by omega)) hKK
  have HNX := Lib.hid (fun (i : Nat) (V D : Int) (h : (upN us n)[i]? = some (V, D)) => sums_next hue (by rw [upN_len, hln]; exact Nat.min_le_left _ _) h)
  have CKN := Lib.hid (fun w => rkeys_any c n w hco (by omega) (by omega))
  rw [hKK] at CKN HUK
  obtain ⟨un, hun⟩ : ∃ un, upN us n = un := ⟨_, rfl⟩
  rw [hun] at HNX hla
  have HUN := Lib.hid hun
  have hul : un.length = min 60 n0 := by rw [← hun, upN_len, hln]
  have HUL := Lib.hid hul
  obtain ⟨Z, hZ⟩ : ∃ Z, stsOf c us = Z := ⟨_, rfl⟩
  rw [hZ] at FD hla hlv
  have CR := Lib.hid (fun p F w hs => cs_row p F c Z n (sums K un) w hs (by omega) hla (by rw [sums_len]; exact hK1) (by rw [sums_len]; exact Nat.le_trans hK8 (by decide)))
  rw [sums_len] at CR
  have hku : IntKind.i64.wrap (K : Int) = (K : Int) := kw1 (Nat.le_trans hK8 (by decide))
  have hku2 : IntKind.u64.wrap (K : Int) = (K : Int) := kw2 (Nat.le_trans hK8 (by decide))
  have hku3 : wrap64 (K : Int) = (K : Int) := kw3 (Nat.le_trans hK8 (by decide))
  have hnu : IntKind.u64.wrap (n : Int) = n := by rw [IntKind.wrap_u64]; omega
  have hK10 : K ≤ 1024 := Nat.le_trans hK8 (by decide)
  have hmk := mk_row K hK10
  have HZS : Hid (sums K (un.take 0) = List.replicate K 0) := Lib.hid (by rw [List.take_zero]; exact zero_sums K)
  have HK8 := Lib.hid hK10
  have HN64 : Hid (n ≤ 64) := Lib.hid (by omega)
  have HQ := Lib.hid hq
  have HL := Lib.hid hq.len
  have hnc := hq.nc
  have hcm := hq.cm
  unfold maxLen at hcm
  have hw1 : IntKind.i64.wrap (c.bt + 1) = c.bt + 1 := bw1 hbt hb5
  have hw2 : wrap64 (c.bt + 1) = c.bt + 1 := bw2 hbt hb5
  have hbn : ¬ c.bt + 1 = 0 := bw3 hbt
  have HBX : Hid (Have w (w.alloc (.cells #[.int .i64 x.bt, .int .i64 x.rw, .int .i64 x.wd, .int .i64 x.md, .int .u64 x.sd, .slice A n0 k0] 27)) [boxT w.heap.size 27 #[.int .i64 x.bt, .int .i64 x.rw, .int .i64 x.wd, .int .i64 x.md, .int .u64 x.sd, .slice A n0 k0]]) := Lib.hid (box_new w _ _)
  clear hr0 hco0 hr hco hbt hb5 hkeys hin hln hcu hkn0 hus hlv hla hk1 hk2 hwd hKK hst hue hun hul hZ hx hq hC hxe b1 ff1
  go_enter Try.func3, Try.ntmps3
  go_upto_region 13 with (first
    | (go_at_call 12; (with_reducible refine (CKN.out _).mono ?_); rintro e w4 ⟨rfl, hb⟩; have HV5 := Lib.hid (HV4.out.up hb); clear hb; clear c0 c1 c2 c3 c4; obtain ⟨c0, c1, c2, c3, c4⟩ := box5 HV5.out.i0)
    | (go_at_call 11; (with_reducible refine (CX.out _).mono ?_); rintro e w3 ⟨rfl, hb⟩; have HV4 := Lib.hid (HV3.out.up hb); clear hb; clear c0 c1 c2 c3 c4; obtain ⟨c0, c1, c2, c3, c4⟩ := box5 HV4.out.i0)
    | (go_at_call 10; (with_reducible refine (FD.out _ (HQ.out.up HV1.out.below)).mono ?_); rintro e w2 ⟨p, F, rfl, hv⟩; have HV2 := Lib.hid (HV1.out.join hv); simp only [List.cons_append, List.nil_append] at HV2; clear hv; have HV3 := Lib.hid (HV2.out.push (boxT w2.heap.size 24 #[.int .i64 c.bt, .int .i64 c.rw, .int .i64 c.wd, .int .i64 c.md, .int .u64 c.sd]) (Lw.below_alloc (Below.refl _ _) _) (heap_alloc_new w2 _) (fun k hk => Nat.le_of_eq hk.symm)); obtain ⟨c0, c1, c2, c3, c4⟩ := box5 HV3.out.i0; clear x0 x1 x2 x3 x4 x5)
    | (go_at_call 9; (with_reducible refine (shown_any _).mono ?_); rintro e w1 ⟨rfl, hb⟩; have HV1 := Lib.hid (HBX.out.up hb); clear hb; obtain ⟨x0, x1, x2, x3, x4, x5⟩ := box6 HV1.out.i0))
  obtain ⟨gc, hgc⟩ : ∃ g, w2.heap.size = g := ⟨_, rfl⟩
  rw [hgc] at HV5 ⊢
  obtain ⟨gw, hgw⟩ : ∃ g, w4.heap.size = g := ⟨_, rfl⟩
  have hmid := Grd.mid_made w4 K 2
  have hv6 := HV5.out.push (midT w4.heap.size (List.replicate K 0)) (Lw.below_alloc (Below.refl _ _) (.cells (madeCells #[.int .i64 0] K) 2)) hmid (fun k hk => Nat.le_of_eq hk.symm)
  obtain ⟨w6, hw6⟩ : ∃ w6, w6 = w4.alloc (.cells (madeCells #[.int .i64 0] K) 2) := ⟨_, rfl⟩
  rw [← hw6] at hv6 ⊢
  rw [hgw] at hv6 ⊢
  rw [← HZS.out] at hv6
  have HV6 := Lib.hid hv6
  clear hmid hv6 hw6 hgw hgc HV1 HV2 HV3 HV4 HV5 HBX FD CKN hmk hw1 hw2 hbn hku hku3 a1 dd1 HZS
  clear c0 c1 c2 c3 c4
  go_wp2
  go_loopw [13] (fun iv wr => ∃ (i : Nat), i ≤ n0 ∧ i ≤ 60 ∧ iv = .int .i64 i ∧ Have w wr [midT gw (sums K (un.take i)), boxT gc 24 #[.int .i64 c.bt, .int .i64 c.rw, .int .i64 c.wd, .int .i64 c.md, .int .u64 c.sd], stT p F c Z, boxT w.heap.size 27 #[.int .i64 x.bt, .int .i64 x.rw, .int .i64 x.wd, .int .i64 x.md, .int .u64 x.sd, .slice A n0 k0]]) (fun iv _ => n0 - (intOf iv).toNat)
  case atStart => exact ⟨0, Nat.zero_le _, Nat.zero_le _, rfl, HV6.out⟩
  case round =>
    obtain ⟨i, hi9, hi6, rfl, hv⟩ := hrel
    have HVr := Lib.hid hv
    have HBr := Lib.hid hv.below
    clear hv
    obtain ⟨gad, hgad⟩ : ∃ gad : Addr, (⟨gw, 0, none⟩ : Addr) = gad := ⟨_, rfl⟩
    rw [hgad]
    have HGAD := Lib.hid hgad
    clear hgad
    obtain ⟨e1, e2, e3, e4, e5⟩ := box5 HVr.out.i1
    obtain ⟨x0, x1, x2, x3, x4, x5⟩ := box6 HVr.out.i3
    by_cases hlt : i < n0 ∧ i < 60
    · obtain ⟨hi1x, hi2x⟩ := hlt
      obtain ⟨q, hq1⟩ : ∃ q, qs[i]? = some q := ⟨_, List.getElem?_eq_getElem (by rw [HL.out]; exact hi1x)⟩
      have hug := HUG.out i q hi2x hq1
      have hcq := HCU.out q
      obtain ⟨a, g, o, rfl, hadd, d1w, d2w, kb, db⟩ := HQ.out.at hq1
      obtain ⟨qk, qd⟩ := q
      simp only at d1w d2w kb db
      have d1 := cell_up d1w HBr.out
      have d2 := cell_up d2w HBr.out
      have CC := Lib.hid (fun w => CCU.out w qk qd kb.1 kb.2 db.1 db.2)
      obtain ⟨U, hU⟩ : ∃ U, (cutU c 0 (qk, qd)).1 = U := ⟨_, rfl⟩
      obtain ⟨D2, hD2⟩ : ∃ D2, (cutU c 0 (qk, qd)).2 = D2 := ⟨_, rfl⟩
      have hug2 : us[i]? = some (U, D2) := by rw [hug, ← hU, ← hD2]
      rw [hU, hD2] at CC hcq
      have hvb := HUK.out U hcq.1 hcq.2.1
      have hsr := HSR.out U
      have hun2 := upN_get (n := n) hug2
      rw [HUN.out] at hun2
      obtain ⟨V, hV⟩ : ∃ V, upK U n = V := ⟨_, rfl⟩
      rw [hV] at hvb hsr hun2
      have hsr2 : U / 2 ^ n = V := by rw [← hsr, Nat.min_eq_left HN64.out]
      obtain ⟨vn, rfl⟩ : ∃ vn : Nat, V = vn := ⟨V.toNat, (Int.toNat_of_nonneg hvb.1).symm⟩
      obtain ⟨-, -, hset, hs1, hs2⟩ := HNX.out i vn D2 hun2
      simp only [Int.toNat_natCast] at hset hs1 hs2
      have hvk : vn < K := Int.ofNat_lt.1 hvb.2
      obtain ⟨S0, hS0⟩ : ∃ S0, sums K (un.take i) = S0 := ⟨_, rfl⟩
      have hx9 : S0[vn]? = some (num S0 vn) := by
        unfold num
        rw [Int.toNat_natCast]
        have hl9 : vn < S0.length := by rw [← hS0, sums_len]; exact hvk
        rw [List.getElem?_eq_getElem hl9]
        rfl
      rw [hS0] at hset hs1 hs2 HVr
      have HSET := Lib.hid hset
      obtain ⟨x9, hx99⟩ : ∃ x9, num S0 vn = x9 := ⟨_, rfl⟩
      rw [hx99] at hx9 hs1 hs2 HSET
      obtain ⟨S9, hS9⟩ : ∃ S9, x9 + D2 = S9 := ⟨_, rfl⟩
      have a5 : IntKind.i64.wrap (x9 + D2) = S9 := by rw [hS9]; rw [hS9] at hs1 hs2; exact IntWalk.i64_in _ ⟨hs1, hs2⟩
      have a6 : wrap64 (x9 + D2) = S9 := by rw [hS9]; rw [hS9] at hs1 hs2; exact IntWalk.wrap64_in _ ⟨hs1, hs2⟩
      rw [hS9] at HSET
      have HX9 := Lib.hid hx9
      have q0 : decide ((K : Int) ≤ (vn : Int)) = false := decide_eq_false (Int.not_le.2 (Int.ofNat_lt.2 hvk))
      have q1 : ¬ (K : Int) ≤ (vn : Int) := Int.not_le.2 (Int.ofNat_lt.2 hvk)
      have q2 : (vn : Int) < (K : Int) := Int.ofNat_lt.2 hvk
      have q3 : (0 : Int) ≤ (vn : Int) := Int.natCast_nonneg vn
      have q4 : vn < K := hvk
      clear hq1 hug hug2 hU hD2 hV hcq hvb hun2 hset hs1 hs2 hS0 hx9 hx99 hS9 d1w d2w kb db
      go_upto_region 16 with fail
      go_region_held3 (fun w' => w'.cell? ⟨gc, 0, none⟩ = some (.int .i64 c.bt) ∧ w'.cell? ⟨gc, 1, none⟩ = some (.int .i64 c.rw) ∧ w'.cell? ⟨gc, 2, none⟩ = some (.int .i64 c.wd) ∧ w'.cell? ⟨gc, 3, none⟩ = some (.int .i64 c.md) ∧ w'.cell? ⟨gc, 4, none⟩ = some (.int .u64 c.sd) ∧ w'.cell? ⟨w.heap.size, 5, none⟩ = some (.slice (some a) n0 k0) ∧ w'.cell? ⟨g, o, none⟩ = some (.int .u64 qk) ∧ w'.cell? ⟨g, o + 1, none⟩ = some (.int .i64 qd)) (first | (refine ⟨?_, ?_, ?_, ?_, ?_, ?_, ?_, ?_⟩ <;> (first | (with_reducible assumption) | (with_reducible refine cell_up e1 ?_) | (with_reducible refine cell_up e2 ?_) | (with_reducible refine cell_up e3 ?_) | (with_reducible refine cell_up e4 ?_) | (with_reducible refine cell_up e5 ?_) | (with_reducible refine cell_up x5 ?_) | (with_reducible refine cell_up d1 ?_) | (with_reducible refine cell_up d2 ?_)) <;> (repeat' (first | (with_reducible exact Below.refl _ _) | (with_reducible assumption) | (with_reducible refine below_over ?_ _ _) | (with_reducible refine Lw.below_alloc ?_ _) | (with_reducible refine Below.drew ?_) | (with_reducible refine below_drewN ?_ _) | (with_reducible refine Below.setCell ?_ ?_ _) | go_size)))) (first | (go_at_call 13; (with_reducible refine (CC.out _).mono ?_); rintro e w' ⟨rfl, hb⟩; obtain ⟨bs, dd, rfl⟩ := below_grow hb; clear hb))
      all_goals go_upto_region 21 with (go_at_call 11; (with_reducible refine (CX.out _).mono ?_); rintro e w7 ⟨rfl, hb⟩; have UP := (fun (b : Addr) (v : Value) h => cell_up (a := b) (v := v) h hb); (first | (obtain ⟨ub, hub9⟩ : ∃ ub, wr.heap.size + bs.size = ub := ⟨_, rfl⟩; have u1 := UP ⟨wr.heap.size + bs.size, 1, none⟩ (.int .i64 D2) (by simp [go_sem]; done); rw [hub9] at u1 ⊢) | (obtain ⟨ub, hub9⟩ : ∃ ub, wr.heap.size = ub := ⟨_, rfl⟩; have u1 := UP ⟨wr.heap.size, 1, none⟩ (.int .i64 D2) (by simp [go_sem]; done); rw [hub9] at u1 ⊢)); clear hub9 UP; have HB7 := Lib.hid (below_call (w1 := w7) (show Below wr.heap.size wr _ by repeat' (first | (with_reducible exact Below.refl _ _) | (with_reducible assumption) | (with_reducible refine below_over ?_ _ _) | (with_reducible refine Lw.below_alloc ?_ _) | (with_reducible refine Below.drew ?_) | (with_reducible refine below_drewN ?_ _) | (with_reducible refine Below.setCell ?_ ?_ _) | go_size)) hb (Nat.le_refl _)); clear hb)
      · have HV7 := Lib.hid (HVr.out.up HB7.out)
        have hcl := (midI HV7.out.i0).cell HX9.out
        have hfz := (midI HV7.out.i0).frozen (0 + vn)
        have hm6 := (midI HV7.out.i0).set vn S9
        have hk6 : Kept (fun k => k = gw) w7 (w7.setCell ⟨gw, 0 + vn, none⟩ (.int .i64 S9)) := (Kept.refl (fun k => k = gw) w7).set (.inl rfl) _ _
        rw [HSET.out] at hm6
        rw [← Ord.add_at, HGAD.out] at hcl hfz hm6 hk6
        have HM6 := Lib.hid hm6
        have HK6 := Lib.hid hk6
        clear hm6 hk6
        go_region
        go_wp2
        go_roundw
        case rel => exact ⟨i + 1, by omega, by omega, by go_num, (HV7.out.turn_0 (midT gw _) HM6.out HK6.out (fun k hk => .inl hk)).up (by repeat' (first | (with_reducible exact Below.refl _ _) | (with_reducible assumption) | (with_reducible refine below_over ?_ _ _) | (with_reducible refine Lw.below_alloc ?_ _) | (with_reducible refine Below.drew ?_) | (with_reducible refine below_drewN ?_ _) | (with_reducible refine Below.setCell ?_ ?_ _) | go_size))⟩
        case measure => simp [intOf]; omega
      · have HV7 := Lib.hid (HVr.out.up HB7.out)
        have hcl := (midI HV7.out.i0).cell HX9.out
        have hfz := (midI HV7.out.i0).frozen (0 + vn)
        have hm6 := (midI HV7.out.i0).set vn S9
        have hk6 : Kept (fun k => k = gw) w7 (w7.setCell ⟨gw, 0 + vn, none⟩ (.int .i64 S9)) := (Kept.refl (fun k => k = gw) w7).set (.inl rfl) _ _
        rw [HSET.out] at hm6
        rw [← Ord.add_at, HGAD.out] at hcl hfz hm6 hk6
        have HM6 := Lib.hid hm6
        have HK6 := Lib.hid hk6
        clear hm6 hk6
        go_region
        go_wp2
        go_roundw
        case rel => exact ⟨i + 1, by omega, by omega, by go_num, (HV7.out.turn_0 (midT gw _) HM6.out HK6.out (fun k hk => .inl hk)).up (by repeat' (first | (with_reducible exact Below.refl _ _) | (with_reducible assumption) | (with_reducible refine below_over ?_ _ _) | (with_reducible refine Lw.below_alloc ?_ _) | (with_reducible refine Below.drew ?_) | (with_reducible refine below_drewN ?_ _) | (with_reducible refine Below.setCell ?_ ?_ _) | go_size))⟩
        case measure => simp [intOf]; omega
    · have hta : un.take i = un := List.take_of_length_le (by rw [HUL.out]; omega)
      have hv9 := HVr.out
      rw [hta] at hv9
      rw [← HGAD.out]
      have HVz := Lib.hid hv9
      have hdl : decide (sums K un = sums K un) = true := decide_eq_true rfl
      clear hv9 hta x0 x1 x2 x3 x4 e1 e2 e3 e4 e5 HVr
      have hcases : (i : Int) < n0 ∧ ¬ (i : Int) < 60 ∨ ¬ (i : Int) < n0 := by omega
      rcases hcases with ⟨hc1, hc2⟩ | hc1
      all_goals clear hlt
      all_goals go_wp2_with (first
        | (go_at_call 15; (with_reducible refine (rsame_any _ _ _ _ _ _ (sums K un) (sums K un) _ (rdI HVy.out.i0) (midI HVy.out.i1).rd (sums_len K un) (sums_len K un) (kle HK8.out) (kle HK8.out)).mono ?_); rintro e we ⟨rfl, hb⟩; have HVx := Lib.hid (HVy.out.up hb); clear hb)
        | (go_at_call 16; (with_reducible refine (CR.out p F _ (stI HVz.out.i2)).mono ?_); rintro e wd ⟨Ad, cd, rfl, h1, h2, hb⟩; have HVy := Lib.hid (HVz.out.push (rdT Ad (sums K un)) hb h1 h2); clear h1 h2 hb))
      all_goals go_ret
      all_goals exact ⟨ret_bs (by first | rfl | (simp [*]; done)), HVx.out.below⟩
set_option maxRecDepth 100000 in
set_option maxHeartbeats 40000000 in
theorem sums_s_false (x : Cfg) (A : Option Addr) (n0 k0 : Nat) (qs : Ups) (lv : Int) (w : World) (hx : x.Ok) (hq : UpdV w A n0 k0 qs) (c : Cfg) (hC : { anyC x 10 9 with md := 1 } = c) (X : Int) (n : Nat) (a1 : bits .and .i64 lv 65535 = X) (b1 : 0 ≤ X) (dd1 : Int.tmod X (c.bt + 1) = (n : Int)) (ff1 : (n : Int) < c.bt + 1) (hxe : exactB c n = false) :
    Calls Try.prog 3 #[.agg #[.int .i64 x.bt, .int .i64 x.rw, .int .i64 x.wd, .int .i64 x.md, .int .u64 x.sd, .slice A n0 k0], .int .i64 lv, .bool false] w fun e w' => e = .returned (.bool true) ∧ Below w.heap.size w w' := by
  have hr0 := any_right x 10 9 (by omega) (by omega) (by omega) (by omega)
  have hco0 := any_ok x hx 10 9 (by omega) (by omega) (by omega) (by omega)
  have hr : IsRight c := by rw [← hC]; exact ⟨hr0.1, hr0.2.1, hr0.2.2.1, hr0.2.2.2.1, hr0.2.2.2.2.1, hr0.2.2.2.2.2.1, (by show (1 : Int) ≤ 1; omega), (by show (1 : Int) ≤ 3; omega)⟩
  have hco : c.Ok := by rw [← hC]; exact ⟨hco0.b0, hco0.b1, hco0.r0, hco0.r1, hco0.w0, hco0.w1, by show -9223372036854775808 ≤ (1 : Int); omega, by show (1 : Int) ≤ 9223372036854775807; omega, hco0.s0, hco0.s1⟩
  have hbt := hr.1
  have hb5 := hr.2.1
  have hkeys : 1 ≤ keys c 0 := keys_pos.2 ⟨hr, by omega, by omega⟩
  have FD := Lib.hid (fun w hq => fed_m x A n0 k0 qs 1 (by omega) (by omega) 0 60 0 60 c w hx hq rfl rfl (by omega) (by omega) hC)
  have hin := upsR_in hkeys qs 0 60
  have hln := upsR_ln c 0 qs
  rw [hq.len] at hln
  have HUG := Lib.hid (fun i q (hi : i < 60) (h : qs[i]? = some q) => upsR_get (c := c) (l := 0) hi h)
  have hcu := fun q => cutU_ok hkeys q
  have HCU := Lib.hid hcu
  have CCU := Lib.hid (fun w k d h0 h1 h2 h3 => rcut15_any c k d w hco h0 h1 h2 h3 hkeys)
  have HUK := Lib.hid (fun U (h0 : 0 ≤ U) (h1 : U < keys c 0) => upK_keys hr (k := U) (n := n) h0 h1 (by omega))
  have HSR := Lib.hid (fun U => shr_at (U := U) (n := n) (by omega))
  have hkn0 := keys_bd c 0
  have HK0 := Lib.hid hkn0
  have CX := Lib.hid (fun w => exact_any c n w hco (by omega) (by omega))
  rw [hxe] at CX
  obtain ⟨us, hus⟩ : ∃ us, upsR c 0 qs 0 60 = us := ⟨_, rfl⟩
  rw [hus] at FD hin hln HUG
  have hlv := lv_size hr hin (n := n) (by omega)
  have hla := lv_at hr us (n := n) (by omega)
  have hst : (stOf c us n).fl = (cells c n (upN us n)).flatten := by
    unfold stOf
    rw [if_neg (by rw [hxe]; simp)]
    rfl
  rw [hst] at hla
  have hmd : c.md = 1 := by rw [← hC]
  have hne2 : c.md ≠ 2 := by omega
  have hiN := upN_in hr hin (n := n) (by omega)
  have hulN : (upN us n).length ≤ 60 := by rw [upN_len, hln]; exact Nat.min_le_left _ _
  obtain ⟨un, hun⟩ : ∃ un, upN us n = un := ⟨_, rfl⟩
  rw [hun] at hla hiN hulN
  have HUN := Lib.hid hun
  have HUL : Hid (un.length = min 60 n0) := Lib.hid (by rw [← hun, upN_len, hln])
  obtain ⟨m, hm⟩ : ∃ m, rws c = m := ⟨_, rfl⟩
  obtain ⟨wn, hwn⟩ : ∃ wn, wds c = wn := ⟨_, rfl⟩
  have hrb := rws_bd hr
  have hwb := wds_bd hr
  rw [hm] at hrb
  rw [hwn] at hwb
  have HRW : Hid (c.rw = (m : Int)) := Lib.hid hrb.2.2.symm
  have HWD : Hid (c.wd = (wn : Int)) := Lib.hid hwb.2.2.symm
  have hm8 : 1 ≤ m ∧ m ≤ 8 := ⟨hrb.1, hrb.2.1⟩
  have hn1 : 1 ≤ wn ∧ wn ≤ 128 := ⟨hwb.1, hwb.2.1⟩
  have HS := Lib.hid (fun j U D r v hu hrm hv => sum_step (c := c) (l := n) (us := un) (j := j) (U := U) (D := D) hr hne2 hiN hulN hu (r := r) (v := v) hrm hv)
  have HE := Lib.hid (fun j U D hu => sum_end (c := c) (l := n) (us := un) (j := j) (U := U) (D := D) hr hne2 hiN hulN hu)
  have CB := Lib.hid (fun U w h0 h1 h2 => columns_w c n U m w hco (by omega) (by omega) h0 h1 h2 hm)
  have HCO := Lib.hid (fun U (h2 : U < keys c n) r (hrm : r < m) => cols_w (c := c) (l := n) (k := U) hr h2 (r := r) (by rw [hm]; exact hrm))
  have hdl := cells_dims2 hr hiN hulN hne2
  have HZ0 : Hid ((cells c n (un.take 0)).flatten = List.replicate (m * wn) 0) := Lib.hid (by rw [List.take_zero, cells_nil, hm, hwn]; exact zeros_flat2 _ _)
  rw [hm, hwn] at HS hdl
  rw [hm] at HE
  obtain ⟨Q, hQ⟩ : ∃ Q, m * wn = Q := ⟨_, rfl⟩
  have hQb : Q ≤ 1024 ∧ 1 ≤ Q := by rw [← hQ]; exact ⟨Nat.mul_le_mul hm8.2 hn1.2, Nat.mul_pos (by omega) (by omega)⟩
  have HPL : Hid (∀ r v, r < m → v < wn → r * wn + v < Q) := Lib.hid (fun r v h1 h2 => by
    have h3 : (r + 1) * wn ≤ m * wn := Nat.mul_le_mul_right _ h1
    rw [Nat.succ_mul] at h3
    omega)
  have hQi : (m : Int) * (wn : Int) = (Q : Int) := by rw [← hQ]; simp
  have hfl := (flat_dims hdl).trans hQ
  have FLE := Lib.hid hfl
  rw [hQ] at HZ0
  have q1 : IntKind.i64.wrap (c.rw * c.wd) = (Q : Int) := by rw [HRW.out, HWD.out, hQi]; exact kw1 hQb.1
  have q2 : wrap64 (c.rw * c.wd) = (Q : Int) := by rw [HRW.out, HWD.out, hQi]; exact kw3 hQb.1
  have hmk := mk_row Q hQb.1
  obtain ⟨Z, hZ⟩ : ∃ Z, stsOf c us = Z := ⟨_, rfl⟩
  rw [hZ] at FD hla hlv
  have CR := Lib.hid (fun p F w hs => cs_row p F c Z n ((cells c n un).flatten) w hs (by omega) hla (by rw [hfl]; exact hQb.2) (by rw [hfl]; exact hQb.1))
  rw [hfl] at CR
  have HQ10 := Lib.hid hQb.1
  have hku : IntKind.i64.wrap (Q : Int) = (Q : Int) := kw1 hQb.1
  have hku3 : wrap64 (Q : Int) = (Q : Int) := kw3 hQb.1
  have hnu : IntKind.u64.wrap (n : Int) = n := by rw [IntKind.wrap_u64]; omega
  have HN64 : Hid (n ≤ 64) := Lib.hid (by omega)
  have hkn := keys_bd c n
  have HKN := Lib.hid hkn
  have HQ := Lib.hid hq
  have HL := Lib.hid hq.len
  have hnc := hq.nc
  have hcm := hq.cm
  unfold maxLen at hcm
  have hw1 : IntKind.i64.wrap (c.bt + 1) = c.bt + 1 := bw1 hbt hb5
  have hw2 : wrap64 (c.bt + 1) = c.bt + 1 := bw2 hbt hb5
  have hbn : ¬ c.bt + 1 = 0 := bw3 hbt
  have HBX : Hid (Have w (w.alloc (.cells #[.int .i64 x.bt, .int .i64 x.rw, .int .i64 x.wd, .int .i64 x.md, .int .u64 x.sd, .slice A n0 k0] 27)) [boxT w.heap.size 27 #[.int .i64 x.bt, .int .i64 x.rw, .int .i64 x.wd, .int .i64 x.md, .int .u64 x.sd, .slice A n0 k0]]) := Lib.hid (box_new w _ _)
  clear hr0 hco0 hr hco hbt hb5 hkeys hin hln hcu hkn0 hkn hus hlv hla hst hun hulN hiN hne2 hmd hm hwn hrb hwb hdl hQ hQi hfl hZ hx hq hC hxe b1 ff1
  go_enter Try.func3, Try.ntmps3
  go_upto_region 13 with (first
    | (go_at_call 11; (with_reducible refine (CX.out _).mono ?_); rintro e w4 ⟨rfl, hb⟩; have HV5 := Lib.hid (HV3.out.up hb); clear hb; clear c0 c1 c2 c3 c4; obtain ⟨c0, c1, c2, c3, c4⟩ := box5 HV5.out.i0)
    | (go_at_call 10; (with_reducible refine (FD.out _ (HQ.out.up HV1.out.below)).mono ?_); rintro e w2 ⟨p, F, rfl, hv⟩; have HV2 := Lib.hid (HV1.out.join hv); simp only [List.cons_append, List.nil_append] at HV2; clear hv; have HV3 := Lib.hid (HV2.out.push (boxT w2.heap.size 24 #[.int .i64 c.bt, .int .i64 c.rw, .int .i64 c.wd, .int .i64 c.md, .int .u64 c.sd]) (Lw.below_alloc (Below.refl _ _) _) (heap_alloc_new w2 _) (fun k hk => Nat.le_of_eq hk.symm)); obtain ⟨c0, c1, c2, c3, c4⟩ := box5 HV3.out.i0; clear x0 x1 x2 x3 x4 x5)
    | (go_at_call 9; (with_reducible refine (shown_any _).mono ?_); rintro e w1 ⟨rfl, hb⟩; have HV1 := Lib.hid (HBX.out.up hb); clear hb; obtain ⟨x0, x1, x2, x3, x4, x5⟩ := box6 HV1.out.i0))
  obtain ⟨gc, hgc⟩ : ∃ g, w2.heap.size = g := ⟨_, rfl⟩
  rw [hgc] at HV5 ⊢
  obtain ⟨gw, hgw⟩ : ∃ g, w4.heap.size = g := ⟨_, rfl⟩
  have hmid := Grd.mid_made w4 Q 2
  have hv6 := HV5.out.push (midT w4.heap.size (List.replicate Q 0)) (Lw.below_alloc (Below.refl _ _) (.cells (madeCells #[.int .i64 0] Q) 2)) hmid (fun k hk => Nat.le_of_eq hk.symm)
  obtain ⟨w6, hw6⟩ : ∃ w6, w6 = w4.alloc (.cells (madeCells #[.int .i64 0] Q) 2) := ⟨_, rfl⟩
  rw [← hw6] at hv6 ⊢
  rw [hgw] at hv6 ⊢
  rw [← HZ0.out] at hv6
  have HV6 := Lib.hid hv6
  clear hmid hv6 hw6 hgw hgc HV1 HV2 HV3 HV5 HBX FD hmk hw1 hw2 hbn hku hku3 a1 dd1 HZ0 q1 q2
  clear c0 c1 c2 c3 c4
  go_wp2
  go_loopw [13] (fun iv wr => ∃ (i : Nat), i ≤ n0 ∧ i ≤ 60 ∧ iv = .int .i64 i ∧ Have w wr [midT gw (cells c n (un.take i)).flatten, boxT gc 24 #[.int .i64 c.bt, .int .i64 c.rw, .int .i64 c.wd, .int .i64 c.md, .int .u64 c.sd], stT p F c Z, boxT w.heap.size 27 #[.int .i64 x.bt, .int .i64 x.rw, .int .i64 x.wd, .int .i64 x.md, .int .u64 x.sd, .slice A n0 k0]]) (fun iv _ => n0 - (intOf iv).toNat)
  case atStart => exact ⟨0, Nat.zero_le _, Nat.zero_le _, rfl, HV6.out⟩
  case round =>
    obtain ⟨i, hi9, hi6, rfl, hv⟩ := hrel
    have HVr := Lib.hid hv
    have HBr := Lib.hid hv.below
    clear hv
    obtain ⟨e1, e2, e3, e4, e5⟩ := box5 HVr.out.i1
    obtain ⟨x0, x1, x2, x3, x4, x5⟩ := box6 HVr.out.i3
    by_cases hlt : i < n0 ∧ i < 60
    · obtain ⟨hi1x, hi2x⟩ := hlt
      obtain ⟨q, hq1⟩ : ∃ q, qs[i]? = some q := ⟨_, List.getElem?_eq_getElem (by rw [HL.out]; exact hi1x)⟩
      have hug := HUG.out i q hi2x hq1
      have hcq := HCU.out q
      obtain ⟨a, g, o, rfl, hadd, d1w, d2w, kb, db⟩ := HQ.out.at hq1
      obtain ⟨qk, qd⟩ := q
      simp only at d1w d2w kb db
      have d1 := cell_up d1w HBr.out
      have d2 := cell_up d2w HBr.out
      have CC := Lib.hid (fun w => CCU.out w qk qd kb.1 kb.2 db.1 db.2)
      obtain ⟨U, hU⟩ : ∃ U, (cutU c 0 (qk, qd)).1 = U := ⟨_, rfl⟩
      obtain ⟨D2, hD2⟩ : ∃ D2, (cutU c 0 (qk, qd)).2 = D2 := ⟨_, rfl⟩
      have hug2 : us[i]? = some (U, D2) := by rw [hug, ← hU, ← hD2]
      rw [hU, hD2] at CC hcq
      have hvb := HUK.out U hcq.1 hcq.2.1
      have hsr := HSR.out U
      have hun2 := upN_get (n := n) hug2
      rw [HUN.out] at hun2
      obtain ⟨V, hV⟩ : ∃ V, upK U n = V := ⟨_, rfl⟩
      rw [hV] at hvb hsr hun2
      have hsr2 : U / 2 ^ n = V := by rw [← hsr, Nat.min_eq_left HN64.out]
      have CU := Lib.hid (fun w => CB.out V w hvb.1 (by have := HKN.out; omega) hvb.2)
      have HCG := Lib.hid (fun r hrm => HCO.out V hvb.2 r hrm)
      rw [HWD.out] at HCG
      have HST := Lib.hid (fun r v hrm hv => HS.out i V D2 r v hun2 hrm hv)
      have HSE := Lib.hid (HE.out i V D2 hun2)
      have hdb : -1099511627776 ≤ D2 ∧ D2 ≤ 1099511627776 := ⟨hcq.2.2.1, hcq.2.2.2.1⟩
      clear hq1 hug hug2 hU hD2 hV hcq hvb hun2 d1w d2w kb db x0 x1 x2 x3 x4
      go_upto_region 16 with fail
      go_region_held3 (fun w' => w'.cell? ⟨gc, 0, none⟩ = some (.int .i64 c.bt) ∧ w'.cell? ⟨gc, 1, none⟩ = some (.int .i64 c.rw) ∧ w'.cell? ⟨gc, 2, none⟩ = some (.int .i64 c.wd) ∧ w'.cell? ⟨gc, 3, none⟩ = some (.int .i64 c.md) ∧ w'.cell? ⟨gc, 4, none⟩ = some (.int .u64 c.sd) ∧ w'.cell? ⟨w.heap.size, 5, none⟩ = some (.slice (some a) n0 k0) ∧ w'.cell? ⟨g, o, none⟩ = some (.int .u64 qk) ∧ w'.cell? ⟨g, o + 1, none⟩ = some (.int .i64 qd)) (first | (refine ⟨?_, ?_, ?_, ?_, ?_, ?_, ?_, ?_⟩ <;> (first | (with_reducible assumption) | (with_reducible refine cell_up e1 ?_) | (with_reducible refine cell_up e2 ?_) | (with_reducible refine cell_up e3 ?_) | (with_reducible refine cell_up e4 ?_) | (with_reducible refine cell_up e5 ?_) | (with_reducible refine cell_up x5 ?_) | (with_reducible refine cell_up d1 ?_) | (with_reducible refine cell_up d2 ?_)) <;> (repeat' (first | (with_reducible exact Below.refl _ _) | (with_reducible assumption) | (with_reducible refine below_over ?_ _ _) | (with_reducible refine Lw.below_alloc ?_ _) | (with_reducible refine Below.drew ?_) | (with_reducible refine below_drewN ?_ _) | (with_reducible refine Below.setCell ?_ ?_ _) | go_size)))) (first | (go_at_call 13; (with_reducible refine (CC.out _).mono ?_); rintro e w' ⟨rfl, hb⟩; obtain ⟨bs, dd, rfl⟩ := below_grow hb; clear hb))
      all_goals go_wp2_with (first
        | (go_at_call 14; (with_reducible refine (CU.out _).mono ?_); rintro e w8 ⟨A8, cap8, rfl, rd8, hc8, hb⟩; have RD8 := Lib.hid rd8; have HA8 := Lib.hid hc8; have u1 := cell_up u1 hb; have HV8 := Lib.hid (HV7.out.up hb); have HGU : Hid (¬ ub = gw) := Lib.hid (fun h => by have h1 := (midI HVr.out.i0).lt; have := HU9.out; omega); have RDG : Hid (¬ A8.block = gw) := Lib.hid (fun h => by have h1 := (midI HV7.out.i0).lt; have := HA8.out; omega); clear hb rd8 hc8)
        | (go_at_call 11; (with_reducible refine (CX.out _).mono ?_); rintro e w7 ⟨rfl, hb⟩; have UP := (fun (b : Addr) (v : Value) h => cell_up (a := b) (v := v) h hb); (first | (obtain ⟨ub, hub9⟩ : ∃ ub, wr.heap.size + bs.size = ub := ⟨_, rfl⟩; have u1 := UP ⟨wr.heap.size + bs.size, 1, none⟩ (.int .i64 D2) (by simp [go_sem]; done); rw [hub9] at u1 ⊢) | (obtain ⟨ub, hub9⟩ : ∃ ub, wr.heap.size = ub := ⟨_, rfl⟩; have u1 := UP ⟨wr.heap.size, 1, none⟩ (.int .i64 D2) (by simp [go_sem]; done); rw [hub9] at u1 ⊢)); have HU9 : Hid (wr.heap.size ≤ ub) := Lib.hid (by omega); clear hub9 UP; have HB7 := Lib.hid (below_call (w1 := w7) (show Below wr.heap.size wr _ by repeat' (first | (with_reducible exact Below.refl _ _) | (with_reducible assumption) | (with_reducible refine below_over ?_ _ _) | (with_reducible refine Lw.below_alloc ?_ _) | (with_reducible refine Below.drew ?_) | (with_reducible refine below_drewN ?_ _) | (with_reducible refine Below.setCell ?_ ?_ _) | go_size)) hb (Nat.le_refl _)); clear hb; have HV7 := Lib.hid (HVr.out.up HB7.out); clear e1 e2 e3 e4 e5; obtain ⟨e1, e2, e3, e4, e5⟩ := box5 HV7.out.i1))
      · clear e1 e2 e3 e4 e5 x5 d1 d2
        obtain ⟨wo, rfl⟩ : ∃ wo, wo = wr := ⟨_, rfl⟩
        go_loopw [17] (fun rv wr => ∃ (r : Nat), r ≤ m ∧ rv = .int .i64 r ∧ Have w wr [midT gw (sumW c n un i V D2 r), boxT gc 24 #[.int .i64 c.bt, .int .i64 c.rw, .int .i64 c.wd, .int .i64 c.md, .int .u64 c.sd], stT p F c Z, boxT w.heap.size 27 #[.int .i64 x.bt, .int .i64 x.rw, .int .i64 x.wd, .int .i64 x.md, .int .u64 x.sd, .slice (some a) n0 k0]] ∧ Kept (fun k => k = gw) w8 wr) (fun rv _ => m - (intOf rv).toNat)
        case atStart => exact ⟨0, Nat.zero_le _, rfl, by rw [sum_zero]; exact HV8.out, Kept.refl _ _⟩
        case round =>
          obtain ⟨r, hr, rfl, hv, hk⟩ := hrel
          have HVi := Lib.hid hv
          have HKi := Lib.hid hk
          clear hv hk
          obtain ⟨e1, e2, e3, e4, e5⟩ := box5 HVi.out.i1
          have u9 := HKi.out.cell u1 HGU.out
          have hrw := HRW.out
          by_cases hrm : r < m
          · obtain ⟨v, hvc, hvn⟩ := HCG.out r hrm
            obtain ⟨x9, hx9, hxb, hset⟩ := HST.out r v hrm hvc
            have hbl : (A8.add r).block = A8.block := by unfold Addr.add; split <;> rfl
            have c7 := HKi.out.cell (RD8.out.at hvc) (by rw [hbl]; exact RDG.out)
            clear hbl
            have hplt : r * wn + v < Q := HPL.out r v hrm (by omega)
            have hrn1 : (r : Int) * c.wd = ((r * wn : Nat) : Int) := by rw [HWD.out]; simp
            obtain ⟨P, hP⟩ : ∃ P, r * wn = P := ⟨_, rfl⟩
            rw [hP] at hrn1 hx9 hset hplt
            have hfz := (midI HVi.out.i0).frozen (0 + (P + v))
            have hcl := (midI HVi.out.i0).cell hx9
            obtain ⟨gad, hgad⟩ : ∃ gad : Addr, (⟨gw, 0, none⟩ : Addr) = gad := ⟨_, rfl⟩
            have hm6 := (midI HVi.out.i0).set (P + v) (x9 + D2)
            have hk6 : Kept (fun k => k = gw) wr (wr.setCell ⟨gw, 0 + (P + v), none⟩ (.int .i64 (x9 + D2))) := (Kept.refl (fun k => k = gw) wr).set (.inl rfl) _ _
            rw [hset] at hm6
            rw [← Ord.add_at, hgad] at hcl hfz hm6 hk6
            have HM6 := Lib.hid hm6
            have HK6 := Lib.hid hk6
            obtain ⟨AT, hAT⟩ : ∃ AT, P + v = AT := ⟨_, rfl⟩
            rw [hAT] at hcl hfz HM6 HK6 hplt
            have a1 : IntKind.i64.wrap ((r : Int) * c.wd) = (P : Int) := by rw [hrn1]; exact IntWalk.i64_in _ ⟨by omega, by omega⟩
            have a2 : wrap64 ((r : Int) * c.wd) = (P : Int) := by rw [hrn1]; exact IntWalk.wrap64_in _ ⟨by omega, by omega⟩
            have a3 : IntKind.i64.wrap ((P : Int) + (v : Int)) = (AT : Int) := by rw [IntWalk.i64_in _ ⟨by omega, by omega⟩]; omega
            have a4 : wrap64 ((P : Int) + (v : Int)) = (AT : Int) := by rw [IntWalk.wrap64_in _ ⟨by omega, by omega⟩]; omega
            obtain ⟨S, hS⟩ : ∃ S, x9 + D2 = S := ⟨_, rfl⟩
            have a5 : IntKind.i64.wrap (x9 + D2) = S := by rw [hS]; exact IntWalk.i64_in _ ⟨by omega, by omega⟩
            have a6 : wrap64 (x9 + D2) = S := by rw [hS]; exact IntWalk.wrap64_in _ ⟨by omega, by omega⟩
            rw [hS] at HM6 HK6
            have hr3 : (r : Int) < (m : Int) := by omega
            have hr4 : (0 : Int) ≤ (r : Int) := by omega
            have hat0 : (0 : Int) ≤ (AT : Int) := Int.natCast_nonneg AT
            have hat1 : (AT : Int) < (Q : Int) := Int.ofNat_lt.2 hplt
            have hat2 : ¬ (AT : Int) < 0 := Int.not_lt.2 hat0
            have hat3 : ¬ (Q : Int) ≤ (AT : Int) := Int.not_le.2 hat1
            have hat4 : decide ((AT : Int) < 0) = false := decide_eq_false hat2
            have hat5 : decide ((Q : Int) ≤ (AT : Int)) = false := decide_eq_false hat3
            rw [hrw] at e2
            rw [hgad]
            clear hvc hx9 hset hrn1 hP hm6 hk6 hAT hS hrw hxb hdb hcm hnc hplt hvn
            go_wp2
            go_quiet (fail)
            have hw9 := inc_wrap hrm hm8.2
            have hw8 := inc_wrap2 hrm hm8.2
            have HRM := Lib.hid hrm
            have HM8 := Lib.hid hm8
            clear hm8 hn1 hQb hr hrm hi9 hi6 hi1x hi2x a1 a2 a3 a4 hr3 hr4 hat0 hat1 u1
            go_wp2
            go_region
            go_wp2
            have hrm := HRM.out
            have hm9 := HM8.out
            go_roundw
            case rel => exact ⟨r + 1, by omega, by go_num, (HVi.out.turn_0 (midT gw _) HM6.out HK6.out (fun k hk => .inl hk)).up (by repeat' (first | (with_reducible exact Below.refl _ _) | (with_reducible assumption) | (with_reducible refine below_over ?_ _ _) | (with_reducible refine Lw.below_alloc ?_ _) | (with_reducible refine Below.drew ?_) | (with_reducible refine below_drewN ?_ _) | (with_reducible refine Below.setCell ?_ ?_ _) | go_size)), HKi.out.trans (HK6.out.drewN _) (fun q hq h => h)⟩
            case measure => simp [intOf]; omega
          · have e : r = m := by omega
            subst e
            have hv9 := HVi.out
            rw [HSE.out] at hv9
            have HV9 := Lib.hid hv9
            clear hv9
            rw [hrw] at e2
            clear hrw
            go_wp2
            go_roundw
            case rel => exact ⟨i + 1, by omega, by omega, by go_num, HV9.out⟩
            case measure => simp [intOf]; omega
      · clear e1 e2 e3 e4 e5 x5 d1 d2
        obtain ⟨wo, rfl⟩ : ∃ wo, wo = wr := ⟨_, rfl⟩
        go_loopw [17] (fun rv wr => ∃ (r : Nat), r ≤ m ∧ rv = .int .i64 r ∧ Have w wr [midT gw (sumW c n un i V D2 r), boxT gc 24 #[.int .i64 c.bt, .int .i64 c.rw, .int .i64 c.wd, .int .i64 c.md, .int .u64 c.sd], stT p F c Z, boxT w.heap.size 27 #[.int .i64 x.bt, .int .i64 x.rw, .int .i64 x.wd, .int .i64 x.md, .int .u64 x.sd, .slice (some a) n0 k0]] ∧ Kept (fun k => k = gw) w8 wr) (fun rv _ => m - (intOf rv).toNat)
        case atStart => exact ⟨0, Nat.zero_le _, rfl, by rw [sum_zero]; exact HV8.out, Kept.refl _ _⟩
        case round =>
          obtain ⟨r, hr, rfl, hv, hk⟩ := hrel
          have HVi := Lib.hid hv
          have HKi := Lib.hid hk
          clear hv hk
          obtain ⟨e1, e2, e3, e4, e5⟩ := box5 HVi.out.i1
          have u9 := HKi.out.cell u1 HGU.out
          have hrw := HRW.out
          by_cases hrm : r < m
          · obtain ⟨v, hvc, hvn⟩ := HCG.out r hrm
            obtain ⟨x9, hx9, hxb, hset⟩ := HST.out r v hrm hvc
            have hbl : (A8.add r).block = A8.block := by unfold Addr.add; split <;> rfl
            have c7 := HKi.out.cell (RD8.out.at hvc) (by rw [hbl]; exact RDG.out)
            clear hbl
            have hplt : r * wn + v < Q := HPL.out r v hrm (by omega)
            have hrn1 : (r : Int) * c.wd = ((r * wn : Nat) : Int) := by rw [HWD.out]; simp
            obtain ⟨P, hP⟩ : ∃ P, r * wn = P := ⟨_, rfl⟩
            rw [hP] at hrn1 hx9 hset hplt
            have hfz := (midI HVi.out.i0).frozen (0 + (P + v))
            have hcl := (midI HVi.out.i0).cell hx9
            obtain ⟨gad, hgad⟩ : ∃ gad : Addr, (⟨gw, 0, none⟩ : Addr) = gad := ⟨_, rfl⟩
            have hm6 := (midI HVi.out.i0).set (P + v) (x9 + D2)
            have hk6 : Kept (fun k => k = gw) wr (wr.setCell ⟨gw, 0 + (P + v), none⟩ (.int .i64 (x9 + D2))) := (Kept.refl (fun k => k = gw) wr).set (.inl rfl) _ _
            rw [hset] at hm6
            rw [← Ord.add_at, hgad] at hcl hfz hm6 hk6
            have HM6 := Lib.hid hm6
            have HK6 := Lib.hid hk6
            obtain ⟨AT, hAT⟩ : ∃ AT, P + v = AT := ⟨_, rfl⟩
            rw [hAT] at hcl hfz HM6 HK6 hplt
            have a1 : IntKind.i64.wrap ((r : Int) * c.wd) = (P : Int) := by rw [hrn1]; exact IntWalk.i64_in _ ⟨by omega, by omega⟩
            have a2 : wrap64 ((r : Int) * c.wd) = (P : Int) := by rw [hrn1]; exact IntWalk.wrap64_in _ ⟨by omega, by omega⟩
            have a3 : IntKind.i64.wrap ((P : Int) + (v : Int)) = (AT : Int) := by rw [IntWalk.i64_in _ ⟨by omega, by omega⟩]; omega
            have a4 : wrap64 ((P : Int) + (v : Int)) = (AT : Int) := by rw [IntWalk.wrap64_in _ ⟨by omega, by omega⟩]; omega
            obtain ⟨S, hS⟩ : ∃ S, x9 + D2 = S := ⟨_, rfl⟩
            have a5 : IntKind.i64.wrap (x9 + D2) = S := by rw [hS]; exact IntWalk.i64_in _ ⟨by omega, by omega⟩
            have a6 : wrap64 (x9 + D2) = S := by rw [hS]; exact IntWalk.wrap64_in _ ⟨by omega, by omega⟩
            rw [hS] at HM6 HK6
            have hr3 : (r : Int) < (m : Int) := by omega
            have hr4 : (0 : Int) ≤ (r : Int) := by omega
            have hat0 : (0 : Int) ≤ (AT : Int) := Int.natCast_nonneg AT
            have hat1 : (AT : Int) < (Q : Int) := Int.ofNat_lt.2 hplt
            have hat2 : ¬ (AT : Int) < 0 := Int.not_lt.2 hat0
            have hat3 : ¬ (Q : Int) ≤ (AT : Int) := Int.not_le.2 hat1
            have hat4 : decide ((AT : Int) < 0) = false := decide_eq_false hat2
            have hat5 : decide ((Q : Int) ≤ (AT : Int)) = false := decide_eq_false hat3
            rw [hrw] at e2
            rw [hgad]
            clear hvc hx9 hset hrn1 hP hm6 hk6 hAT hS hrw hxb hdb hcm hnc hplt hvn
            go_wp2
            go_quiet (fail)
            have hw9 := inc_wrap hrm hm8.2
            have hw8 := inc_wrap2 hrm hm8.2
            have HRM := Lib.hid hrm
            have HM8 := Lib.hid hm8
            clear hm8 hn1 hQb hr hrm hi9 hi6 hi1x hi2x a1 a2 a3 a4 hr3 hr4 hat0 hat1 u1
            go_wp2
            go_region
            go_wp2
            have hrm := HRM.out
            have hm9 := HM8.out
            go_roundw
            case rel => exact ⟨r + 1, by omega, by go_num, (HVi.out.turn_0 (midT gw _) HM6.out HK6.out (fun k hk => .inl hk)).up (by repeat' (first | (with_reducible exact Below.refl _ _) | (with_reducible assumption) | (with_reducible refine below_over ?_ _ _) | (with_reducible refine Lw.below_alloc ?_ _) | (with_reducible refine Below.drew ?_) | (with_reducible refine below_drewN ?_ _) | (with_reducible refine Below.setCell ?_ ?_ _) | go_size)), HKi.out.trans (HK6.out.drewN _) (fun q hq h => h)⟩
            case measure => simp [intOf]; omega
          · have e : r = m := by omega
            subst e
            have hv9 := HVi.out
            rw [HSE.out] at hv9
            have HV9 := Lib.hid hv9
            clear hv9
            rw [hrw] at e2
            clear hrw
            go_wp2
            go_roundw
            case rel => exact ⟨i + 1, by omega, by omega, by go_num, HV9.out⟩
            case measure => simp [intOf]; omega
    · have hta : un.take i = un := List.take_of_length_le (by rw [HUL.out]; omega)
      have hv9 := HVr.out
      rw [hta] at hv9
      have HVz := Lib.hid hv9
      have hdl : decide ((cells c n un).flatten = (cells c n un).flatten) = true := decide_eq_true rfl
      clear hv9 hta x0 x1 x2 x3 x4 e1 e2 e3 e4 e5 HVr
      have hcases : (i : Int) < n0 ∧ ¬ (i : Int) < 60 ∨ ¬ (i : Int) < n0 := by omega
      rcases hcases with ⟨hc1, hc2⟩ | hc1
      all_goals clear hlt
      all_goals go_wp2_with (first
        | (go_at_call 15; (with_reducible refine (rsame_any _ _ _ _ _ _ (cells c n un).flatten (cells c n un).flatten _ (rdI HVy.out.i0) (midI HVy.out.i1).rd FLE.out FLE.out (kle HQ10.out) (kle HQ10.out)).mono ?_); rintro e we ⟨rfl, hb⟩; have HVx := Lib.hid (HVy.out.up hb); clear hb)
        | (go_at_call 16; (with_reducible refine (CR.out p F _ (stI HVz.out.i2)).mono ?_); rintro e wd ⟨Ad, cd, rfl, h1, h2, hb⟩; have HVy := Lib.hid (HVz.out.push (rdT Ad (cells c n un).flatten) hb h1 h2); clear h1 h2 hb))
      all_goals go_ret
      all_goals exact ⟨ret_bs (by first | rfl | (simp [*]; done)), HVx.out.below⟩
set_option maxRecDepth 100000 in
set_option maxHeartbeats 40000000 in
theorem sums_e_true (x : Cfg) (A : Option Addr) (n0 k0 : Nat) (qs : Ups) (lv : Int) (w : World) (hx : x.Ok) (hq : UpdV w A n0 k0 qs) (c : Cfg) (hC : { anyC x 10 9 with md := 3 } = c) (X : Int) (n : Nat) (a1 : bits .and .i64 lv 65535 = X) (b1 : 0 ≤ X) (dd1 : Int.tmod X (c.bt + 1) = (n : Int)) (ff1 : (n : Int) < c.bt + 1) (hxe : exactB c n = true) :
    Calls Try.prog 3 #[.agg #[.int .i64 x.bt, .int .i64 x.rw, .int .i64 x.wd, .int .i64 x.md, .int .u64 x.sd, .slice A n0 k0], .int .i64 lv, .bool true] w fun e w' => e = .returned (.bool true) ∧ Below w.heap.size w w' := by
  have hr0 := any_right x 10 9 (by omega) (by omega) (by omega) (by omega)
  have hco0 := any_ok x hx 10 9 (by omega) (by omega) (by omega) (by omega)
  have hr : IsRight c := by rw [← hC]; exact ⟨hr0.1, hr0.2.1, hr0.2.2.1, hr0.2.2.2.1, hr0.2.2.2.2.1, hr0.2.2.2.2.2.1, (by show (1 : Int) ≤ 3; omega), (by show (3 : Int) ≤ 3; omega)⟩
  have hco : c.Ok := by rw [← hC]; exact ⟨hco0.b0, hco0.b1, hco0.r0, hco0.r1, hco0.w0, hco0.w1, by show -9223372036854775808 ≤ (3 : Int); omega, by show (3 : Int) ≤ 9223372036854775807; omega, hco0.s0, hco0.s1⟩
  have hbt := hr.1
  have hb5 := hr.2.1
  have hkeys : 1 ≤ keys c 0 := keys_pos.2 ⟨hr, by omega, by omega⟩
  have FD := Lib.hid (fun w hq => fed_m x A n0 k0 qs 3 (by omega) (by omega) 0 60 0 60 c w hx hq rfl rfl (by omega) (by omega) hC)
  have hin := upsR_in hkeys qs 0 60
  have hln := upsR_ln c 0 qs
  rw [hq.len] at hln
  have HUG := Lib.hid (fun i q (hi : i < 60) (h : qs[i]? = some q) => upsR_get (c := c) (l := 0) hi h)
  have hcu := fun q => cutU_ok hkeys q
  have HCU := Lib.hid hcu
  have CCU := Lib.hid (fun w k d h0 h1 h2 h3 => rcut15_any c k d w hco h0 h1 h2 h3 hkeys)
  have HUK := Lib.hid (fun U (h0 : 0 ≤ U) (h1 : U < keys c 0) => upK_keys hr (k := U) (n := n) h0 h1 (by omega))
  have HSR := Lib.hid (fun U => shr_at (U := U) (n := n) (by omega))
  have hkn0 := keys_bd c 0
  have HK0 := Lib.hid hkn0
  have CX := Lib.hid (fun w => exact_any c n w hco (by omega) (by omega))
  rw [hxe] at CX
  obtain ⟨us, hus⟩ : ∃ us, upsR c 0 qs 0 60 = us := ⟨_, rfl⟩
  rw [hus] at FD hin hln HUG
  have hlv := lv_size hr hin (n := n) (by omega)
  have hla := lv_at hr us (n := n) (by omega)
  obtain ⟨hk1, hk2⟩ := of_decide_eq_true hxe
  have hwd := wds_bd hr
  obtain ⟨K, hKK⟩ : ∃ K : Nat, keys c n = K := ⟨(keys c n).toNat, by omega⟩
  have hK8 : K ≤ 128 := by omega
  have hK1 : 1 ≤ K := by omega
  have hst : (stOf c us n).fl = sums K (upN us n) := by
    unfold stOf
    rw [if_pos hxe, hKK]
    rfl
  rw [hst] at hla
  have hue := upsE_of (upN_in hr hin (n := n) (by omega)) hKK
  have HNX := Lib.hid (fun (i : Nat) (V D : Int) (h : (upN us n)[i]? = some (V, D)) => sums_next hue (by rw [upN_len, hln]; exact Nat.min_le_left _ _) h)
  have CKN := Lib.hid (fun w => rkeys_any c n w hco (by omega) (by omega))
  rw [hKK] at CKN HUK
  obtain ⟨un, hun⟩ : ∃ un, upN us n = un := ⟨_, rfl⟩
  rw [hun] at HNX hla
  have HUN := Lib.hid hun
  have hul : un.length = min 60 n0 := by rw [← hun, upN_len, hln]
  have HUL := Lib.hid hul
  obtain ⟨Z, hZ⟩ : ∃ Z, stsOf c us = Z := ⟨_, rfl⟩
  rw [hZ] at FD hla hlv
  have CR := Lib.hid (fun p F w hs => cs_row p F c Z n (sums K un) w hs (by omega) hla (by rw [sums_len]; exact hK1) (by rw [sums_len]; exact Nat.le_trans hK8 (by decide)))
  rw [sums_len] at CR
  have hku : IntKind.i64.wrap (K : Int) = (K : Int) := kw1 (Nat.le_trans hK8 (by decide))
  have hku2 : IntKind.u64.wrap (K : Int) = (K : Int) := kw2 (Nat.le_trans hK8 (by decide))
  have hku3 : wrap64 (K : Int) = (K : Int) := kw3 (Nat.le_trans hK8 (by decide))
  have hnu : IntKind.u64.wrap (n : Int) = n := by rw [IntKind.wrap_u64]; omega
  have hK10 : K ≤ 1024 := Nat.le_trans hK8 (by decide)
  have hmk := mk_row K hK10
  have HZS : Hid (sums K (un.take 0) = List.replicate K 0) := Lib.hid (by rw [List.take_zero]; exact zero_sums K)
  have HK8 := Lib.hid hK10
  have HN64 : Hid (n ≤ 64) := Lib.hid (by omega)
  have HQ := Lib.hid hq
  have HL := Lib.hid hq.len
  have hnc := hq.nc
  have hcm := hq.cm
  unfold maxLen at hcm
  have hw1 : IntKind.i64.wrap (c.bt + 1) = c.bt + 1 := bw1 hbt hb5
  have hw2 : wrap64 (c.bt + 1) = c.bt + 1 := bw2 hbt hb5
  have hbn : ¬ c.bt + 1 = 0 := bw3 hbt
  have HBX : Hid (Have w (w.alloc (.cells #[.int .i64 x.bt, .int .i64 x.rw, .int .i64 x.wd, .int .i64 x.md, .int .u64 x.sd, .slice A n0 k0] 27)) [boxT w.heap.size 27 #[.int .i64 x.bt, .int .i64 x.rw, .int .i64 x.wd, .int .i64 x.md, .int .u64 x.sd, .slice A n0 k0]]) := Lib.hid (box_new w _ _)
  clear hr0 hco0 hr hco hbt hb5 hkeys hin hln hcu hkn0 hus hlv hla hk1 hk2 hwd hKK hst hue hun hul hZ hx hq hC hxe b1 ff1
  go_enter Try.func3, Try.ntmps3
  go_upto_region 13 with (first
    | (go_at_call 12; (with_reducible refine (CKN.out _).mono ?_); rintro e w4 ⟨rfl, hb⟩; have HV5 := Lib.hid (HV4.out.up hb); clear hb; clear c0 c1 c2 c3 c4; obtain ⟨c0, c1, c2, c3, c4⟩ := box5 HV5.out.i0)
    | (go_at_call 11; (with_reducible refine (CX.out _).mono ?_); rintro e w3 ⟨rfl, hb⟩; have HV4 := Lib.hid (HV3.out.up hb); clear hb; clear c0 c1 c2 c3 c4; obtain ⟨c0, c1, c2, c3, c4⟩ := box5 HV4.out.i0)
    | (go_at_call 10; (with_reducible refine (FD.out _ (HQ.out.up HV1.out.below)).mono ?_); rintro e w2 ⟨p, F, rfl, hv⟩; have HV2 := Lib.hid (HV1.out.join hv); simp only [List.cons_append, List.nil_append] at HV2; clear hv; have HV3 := Lib.hid (HV2.out.push (boxT w2.heap.size 24 #[.int .i64 c.bt, .int .i64 c.rw, .int .i64 c.wd, .int .i64 c.md, .int .u64 c.sd]) (Lw.below_alloc (Below.refl _ _) _) (heap_alloc_new w2 _) (fun k hk => Nat.le_of_eq hk.symm)); obtain ⟨c0, c1, c2, c3, c4⟩ := box5 HV3.out.i0; clear x0 x1 x2 x3 x4 x5)
    | (go_at_call 9; (with_reducible refine (shown_any _).mono ?_); rintro e w1 ⟨rfl, hb⟩; have HV1 := Lib.hid (HBX.out.up hb); clear hb; obtain ⟨x0, x1, x2, x3, x4, x5⟩ := box6 HV1.out.i0))
  obtain ⟨gc, hgc⟩ : ∃ g, w2.heap.size = g := ⟨_, rfl⟩
  rw [hgc] at HV5 ⊢
  obtain ⟨gw, hgw⟩ : ∃ g, w4.heap.size = g := ⟨_, rfl⟩
  have hmid := Grd.mid_made w4 K 2
  have hv6 := HV5.out.push (midT w4.heap.size (List.replicate K 0)) (Lw.below_alloc (Below.refl _ _) (.cells (madeCells #[.int .i64 0] K) 2)) hmid (fun k hk => Nat.le_of_eq hk.symm)
  obtain ⟨w6, hw6⟩ : ∃ w6, w6 = w4.alloc (.cells (madeCells #[.int .i64 0] K) 2) := ⟨_, rfl⟩
  rw [← hw6] at hv6 ⊢
  rw [hgw] at hv6 ⊢
  rw [← HZS.out] at hv6
  have HV6 := Lib.hid hv6
  clear hmid hv6 hw6 hgw hgc HV1 HV2 HV3 HV4 HV5 HBX FD CKN hmk hw1 hw2 hbn hku hku3 a1 dd1 HZS
  clear c0 c1 c2 c3 c4
  go_wp2
  go_loopw [13] (fun iv wr => ∃ (i : Nat), i ≤ n0 ∧ i ≤ 60 ∧ iv = .int .i64 i ∧ Have w wr [midT gw (sums K (un.take i)), boxT gc 24 #[.int .i64 c.bt, .int .i64 c.rw, .int .i64 c.wd, .int .i64 c.md, .int .u64 c.sd], stT p F c Z, boxT w.heap.size 27 #[.int .i64 x.bt, .int .i64 x.rw, .int .i64 x.wd, .int .i64 x.md, .int .u64 x.sd, .slice A n0 k0]]) (fun iv _ => n0 - (intOf iv).toNat)
  case atStart => exact ⟨0, Nat.zero_le _, Nat.zero_le _, rfl, HV6.out⟩
  case round =>
    obtain ⟨i, hi9, hi6, rfl, hv⟩ := hrel
    have HVr := Lib.hid hv
    have HBr := Lib.hid hv.below
    clear hv
    obtain ⟨gad, hgad⟩ : ∃ gad : Addr, (⟨gw, 0, none⟩ : Addr) = gad := ⟨_, rfl⟩
    rw [hgad]
    have HGAD := Lib.hid hgad
    clear hgad
    obtain ⟨e1, e2, e3, e4, e5⟩ := box5 HVr.out.i1
    obtain ⟨x0, x1, x2, x3, x4, x5⟩ := box6 HVr.out.i3
    by_cases hlt : i < n0 ∧ i < 60
    · obtain ⟨hi1x, hi2x⟩ := hlt
      obtain ⟨q, hq1⟩ : ∃ q, qs[i]? = some q := ⟨_, List.getElem?_eq_getElem (by rw [HL.out]; exact hi1x)⟩
      have hug := HUG.out i q hi2x hq1
      have hcq := HCU.out q
      obtain ⟨a, g, o, rfl, hadd, d1w, d2w, kb, db⟩ := HQ.out.at hq1
      obtain ⟨qk, qd⟩ := q
      simp only at d1w d2w kb db
      have d1 := cell_up d1w HBr.out
      have d2 := cell_up d2w HBr.out
      have CC := Lib.hid (fun w => CCU.out w qk qd kb.1 kb.2 db.1 db.2)
      obtain ⟨U, hU⟩ : ∃ U, (cutU c 0 (qk, qd)).1 = U := ⟨_, rfl⟩
      obtain ⟨D2, hD2⟩ : ∃ D2, (cutU c 0 (qk, qd)).2 = D2 := ⟨_, rfl⟩
      have hug2 : us[i]? = some (U, D2) := by rw [hug, ← hU, ← hD2]
      rw [hU, hD2] at CC hcq
      have hvb := HUK.out U hcq.1 hcq.2.1
      have hsr := HSR.out U
      have hun2 := upN_get (n := n) hug2
      rw [HUN.out] at hun2
      obtain ⟨V, hV⟩ : ∃ V, upK U n = V := ⟨_, rfl⟩
      rw [hV] at hvb hsr hun2
      have hsr2 : U / 2 ^ n = V := by rw [← hsr, Nat.min_eq_left HN64.out]
      obtain ⟨vn, rfl⟩ : ∃ vn : Nat, V = vn := ⟨V.toNat, (Int.toNat_of_nonneg hvb.1).symm⟩
      obtain ⟨-, -, hset, hs1, hs2⟩ := HNX.out i vn D2 hun2
      simp only [Int.toNat_natCast] at hset hs1 hs2
      have hvk : vn < K := Int.ofNat_lt.1 hvb.2
      obtain ⟨S0, hS0⟩ : ∃ S0, sums K (un.take i) = S0 := ⟨_, rfl⟩
      have hx9 : S0[vn]? = some (num S0 vn) := by
        unfold num
        rw [Int.toNat_natCast]
        have hl9 : vn < S0.length := by rw [← hS0, sums_len]; exact hvk
        rw [List.getElem?_eq_getElem hl9]
        rfl
      rw [hS0] at hset hs1 hs2 HVr
      have HSET := Lib.hid hset
      obtain ⟨x9, hx99⟩ : ∃ x9, num S0 vn = x9 := ⟨_, rfl⟩
      rw [hx99] at hx9 hs1 hs2 HSET
      obtain ⟨S9, hS9⟩ : ∃ S9, x9 + D2 = S9 := ⟨_, rfl⟩
      have a5 : IntKind.i64.wrap (x9 + D2) = S9 := by rw [hS9]; rw [hS9] at hs1 hs2; exact IntWalk.i64_in _ ⟨hs1, hs2⟩
      have a6 : wrap64 (x9 + D2) = S9 := by rw [hS9]; rw [hS9] at hs1 hs2; exact IntWalk.wrap64_in _ ⟨hs1, hs2⟩
      rw [hS9] at HSET
      have HX9 := Lib.hid hx9
      have q0 : decide ((K : Int) ≤ (vn : Int)) = false := decide_eq_false (Int.not_le.2 (Int.ofNat_lt.2 hvk))
      have q1 : ¬ (K : Int) ≤ (vn : Int) := Int.not_le.2 (Int.ofNat_lt.2 hvk)
      have q2 : (vn : Int) < (K : Int) := Int.ofNat_lt.2 hvk
      have q3 : (0 : Int) ≤ (vn : Int) := Int.natCast_nonneg vn
      have q4 : vn < K := hvk
      clear hq1 hug hug2 hU hD2 hV hcq hvb hun2 hset hs1 hs2 hS0 hx9 hx99 hS9 d1w d2w kb db
      go_upto_region 16 with fail
      go_region_held3 (fun w' => w'.cell? ⟨gc, 0, none⟩ = some (.int .i64 c.bt) ∧ w'.cell? ⟨gc, 1, none⟩ = some (.int .i64 c.rw) ∧ w'.cell? ⟨gc, 2, none⟩ = some (.int .i64 c.wd) ∧ w'.cell? ⟨gc, 3, none⟩ = some (.int .i64 c.md) ∧ w'.cell? ⟨gc, 4, none⟩ = some (.int .u64 c.sd) ∧ w'.cell? ⟨w.heap.size, 5, none⟩ = some (.slice (some a) n0 k0) ∧ w'.cell? ⟨g, o, none⟩ = some (.int .u64 qk) ∧ w'.cell? ⟨g, o + 1, none⟩ = some (.int .i64 qd)) (first | (refine ⟨?_, ?_, ?_, ?_, ?_, ?_, ?_, ?_⟩ <;> (first | (with_reducible assumption) | (with_reducible refine cell_up e1 ?_) | (with_reducible refine cell_up e2 ?_) | (with_reducible refine cell_up e3 ?_) | (with_reducible refine cell_up e4 ?_) | (with_reducible refine cell_up e5 ?_) | (with_reducible refine cell_up x5 ?_) | (with_reducible refine cell_up d1 ?_) | (with_reducible refine cell_up d2 ?_)) <;> (repeat' (first | (with_reducible exact Below.refl _ _) | (with_reducible assumption) | (with_reducible refine below_over ?_ _ _) | (with_reducible refine Lw.below_alloc ?_ _) | (with_reducible refine Below.drew ?_) | (with_reducible refine below_drewN ?_ _) | (with_reducible refine Below.setCell ?_ ?_ _) | go_size)))) (first | (go_at_call 13; (with_reducible refine (CC.out _).mono ?_); rintro e w' ⟨rfl, hb⟩; obtain ⟨bs, dd, rfl⟩ := below_grow hb; clear hb))
      all_goals go_upto_region 21 with (go_at_call 11; (with_reducible refine (CX.out _).mono ?_); rintro e w7 ⟨rfl, hb⟩; have UP := (fun (b : Addr) (v : Value) h => cell_up (a := b) (v := v) h hb); (first | (obtain ⟨ub, hub9⟩ : ∃ ub, wr.heap.size + bs.size = ub := ⟨_, rfl⟩; have u1 := UP ⟨wr.heap.size + bs.size, 1, none⟩ (.int .i64 D2) (by simp [go_sem]; done); rw [hub9] at u1 ⊢) | (obtain ⟨ub, hub9⟩ : ∃ ub, wr.heap.size = ub := ⟨_, rfl⟩; have u1 := UP ⟨wr.heap.size, 1, none⟩ (.int .i64 D2) (by simp [go_sem]; done); rw [hub9] at u1 ⊢)); clear hub9 UP; have HB7 := Lib.hid (below_call (w1 := w7) (show Below wr.heap.size wr _ by repeat' (first | (with_reducible exact Below.refl _ _) | (with_reducible assumption) | (with_reducible refine below_over ?_ _ _) | (with_reducible refine Lw.below_alloc ?_ _) | (with_reducible refine Below.drew ?_) | (with_reducible refine below_drewN ?_ _) | (with_reducible refine Below.setCell ?_ ?_ _) | go_size)) hb (Nat.le_refl _)); clear hb)
      · have HV7 := Lib.hid (HVr.out.up HB7.out)
        have hcl := (midI HV7.out.i0).cell HX9.out
        have hfz := (midI HV7.out.i0).frozen (0 + vn)
        have hm6 := (midI HV7.out.i0).set vn S9
        have hk6 : Kept (fun k => k = gw) w7 (w7.setCell ⟨gw, 0 + vn, none⟩ (.int .i64 S9)) := (Kept.refl (fun k => k = gw) w7).set (.inl rfl) _ _
        rw [HSET.out] at hm6
        rw [← Ord.add_at, HGAD.out] at hcl hfz hm6 hk6
        have HM6 := Lib.hid hm6
        have HK6 := Lib.hid hk6
        clear hm6 hk6
        go_region
        go_wp2
        go_roundw
        case rel => exact ⟨i + 1, by omega, by omega, by go_num, (HV7.out.turn_0 (midT gw _) HM6.out HK6.out (fun k hk => .inl hk)).up (by repeat' (first | (with_reducible exact Below.refl _ _) | (with_reducible assumption) | (with_reducible refine below_over ?_ _ _) | (with_reducible refine Lw.below_alloc ?_ _) | (with_reducible refine Below.drew ?_) | (with_reducible refine below_drewN ?_ _) | (with_reducible refine Below.setCell ?_ ?_ _) | go_size))⟩
        case measure => simp [intOf]; omega
      · have HV7 := Lib.hid (HVr.out.up HB7.out)
        have hcl := (midI HV7.out.i0).cell HX9.out
        have hfz := (midI HV7.out.i0).frozen (0 + vn)
        have hm6 := (midI HV7.out.i0).set vn S9
        have hk6 : Kept (fun k => k = gw) w7 (w7.setCell ⟨gw, 0 + vn, none⟩ (.int .i64 S9)) := (Kept.refl (fun k => k = gw) w7).set (.inl rfl) _ _
        rw [HSET.out] at hm6
        rw [← Ord.add_at, HGAD.out] at hcl hfz hm6 hk6
        have HM6 := Lib.hid hm6
        have HK6 := Lib.hid hk6
        clear hm6 hk6
        go_region
        go_wp2
        go_roundw
        case rel => exact ⟨i + 1, by omega, by omega, by go_num, (HV7.out.turn_0 (midT gw _) HM6.out HK6.out (fun k hk => .inl hk)).up (by repeat' (first | (with_reducible exact Below.refl _ _) | (with_reducible assumption) | (with_reducible refine below_over ?_ _ _) | (with_reducible refine Lw.below_alloc ?_ _) | (with_reducible refine Below.drew ?_) | (with_reducible refine below_drewN ?_ _) | (with_reducible refine Below.setCell ?_ ?_ _) | go_size))⟩
        case measure => simp [intOf]; omega
    · have hta : un.take i = un := List.take_of_length_le (by rw [HUL.out]; omega)
      have hv9 := HVr.out
      rw [hta] at hv9
      rw [← HGAD.out]
      have HVz := Lib.hid hv9
      have hdl : decide (sums K un = sums K un) = true := decide_eq_true rfl
      clear hv9 hta x0 x1 x2 x3 x4 e1 e2 e3 e4 e5 HVr
      have hcases : (i : Int) < n0 ∧ ¬ (i : Int) < 60 ∨ ¬ (i : Int) < n0 := by omega
      rcases hcases with ⟨hc1, hc2⟩ | hc1
      all_goals clear hlt
      all_goals go_wp2_with (first
        | (go_at_call 15; (with_reducible refine (rsame_any _ _ _ _ _ _ (sums K un) (sums K un) _ (rdI HVy.out.i0) (midI HVy.out.i1).rd (sums_len K un) (sums_len K un) (kle HK8.out) (kle HK8.out)).mono ?_); rintro e we ⟨rfl, hb⟩; have HVx := Lib.hid (HVy.out.up hb); clear hb)
        | (go_at_call 16; (with_reducible refine (CR.out p F _ (stI HVz.out.i2)).mono ?_); rintro e wd ⟨Ad, cd, rfl, h1, h2, hb⟩; have HVy := Lib.hid (HVz.out.push (rdT Ad (sums K un)) hb h1 h2); clear h1 h2 hb))
      all_goals go_ret
      all_goals exact ⟨ret_bs (by first | rfl | (simp [*]; done)), HVx.out.below⟩
set_option maxRecDepth 100000 in
set_option maxHeartbeats 40000000 in
theorem sums_s_true (x : Cfg) (A : Option Addr) (n0 k0 : Nat) (qs : Ups) (lv : Int) (w : World) (hx : x.Ok) (hq : UpdV w A n0 k0 qs) (c : Cfg) (hC : { anyC x 10 9 with md := 3 } = c) (X : Int) (n : Nat) (a1 : bits .and .i64 lv 65535 = X) (b1 : 0 ≤ X) (dd1 : Int.tmod X (c.bt + 1) = (n : Int)) (ff1 : (n : Int) < c.bt + 1) (hxe : exactB c n = false) :
    Calls Try.prog 3 #[.agg #[.int .i64 x.bt, .int .i64 x.rw, .int .i64 x.wd, .int .i64 x.md, .int .u64 x.sd, .slice A n0 k0], .int .i64 lv, .bool true] w fun e w' => e = .returned (.bool true) ∧ Below w.heap.size w w' := by
  have hr0 := any_right x 10 9 (by omega) (by omega) (by omega) (by omega)
  have hco0 := any_ok x hx 10 9 (by omega) (by omega) (by omega) (by omega)
  have hr : IsRight c := by rw [← hC]; exact ⟨hr0.1, hr0.2.1, hr0.2.2.1, hr0.2.2.2.1, hr0.2.2.2.2.1, hr0.2.2.2.2.2.1, (by show (1 : Int) ≤ 3; omega), (by show (3 : Int) ≤ 3; omega)⟩
  have hco : c.Ok := by rw [← hC]; exact ⟨hco0.b0, hco0.b1, hco0.r0, hco0.r1, hco0.w0, hco0.w1, by show -9223372036854775808 ≤ (3 : Int); omega, by show (3 : Int) ≤ 9223372036854775807; omega, hco0.s0, hco0.s1⟩
  have hbt := hr.1
  have hb5 := hr.2.1
  have hkeys : 1 ≤ keys c 0 := keys_pos.2 ⟨hr, by omega, by omega⟩
  have FD := Lib.hid (fun w hq => fed_m x A n0 k0 qs 3 (by omega) (by omega) 0 60 0 60 c w hx hq rfl rfl (by omega) (by omega) hC)
  have hin := upsR_in hkeys qs 0 60
  have hln := upsR_ln c 0 qs
  rw [hq.len] at hln
  have HUG := Lib.hid (fun i q (hi : i < 60) (h : qs[i]? = some q) => upsR_get (c := c) (l := 0) hi h)
  have hcu := fun q => cutU_ok hkeys q
  have HCU := Lib.hid hcu
  have CCU := Lib.hid (fun w k d h0 h1 h2 h3 => rcut15_any c k d w hco h0 h1 h2 h3 hkeys)
  have HUK := Lib.hid (fun U (h0 : 0 ≤ U) (h1 : U < keys c 0) => upK_keys hr (k := U) (n := n) h0 h1 (by omega))
  have HSR := Lib.hid (fun U => shr_at (U := U) (n := n) (by omega))
  have hkn0 := keys_bd c 0
  have HK0 := Lib.hid hkn0
  have CX := Lib.hid (fun w => exact_any c n w hco (by omega) (by omega))
  rw [hxe] at CX
  obtain ⟨us, hus⟩ : ∃ us, upsR c 0 qs 0 60 = us := ⟨_, rfl⟩
  rw [hus] at FD hin hln HUG
  have hlv := lv_size hr hin (n := n) (by omega)
  have hla := lv_at hr us (n := n) (by omega)
  have hst : (stOf c us n).fl = (cells c n (upN us n)).flatten := by
    unfold stOf
    rw [if_neg (by rw [hxe]; simp)]
    rfl
  rw [hst] at hla
  have hmd : c.md = 3 := by rw [← hC]
  have hne2 : c.md ≠ 2 := by omega
  have hiN := upN_in hr hin (n := n) (by omega)
  have hulN : (upN us n).length ≤ 60 := by rw [upN_len, hln]; exact Nat.min_le_left _ _
  obtain ⟨un, hun⟩ : ∃ un, upN us n = un := ⟨_, rfl⟩
  rw [hun] at hla hiN hulN
  have HUN := Lib.hid hun
  have HUL : Hid (un.length = min 60 n0) := Lib.hid (by rw [← hun, upN_len, hln])
  obtain ⟨m, hm⟩ : ∃ m, rws c = m := ⟨_, rfl⟩
  obtain ⟨wn, hwn⟩ : ∃ wn, wds c = wn := ⟨_, rfl⟩
  have hrb := rws_bd hr
  have hwb := wds_bd hr
  rw [hm] at hrb
  rw [hwn] at hwb
  have HRW : Hid (c.rw = (m : Int)) := Lib.hid hrb.2.2.symm
  have HWD : Hid (c.wd = (wn : Int)) := Lib.hid hwb.2.2.symm
  have hm8 : 1 ≤ m ∧ m ≤ 8 := ⟨hrb.1, hrb.2.1⟩
  have hn1 : 1 ≤ wn ∧ wn ≤ 128 := ⟨hwb.1, hwb.2.1⟩
  have HS := Lib.hid (fun j U D r v hu hrm hv => sum_step (c := c) (l := n) (us := un) (j := j) (U := U) (D := D) hr hne2 hiN hulN hu (r := r) (v := v) hrm hv)
  have HE := Lib.hid (fun j U D hu => sum_end (c := c) (l := n) (us := un) (j := j) (U := U) (D := D) hr hne2 hiN hulN hu)
  have CB := Lib.hid (fun U w h0 h1 h2 => columns_w c n U m w hco (by omega) (by omega) h0 h1 h2 hm)
  have HCO := Lib.hid (fun U (h2 : U < keys c n) r (hrm : r < m) => cols_w (c := c) (l := n) (k := U) hr h2 (r := r) (by rw [hm]; exact hrm))
  have hdl := cells_dims2 hr hiN hulN hne2
  have HZ0 : Hid ((cells c n (un.take 0)).flatten = List.replicate (m * wn) 0) := Lib.hid (by rw [List.take_zero, cells_nil, hm, hwn]; exact zeros_flat2 _ _)
  rw [hm, hwn] at HS hdl
  rw [hm] at HE
  obtain ⟨Q, hQ⟩ : ∃ Q, m * wn = Q := ⟨_, rfl⟩
  have hQb : Q ≤ 1024 ∧ 1 ≤ Q := by rw [← hQ]; exact ⟨Nat.mul_le_mul hm8.2 hn1.2, Nat.mul_pos (by omega) (by omega)⟩
  have HPL : Hid (∀ r v, r < m → v < wn → r * wn + v < Q) := Lib.hid (fun r v h1 h2 => by
    have h3 : (r + 1) * wn ≤ m * wn := Nat.mul_le_mul_right _ h1
    rw [Nat.succ_mul] at h3
    omega)
  have hQi : (m : Int) * (wn : Int) = (Q : Int) := by rw [← hQ]; simp
  have hfl := (flat_dims hdl).trans hQ
  have FLE := Lib.hid hfl
  rw [hQ] at HZ0
  have q1 : IntKind.i64.wrap (c.rw * c.wd) = (Q : Int) := by rw [HRW.out, HWD.out, hQi]; exact kw1 hQb.1
  have q2 : wrap64 (c.rw * c.wd) = (Q : Int) := by rw [HRW.out, HWD.out, hQi]; exact kw3 hQb.1
  have hmk := mk_row Q hQb.1
  obtain ⟨Z, hZ⟩ : ∃ Z, stsOf c us = Z := ⟨_, rfl⟩
  rw [hZ] at FD hla hlv
  have CR := Lib.hid (fun p F w hs => cs_row p F c Z n ((cells c n un).flatten) w hs (by omega) hla (by rw [hfl]; exact hQb.2) (by rw [hfl]; exact hQb.1))
  rw [hfl] at CR
  have HQ10 := Lib.hid hQb.1
  have hku : IntKind.i64.wrap (Q : Int) = (Q : Int) := kw1 hQb.1
  have hku3 : wrap64 (Q : Int) = (Q : Int) := kw3 hQb.1
  have hnu : IntKind.u64.wrap (n : Int) = n := by rw [IntKind.wrap_u64]; omega
  have HN64 : Hid (n ≤ 64) := Lib.hid (by omega)
  have hkn := keys_bd c n
  have HKN := Lib.hid hkn
  have HQ := Lib.hid hq
  have HL := Lib.hid hq.len
  have hnc := hq.nc
  have hcm := hq.cm
  unfold maxLen at hcm
  have hw1 : IntKind.i64.wrap (c.bt + 1) = c.bt + 1 := bw1 hbt hb5
  have hw2 : wrap64 (c.bt + 1) = c.bt + 1 := bw2 hbt hb5
  have hbn : ¬ c.bt + 1 = 0 := bw3 hbt
  have HBX : Hid (Have w (w.alloc (.cells #[.int .i64 x.bt, .int .i64 x.rw, .int .i64 x.wd, .int .i64 x.md, .int .u64 x.sd, .slice A n0 k0] 27)) [boxT w.heap.size 27 #[.int .i64 x.bt, .int .i64 x.rw, .int .i64 x.wd, .int .i64 x.md, .int .u64 x.sd, .slice A n0 k0]]) := Lib.hid (box_new w _ _)
  clear hr0 hco0 hr hco hbt hb5 hkeys hin hln hcu hkn0 hkn hus hlv hla hst hun hulN hiN hne2 hmd hm hwn hrb hwb hdl hQ hQi hfl hZ hx hq hC hxe b1 ff1
  go_enter Try.func3, Try.ntmps3
  go_upto_region 13 with (first
    | (go_at_call 11; (with_reducible refine (CX.out _).mono ?_); rintro e w4 ⟨rfl, hb⟩; have HV5 := Lib.hid (HV3.out.up hb); clear hb; clear c0 c1 c2 c3 c4; obtain ⟨c0, c1, c2, c3, c4⟩ := box5 HV5.out.i0)
    | (go_at_call 10; (with_reducible refine (FD.out _ (HQ.out.up HV1.out.below)).mono ?_); rintro e w2 ⟨p, F, rfl, hv⟩; have HV2 := Lib.hid (HV1.out.join hv); simp only [List.cons_append, List.nil_append] at HV2; clear hv; have HV3 := Lib.hid (HV2.out.push (boxT w2.heap.size 24 #[.int .i64 c.bt, .int .i64 c.rw, .int .i64 c.wd, .int .i64 c.md, .int .u64 c.sd]) (Lw.below_alloc (Below.refl _ _) _) (heap_alloc_new w2 _) (fun k hk => Nat.le_of_eq hk.symm)); obtain ⟨c0, c1, c2, c3, c4⟩ := box5 HV3.out.i0; clear x0 x1 x2 x3 x4 x5)
    | (go_at_call 9; (with_reducible refine (shown_any _).mono ?_); rintro e w1 ⟨rfl, hb⟩; have HV1 := Lib.hid (HBX.out.up hb); clear hb; obtain ⟨x0, x1, x2, x3, x4, x5⟩ := box6 HV1.out.i0))
  obtain ⟨gc, hgc⟩ : ∃ g, w2.heap.size = g := ⟨_, rfl⟩
  rw [hgc] at HV5 ⊢
  obtain ⟨gw, hgw⟩ : ∃ g, w4.heap.size = g := ⟨_, rfl⟩
  have hmid := Grd.mid_made w4 Q 2
  have hv6 := HV5.out.push (midT w4.heap.size (List.replicate Q 0)) (Lw.below_alloc (Below.refl _ _) (.cells (madeCells #[.int .i64 0] Q) 2)) hmid (fun k hk => Nat.le_of_eq hk.symm)
  obtain ⟨w6, hw6⟩ : ∃ w6, w6 = w4.alloc (.cells (madeCells #[.int .i64 0] Q) 2) := ⟨_, rfl⟩
  rw [← hw6] at hv6 ⊢
  rw [hgw] at hv6 ⊢
  rw [← HZ0.out] at hv6
  have HV6 := Lib.hid hv6
  clear hmid hv6 hw6 hgw hgc HV1 HV2 HV3 HV5 HBX FD hmk hw1 hw2 hbn hku hku3 a1 dd1 HZ0 q1 q2
  clear c0 c1 c2 c3 c4
  go_wp2
  go_loopw [13] (fun iv wr => ∃ (i : Nat), i ≤ n0 ∧ i ≤ 60 ∧ iv = .int .i64 i ∧ Have w wr [midT gw (cells c n (un.take i)).flatten, boxT gc 24 #[.int .i64 c.bt, .int .i64 c.rw, .int .i64 c.wd, .int .i64 c.md, .int .u64 c.sd], stT p F c Z, boxT w.heap.size 27 #[.int .i64 x.bt, .int .i64 x.rw, .int .i64 x.wd, .int .i64 x.md, .int .u64 x.sd, .slice A n0 k0]]) (fun iv _ => n0 - (intOf iv).toNat)
  case atStart => exact ⟨0, Nat.zero_le _, Nat.zero_le _, rfl, HV6.out⟩
  case round =>
    obtain ⟨i, hi9, hi6, rfl, hv⟩ := hrel
    have HVr := Lib.hid hv
    have HBr := Lib.hid hv.below
    clear hv
    obtain ⟨e1, e2, e3, e4, e5⟩ := box5 HVr.out.i1
    obtain ⟨x0, x1, x2, x3, x4, x5⟩ := box6 HVr.out.i3
    by_cases hlt : i < n0 ∧ i < 60
    · obtain ⟨hi1x, hi2x⟩ := hlt
      obtain ⟨q, hq1⟩ : ∃ q, qs[i]? = some q := ⟨_, List.getElem?_eq_getElem (by rw [HL.out]; exact hi1x)⟩
      have hug := HUG.out i q hi2x hq1
      have hcq := HCU.out q
      obtain ⟨a, g, o, rfl, hadd, d1w, d2w, kb, db⟩ := HQ.out.at hq1
      obtain ⟨qk, qd⟩ := q
      simp only at d1w d2w kb db
      have d1 := cell_up d1w HBr.out
      have d2 := cell_up d2w HBr.out
      have CC := Lib.hid (fun w => CCU.out w qk qd kb.1 kb.2 db.1 db.2)
      obtain ⟨U, hU⟩ : ∃ U, (cutU c 0 (qk, qd)).1 = U := ⟨_, rfl⟩
      obtain ⟨D2, hD2⟩ : ∃ D2, (cutU c 0 (qk, qd)).2 = D2 := ⟨_, rfl⟩
      have hug2 : us[i]? = some (U, D2) := by rw [hug, ← hU, ← hD2]
      rw [hU, hD2] at CC hcq
      have hvb := HUK.out U hcq.1 hcq.2.1
      have hsr := HSR.out U
      have hun2 := upN_get (n := n) hug2
      rw [HUN.out] at hun2
      obtain ⟨V, hV⟩ : ∃ V, upK U n = V := ⟨_, rfl⟩
      rw [hV] at hvb hsr hun2
      have hsr2 : U / 2 ^ n = V := by rw [← hsr, Nat.min_eq_left HN64.out]
      have CU := Lib.hid (fun w => CB.out V w hvb.1 (by have := HKN.out; omega) hvb.2)
      have HCG := Lib.hid (fun r hrm => HCO.out V hvb.2 r hrm)
      rw [HWD.out] at HCG
      have HST := Lib.hid (fun r v hrm hv => HS.out i V D2 r v hun2 hrm hv)
      have HSE := Lib.hid (HE.out i V D2 hun2)
      have hdb : -1099511627776 ≤ D2 ∧ D2 ≤ 1099511627776 := ⟨hcq.2.2.1, hcq.2.2.2.1⟩
      clear hq1 hug hug2 hU hD2 hV hcq hvb hun2 d1w d2w kb db x0 x1 x2 x3 x4
      go_upto_region 16 with fail
      go_region_held3 (fun w' => w'.cell? ⟨gc, 0, none⟩ = some (.int .i64 c.bt) ∧ w'.cell? ⟨gc, 1, none⟩ = some (.int .i64 c.rw) ∧ w'.cell? ⟨gc, 2, none⟩ = some (.int .i64 c.wd) ∧ w'.cell? ⟨gc, 3, none⟩ = some (.int .i64 c.md) ∧ w'.cell? ⟨gc, 4, none⟩ = some (.int .u64 c.sd) ∧ w'.cell? ⟨w.heap.size, 5, none⟩ = some (.slice (some a) n0 k0) ∧ w'.cell? ⟨g, o, none⟩ = some (.int .u64 qk) ∧ w'.cell? ⟨g, o + 1, none⟩ = some (.int .i64 qd)) (first | (refine ⟨?_, ?_, ?_, ?_, ?_, ?_, ?_, ?_⟩ <;> (first | (with_reducible assumption) | (with_reducible refine cell_up e1 ?_) | (with_reducible refine cell_up e2 ?_) | (with_reducible refine cell_up e3 ?_) | (with_reducible refine cell_up e4 ?_) | (with_reducible refine cell_up e5 ?_) | (with_reducible refine cell_up x5 ?_) | (with_reducible refine cell_up d1 ?_) | (with_reducible refine cell_up d2 ?_)) <;> (repeat' (first | (with_reducible exact Below.refl _ _) | (with_reducible assumption) | (with_reducible refine below_over ?_ _ _) | (with_reducible refine Lw.below_alloc ?_ _) | (with_reducible refine Below.drew ?_) | (with_reducible refine below_drewN ?_ _) | (with_reducible refine Below.setCell ?_ ?_ _) | go_size)))) (first | (go_at_call 13; (with_reducible refine (CC.out _).mono ?_); rintro e w' ⟨rfl, hb⟩; obtain ⟨bs, dd, rfl⟩ := below_grow hb; clear hb))
      all_goals go_wp2_with (first
        | (go_at_call 14; (with_reducible refine (CU.out _).mono ?_); rintro e w8 ⟨A8, cap8, rfl, rd8, hc8, hb⟩; have RD8 := Lib.hid rd8; have HA8 := Lib.hid hc8; have u1 := cell_up u1 hb; have HV8 := Lib.hid (HV7.out.up hb); have HGU : Hid (¬ ub = gw) := Lib.hid (fun h => by have h1 := (midI HVr.out.i0).lt; have := HU9.out; omega); have RDG : Hid (¬ A8.block = gw) := Lib.hid (fun h => by have h1 := (midI HV7.out.i0).lt; have := HA8.out; omega); clear hb rd8 hc8)
        | (go_at_call 11; (with_reducible refine (CX.out _).mono ?_); rintro e w7 ⟨rfl, hb⟩; have UP := (fun (b : Addr) (v : Value) h => cell_up (a := b) (v := v) h hb); (first | (obtain ⟨ub, hub9⟩ : ∃ ub, wr.heap.size + bs.size = ub := ⟨_, rfl⟩; have u1 := UP ⟨wr.heap.size + bs.size, 1, none⟩ (.int .i64 D2) (by simp [go_sem]; done); rw [hub9] at u1 ⊢) | (obtain ⟨ub, hub9⟩ : ∃ ub, wr.heap.size = ub := ⟨_, rfl⟩; have u1 := UP ⟨wr.heap.size, 1, none⟩ (.int .i64 D2) (by simp [go_sem]; done); rw [hub9] at u1 ⊢)); have HU9 : Hid (wr.heap.size ≤ ub) := Lib.hid (by omega); clear hub9 UP; have HB7 := Lib.hid (below_call (w1 := w7) (show Below wr.heap.size wr _ by repeat' (first | (with_reducible exact Below.refl _ _) | (with_reducible assumption) | (with_reducible refine below_over ?_ _ _) | (with_reducible refine Lw.below_alloc ?_ _) | (with_reducible refine Below.drew ?_) | (with_reducible refine below_drewN ?_ _) | (with_reducible refine Below.setCell ?_ ?_ _) | go_size)) hb (Nat.le_refl _)); clear hb; have HV7 := Lib.hid (HVr.out.up HB7.out); clear e1 e2 e3 e4 e5; obtain ⟨e1, e2, e3, e4, e5⟩ := box5 HV7.out.i1))
      · clear e1 e2 e3 e4 e5 x5 d1 d2
        obtain ⟨wo, rfl⟩ : ∃ wo, wo = wr := ⟨_, rfl⟩
        go_loopw [17] (fun rv wr => ∃ (r : Nat), r ≤ m ∧ rv = .int .i64 r ∧ Have w wr [midT gw (sumW c n un i V D2 r), boxT gc 24 #[.int .i64 c.bt, .int .i64 c.rw, .int .i64 c.wd, .int .i64 c.md, .int .u64 c.sd], stT p F c Z, boxT w.heap.size 27 #[.int .i64 x.bt, .int .i64 x.rw, .int .i64 x.wd, .int .i64 x.md, .int .u64 x.sd, .slice (some a) n0 k0]] ∧ Kept (fun k => k = gw) w8 wr) (fun rv _ => m - (intOf rv).toNat)
        case atStart => exact ⟨0, Nat.zero_le _, rfl, by rw [sum_zero]; exact HV8.out, Kept.refl _ _⟩
        case round =>
          obtain ⟨r, hr, rfl, hv, hk⟩ := hrel
          have HVi := Lib.hid hv
          have HKi := Lib.hid hk
          clear hv hk
          obtain ⟨e1, e2, e3, e4, e5⟩ := box5 HVi.out.i1
          have u9 := HKi.out.cell u1 HGU.out
          have hrw := HRW.out
          by_cases hrm : r < m
          · obtain ⟨v, hvc, hvn⟩ := HCG.out r hrm
            obtain ⟨x9, hx9, hxb, hset⟩ := HST.out r v hrm hvc
            have hbl : (A8.add r).block = A8.block := by unfold Addr.add; split <;> rfl
            have c7 := HKi.out.cell (RD8.out.at hvc) (by rw [hbl]; exact RDG.out)
            clear hbl
            have hplt : r * wn + v < Q := HPL.out r v hrm (by omega)
            have hrn1 : (r : Int) * c.wd = ((r * wn : Nat) : Int) := by rw [HWD.out]; simp
            obtain ⟨P, hP⟩ : ∃ P, r * wn = P := ⟨_, rfl⟩
            rw [hP] at hrn1 hx9 hset hplt
            have hfz := (midI HVi.out.i0).frozen (0 + (P + v))
            have hcl := (midI HVi.out.i0).cell hx9
            obtain ⟨gad, hgad⟩ : ∃ gad : Addr, (⟨gw, 0, none⟩ : Addr) = gad := ⟨_, rfl⟩
            have hm6 := (midI HVi.out.i0).set (P + v) (x9 + D2)
            have hk6 : Kept (fun k => k = gw) wr (wr.setCell ⟨gw, 0 + (P + v), none⟩ (.int .i64 (x9 + D2))) := (Kept.refl (fun k => k = gw) wr).set (.inl rfl) _ _
            rw [hset] at hm6
            rw [← Ord.add_at, hgad] at hcl hfz hm6 hk6
            have HM6 := Lib.hid hm6
            have HK6 := Lib.hid hk6
            obtain ⟨AT, hAT⟩ : ∃ AT, P + v = AT := ⟨_, rfl⟩
            rw [hAT] at hcl hfz HM6 HK6 hplt
            have a1 : IntKind.i64.wrap ((r : Int) * c.wd) = (P : Int) := by rw [hrn1]; exact IntWalk.i64_in _ ⟨by omega, by omega⟩
            have a2 : wrap64 ((r : Int) * c.wd) = (P : Int) := by rw [hrn1]; exact IntWalk.wrap64_in _ ⟨by omega, by omega⟩
            have a3 : IntKind.i64.wrap ((P : Int) + (v : Int)) = (AT : Int) := by rw [IntWalk.i64_in _ ⟨by omega, by omega⟩]; omega
            have a4 : wrap64 ((P : Int) + (v : Int)) = (AT : Int) := by rw [IntWalk.wrap64_in _ ⟨by omega, by omega⟩]; omega
            obtain ⟨S, hS⟩ : ∃ S, x9 + D2 = S := ⟨_, rfl⟩
            have a5 : IntKind.i64.wrap (x9 + D2) = S := by rw [hS]; exact IntWalk.i64_in _ ⟨by omega, by omega⟩
            have a6 : wrap64 (x9 + D2) = S := by rw [hS]; exact IntWalk.wrap64_in _ ⟨by omega, by omega⟩
            rw [hS] at HM6 HK6
            have hr3 : (r : Int) < (m : Int) := by omega
            have hr4 : (0 : Int) ≤ (r : Int) := by omega
            have hat0 : (0 : Int) ≤ (AT : Int) := Int.natCast_nonneg AT
            have hat1 : (AT : Int) < (Q : Int) := Int.ofNat_lt.2 hplt
            have hat2 : ¬ (AT : Int) < 0 := Int.not_lt.2 hat0
            have hat3 : ¬ (Q : Int) ≤ (AT : Int) := Int.not_le.2 hat1
            have hat4 : decide ((AT : Int) < 0) = false := decide_eq_false hat2
            have hat5 : decide ((Q : Int) ≤ (AT : Int)) = false := decide_eq_false hat3
            rw [hrw] at e2
            rw [hgad]
            clear hvc hx9 hset hrn1 hP hm6 hk6 hAT hS hrw hxb hdb hcm hnc hplt hvn
            go_wp2
            go_quiet (fail)
            have hw9 := inc_wrap hrm hm8.2
            have hw8 := inc_wrap2 hrm hm8.2
            have HRM := Lib.hid hrm
            have HM8 := Lib.hid hm8
            clear hm8 hn1 hQb hr hrm hi9 hi6 hi1x hi2x a1 a2 a3 a4 hr3 hr4 hat0 hat1 u1
            go_wp2
            go_region
            go_wp2
            have hrm := HRM.out
            have hm9 := HM8.out
            go_roundw
            case rel => exact ⟨r + 1, by omega, by go_num, (HVi.out.turn_0 (midT gw _) HM6.out HK6.out (fun k hk => .inl hk)).up (by repeat' (first | (with_reducible exact Below.refl _ _) | (with_reducible assumption) | (with_reducible refine below_over ?_ _ _) | (with_reducible refine Lw.below_alloc ?_ _) | (with_reducible refine Below.drew ?_) | (with_reducible refine below_drewN ?_ _) | (with_reducible refine Below.setCell ?_ ?_ _) | go_size)), HKi.out.trans (HK6.out.drewN _) (fun q hq h => h)⟩
            case measure => simp [intOf]; omega
          · have e : r = m := by omega
            subst e
            have hv9 := HVi.out
            rw [HSE.out] at hv9
            have HV9 := Lib.hid hv9
            clear hv9
            rw [hrw] at e2
            clear hrw
            go_wp2
            go_roundw
            case rel => exact ⟨i + 1, by omega, by omega, by go_num, HV9.out⟩
            case measure => simp [intOf]; omega
      · clear e1 e2 e3 e4 e5 x5 d1 d2
        obtain ⟨wo, rfl⟩ : ∃ wo, wo = wr := ⟨_, rfl⟩
        go_loopw [17] (fun rv wr => ∃ (r : Nat), r ≤ m ∧ rv = .int .i64 r ∧ Have w wr [midT gw (sumW c n un i V D2 r), boxT gc 24 #[.int .i64 c.bt, .int .i64 c.rw, .int .i64 c.wd, .int .i64 c.md, .int .u64 c.sd], stT p F c Z, boxT w.heap.size 27 #[.int .i64 x.bt, .int .i64 x.rw, .int .i64 x.wd, .int .i64 x.md, .int .u64 x.sd, .slice (some a) n0 k0]] ∧ Kept (fun k => k = gw) w8 wr) (fun rv _ => m - (intOf rv).toNat)
        case atStart => exact ⟨0, Nat.zero_le _, rfl, by rw [sum_zero]; exact HV8.out, Kept.refl _ _⟩
        case round =>
          obtain ⟨r, hr, rfl, hv, hk⟩ := hrel
          have HVi := Lib.hid hv
          have HKi := Lib.hid hk
          clear hv hk
          obtain ⟨e1, e2, e3, e4, e5⟩ := box5 HVi.out.i1
          have u9 := HKi.out.cell u1 HGU.out
          have hrw := HRW.out
          by_cases hrm : r < m
          · obtain ⟨v, hvc, hvn⟩ := HCG.out r hrm
            obtain ⟨x9, hx9, hxb, hset⟩ := HST.out r v hrm hvc
            have hbl : (A8.add r).block = A8.block := by unfold Addr.add; split <;> rfl
            have c7 := HKi.out.cell (RD8.out.at hvc) (by rw [hbl]; exact RDG.out)
            clear hbl
            have hplt : r * wn + v < Q := HPL.out r v hrm (by omega)
            have hrn1 : (r : Int) * c.wd = ((r * wn : Nat) : Int) := by rw [HWD.out]; simp
            obtain ⟨P, hP⟩ : ∃ P, r * wn = P := ⟨_, rfl⟩
            rw [hP] at hrn1 hx9 hset hplt
            have hfz := (midI HVi.out.i0).frozen (0 + (P + v))
            have hcl := (midI HVi.out.i0).cell hx9
            obtain ⟨gad, hgad⟩ : ∃ gad : Addr, (⟨gw, 0, none⟩ : Addr) = gad := ⟨_, rfl⟩
            have hm6 := (midI HVi.out.i0).set (P + v) (x9 + D2)
            have hk6 : Kept (fun k => k = gw) wr (wr.setCell ⟨gw, 0 + (P + v), none⟩ (.int .i64 (x9 + D2))) := (Kept.refl (fun k => k = gw) wr).set (.inl rfl) _ _
            rw [hset] at hm6
            rw [← Ord.add_at, hgad] at hcl hfz hm6 hk6
            have HM6 := Lib.hid hm6
            have HK6 := Lib.hid hk6
            obtain ⟨AT, hAT⟩ : ∃ AT, P + v = AT := ⟨_, rfl⟩
            rw [hAT] at hcl hfz HM6 HK6 hplt
            have a1 : IntKind.i64.wrap ((r : Int) * c.wd) = (P : Int) := by rw [hrn1]; exact IntWalk.i64_in _ ⟨by omega, by omega⟩
            have a2 : wrap64 ((r : Int) * c.wd) = (P : Int) := by rw [hrn1]; exact IntWalk.wrap64_in _ ⟨by omega, by omega⟩
            have a3 : IntKind.i64.wrap ((P : Int) + (v : Int)) = (AT : Int) := by rw [IntWalk.i64_in _ ⟨by omega, by omega⟩]; omega
            have a4 : wrap64 ((P : Int) + (v : Int)) = (AT : Int) := by rw [IntWalk.wrap64_in _ ⟨by omega, by omega⟩]; omega
            obtain ⟨S, hS⟩ : ∃ S, x9 + D2 = S := ⟨_, rfl⟩
            have a5 : IntKind.i64.wrap (x9 + D2) = S := by rw [hS]; exact IntWalk.i64_in _ ⟨by omega, by omega⟩
            have a6 : wrap64 (x9 + D2) = S := by rw [hS]; exact IntWalk.wrap64_in _ ⟨by omega, by omega⟩
            rw [hS] at HM6 HK6
            have hr3 : (r : Int) < (m : Int) := by omega
            have hr4 : (0 : Int) ≤ (r : Int) := by omega
            have hat0 : (0 : Int) ≤ (AT : Int) := Int.natCast_nonneg AT
            have hat1 : (AT : Int) < (Q : Int) := Int.ofNat_lt.2 hplt
            have hat2 : ¬ (AT : Int) < 0 := Int.not_lt.2 hat0
            have hat3 : ¬ (Q : Int) ≤ (AT : Int) := Int.not_le.2 hat1
            have hat4 : decide ((AT : Int) < 0) = false := decide_eq_false hat2
            have hat5 : decide ((Q : Int) ≤ (AT : Int)) = false := decide_eq_false hat3
            rw [hrw] at e2
            rw [hgad]
            clear hvc hx9 hset hrn1 hP hm6 hk6 hAT hS hrw hxb hdb hcm hnc hplt hvn
            go_wp2
            go_quiet (fail)
            have hw9 := inc_wrap hrm hm8.2
            have hw8 := inc_wrap2 hrm hm8.2
            have HRM := Lib.hid hrm
            have HM8 := Lib.hid hm8
            clear hm8 hn1 hQb hr hrm hi9 hi6 hi1x hi2x a1 a2 a3 a4 hr3 hr4 hat0 hat1 u1
            go_wp2
            go_region
            go_wp2
            have hrm := HRM.out
            have hm9 := HM8.out
            go_roundw
            case rel => exact ⟨r + 1, by omega, by go_num, (HVi.out.turn_0 (midT gw _) HM6.out HK6.out (fun k hk => .inl hk)).up (by repeat' (first | (with_reducible exact Below.refl _ _) | (with_reducible assumption) | (with_reducible refine below_over ?_ _ _) | (with_reducible refine Lw.below_alloc ?_ _) | (with_reducible refine Below.drew ?_) | (with_reducible refine below_drewN ?_ _) | (with_reducible refine Below.setCell ?_ ?_ _) | go_size)), HKi.out.trans (HK6.out.drewN _) (fun q hq h => h)⟩
            case measure => simp [intOf]; omega
          · have e : r = m := by omega
            subst e
            have hv9 := HVi.out
            rw [HSE.out] at hv9
            have HV9 := Lib.hid hv9
            clear hv9
            rw [hrw] at e2
            clear hrw
            go_wp2
            go_roundw
            case rel => exact ⟨i + 1, by omega, by omega, by go_num, HV9.out⟩
            case measure => simp [intOf]; omega
    · have hta : un.take i = un := List.take_of_length_le (by rw [HUL.out]; omega)
      have hv9 := HVr.out
      rw [hta] at hv9
      have HVz := Lib.hid hv9
      have hdl : decide ((cells c n un).flatten = (cells c n un).flatten) = true := decide_eq_true rfl
      clear hv9 hta x0 x1 x2 x3 x4 e1 e2 e3 e4 e5 HVr
      have hcases : (i : Int) < n0 ∧ ¬ (i : Int) < 60 ∨ ¬ (i : Int) < n0 := by omega
      rcases hcases with ⟨hc1, hc2⟩ | hc1
      all_goals clear hlt
      all_goals go_wp2_with (first
        | (go_at_call 15; (with_reducible refine (rsame_any _ _ _ _ _ _ (cells c n un).flatten (cells c n un).flatten _ (rdI HVy.out.i0) (midI HVy.out.i1).rd FLE.out FLE.out (kle HQ10.out) (kle HQ10.out)).mono ?_); rintro e we ⟨rfl, hb⟩; have HVx := Lib.hid (HVy.out.up hb); clear hb)
        | (go_at_call 16; (with_reducible refine (CR.out p F _ (stI HVz.out.i2)).mono ?_); rintro e wd ⟨Ad, cd, rfl, h1, h2, hb⟩; have HVy := Lib.hid (HVz.out.push (rdT Ad (cells c n un).flatten) hb h1 h2); clear h1 h2 hb))
      all_goals go_ret
      all_goals exact ⟨ret_bs (by first | rfl | (simp [*]; done)), HVx.out.below⟩
theorem sums_law (x : Cfg) (A : Option Addr) (n0 k0 : Nat) (qs : Ups) (lv : Int) (b : Bool) (w : World) (hx : x.Ok) (hq : UpdV w A n0 k0 qs) :
    Calls Try.prog 3 #[.agg #[.int .i64 x.bt, .int .i64 x.rw, .int .i64 x.wd, .int .i64 x.md, .int .u64 x.sd, .slice A n0 k0], .int .i64 lv, .bool b] w fun e w' => e = .returned (.bool true) ∧ Below w.heap.size w w' := by
  obtain ⟨md, hmd⟩ : ∃ md : Int, md = (if b = true then 3 else 1) := ⟨_, rfl⟩
  obtain ⟨c, hC⟩ : ∃ c, { anyC x 10 9 with md := md } = c := ⟨_, rfl⟩
  have hr0 := any_right x 10 9 (by omega) (by omega) (by omega) (by omega)
  have hbt : 1 ≤ c.bt := by rw [← hC]; exact hr0.1
  have hb5 : c.bt ≤ 59 := by rw [← hC]; exact hr0.2.1
  obtain ⟨X, l, a1, b1, c1, dd1, ee1, ff1⟩ := level_of lv (c.bt + 1) (by omega) (by omega)
  obtain ⟨n, rfl⟩ : ∃ n : Nat, l = n := ⟨l.toNat, by omega⟩
  cases b with
  | false =>
    rw [if_neg (by simp)] at hmd
    subst hmd
    cases hxe : exactB c n with
    | true => exact sums_e_false x A n0 k0 qs lv w hx hq c hC X n a1 b1 dd1 ff1 hxe
    | false => exact sums_s_false x A n0 k0 qs lv w hx hq c hC X n a1 b1 dd1 ff1 hxe
  | true =>
    rw [if_pos rfl] at hmd
    subst hmd
    cases hxe : exactB c n with
    | true => exact sums_e_true x A n0 k0 qs lv w hx hq c hC X n a1 b1 dd1 ff1 hxe
    | false => exact sums_s_true x A n0 k0 qs lv w hx hq c hC X n a1 b1 dd1 ff1 hxe
namespace stackSums
open Go.ChangeShapes Go.WideShapes Go.ChangeAt Go.Joins
set_option maxRecDepth 100000 in
theorem lifted (os : Os) (started : os.Started) (H : Type) (enc : TypeId × Value → H) :
    ReturnsInHanded {} Try.checked os 3 .any (Rows.stackSumsSpec.pre6 enc Try.prog Try.f3 Rows.stackSumsRow.domain false) (Rows.stackSumsSpec.post enc Try.prog Try.f3 false true false false) := by
  refine Lw.lifted (C := Try.checked) (B := 4) (by kernel_rfl) os started (by kernel_rfl) Try.func3
    (ChangeSpec.witness6 (enc := enc) (C := Try.checked) false ⟨#[], #[.agg #[.int .i64 0, .int .i64 0, .int .i64 0, .int .i64 0, .int .u64 0, .slice none 0 0], .int .i64 0, .bool false], []⟩ 8 (by kernel_rfl) (by kernel_rfl) (by kernel_rfl) (by kernel_rfl)) rfl Try.underlying4 (by kernel_rfl) (by kernel_rfl) (by kernel_rfl) ?_ ?_
  · intro ds h
    rw [Try.params3] at h
    match ds, h with
    | [_, _, _], _ => rfl
  · intro W base args ds p hval hA
    rw [Try.params3] at hA hval
    obtain ⟨v0, vs0, d0, ds0, p0, q0, hargs, rfl, rfl, h0, r0⟩ := trodAll_cons hA
    obtain ⟨v1, vs1, d1, ds1, p1, q1, rfl, rfl, rfl, h1, r1⟩ := trodAll_cons r0
    obtain ⟨v2, vs2, d2, ds2, p2, q2, rfl, rfl, rfl, h2, r2⟩ := trodAll_cons r1
    obtain ⟨rfl, rfl, rfl⟩ := trodAll_nil r2
    obtain rfl : args = #[v0, v1, v2] := by cases args; simp_all
    obtain ⟨x0, A0, n0, k0, qs0, rfl, hx0, hq0⟩ := open_playW (hval 0 27 v0 rfl rfl) h0
    obtain ⟨a1, rfl, rfl, rfl, w1⟩ := open_int Try.underlying3 (hval 1 3 v1 rfl rfl) h1
    have b1 := Lw.wf_i64 w1
    obtain ⟨a2, rfl, rfl, rfl⟩ := open_bool Try.underlying4 (hval 2 4 v2 rfl rfl) h2
    exact sums_law x0 A0 n0 k0 qs0 a1 a2 W hx0 hq0
theorem over : Rows.stackSumsRow.holds Try.pinned (OpenSpec.ofChange Rows.stackSumsSpec) :=
  OpenClaim.holds_of_wide 3 Try.f3 rfl rfl rfl rfl rfl rfl rfl ⟨rfl, rfl, rfl, rfl, rfl⟩ rfl rfl rfl rfl rfl (by kernel_rfl) Try.func3 (by kernel_rfl)
    (of_decide_eq_true (by kernel_rfl)) (by unfold Func.isWrapper; first | (rw [if_pos (by decide +kernel)]; kernel_rfl) | (rw [if_neg (by decide +kernel)]; exact ⟨rfl, rfl⟩))
    (fun os started H enc _ => lifted os started H enc)
theorem proved : Rows.StackSumsSaid :=
  over
#print axioms proved
end stackSums
end Go.Proofs.Ytccabgeeglhagaa.Stk
