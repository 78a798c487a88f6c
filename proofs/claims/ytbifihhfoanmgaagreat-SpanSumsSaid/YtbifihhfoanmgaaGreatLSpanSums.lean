/- The statement SpanSums of layer 16 holds. Printed by wip/gen/spn11.py. -/
import Derived.Test.YtbifihhfoanmgaaGreatMe
import Derived.Test.YtbifihhfoanmgaaGreatMi
import Derived.Test.YtbifihhfoanmgaaGreatMl
import Derived.Test.YtbifihhfoanmgaaGreatMn
import Derived.Deep.LoopGhost
import Derived.Deep.RegionHeld3
import Derived.Deep.DeepCutAuto
import Derived.Deep.QuietTactic
import Derived.BigQuiet
namespace Go.Proofs.YtbifihhfoanmgaaGreat.Spn
open Go Go.RowKit Lw Grd Lin Con Shp Sk Exa Lev Stk Pcs
set_option linter.unusedVariables false
set_option linter.unusedSimpArgs false
theorem gcover (b lo hi : Int) (l : List (Nat × Nat)) (w : World) (hb0 : 1 ≤ b) (hb1 : b ≤ 59) (lo0 : 0 ≤ lo) (lo1 : lo ≤ hi) (hi1 : hi < p2 b.toNat) (hc : Cov b.toNat (hi.toNat + 1) lo.toNat l) :
    Calls Tryz.prog 21 #[.int .i64 b, .int .u64 lo, .int .u64 hi] w fun e w' => ∃ (A : Option Addr) (cap : Nat), e = .returned (.tuple #[.slice A l.length cap, .bool true]) ∧ PcV w' A l.length cap (ints l) ∧ Below w.heap.size w w' := by
  have hp : p2 b.toNat ≤ 576460752303423488 := by
    have h := Nat.pow_le_pow_right (show 0 < 2 by omega) (show b.toNat ≤ 59 by omega)
    have e : (2 : Nat) ^ 59 = 576460752303423488 := by decide
    unfold p2
    omega
  refine (rcover_any b lo hi w (by omega) (by omega) lo0 (by omega) (by omega) (by omega)).mono ?_
  rintro e w' ⟨A, n, cap, l2, rfl, hp2, -, hb, hok, -⟩
  have h1 : okC b lo hi = true := decide_eq_true ⟨hb0, hb1, lo1, hi1⟩
  have h2 := (hok h1).uniq hc
  subst h2
  have h3 := hp2.1
  have h4 := h3.len
  rw [ints_len] at h4
  subst h4
  rw [h1]
  exact ⟨A, cap, rfl, h3, hb⟩
theorem take_sum {α : Type} (f : α → Int) (l : List α) {j : Nat} {p : α} (h : l[j]? = some p) : ((l.take (j + 1)).map f).sum = ((l.take j).map f).sum + f p := by
  obtain ⟨h1, h2⟩ := List.getElem?_eq_some_iff.1 h
  rw [List.take_succ_eq_append_getElem h1, List.map_append, List.sum_append, h2]
  simp
set_option maxRecDepth 100000 in
set_option maxHeartbeats 40000000 in
theorem sums_law (x : Cfg) (A : Option Addr) (n0 k0 : Nat) (qs : Ups) (a b : Int) (w : World) (hx : x.Ok) (hq : UpdV w A n0 k0 qs) (ha : 0 ≤ a ∧ a ≤ 18446744073709551615) (hb2 : 0 ≤ b ∧ b ≤ 18446744073709551615) :
    Calls Tryz.prog 4 #[.agg #[.int .i64 x.bt, .int .i64 x.rw, .int .i64 x.wd, .int .i64 x.md, .int .u64 x.sd, .slice A n0 k0], .int .u64 a, .int .u64 b] w fun e w' => e = .returned (.bool true) ∧ Below w.heap.size w w' := by
  obtain ⟨c, hC⟩ : ∃ c, { anyC x 10 9 with md := 1 } = c := ⟨_, rfl⟩
  have hr0 := any_right x 10 9 (by omega) (by omega) (by omega) (by omega)
  have hco0 := any_ok x hx 10 9 (by omega) (by omega) (by omega) (by omega)
  have hr : IsRight c := by rw [← hC]; exact ⟨hr0.1, hr0.2.1, hr0.2.2.1, hr0.2.2.2.1, hr0.2.2.2.2.1, hr0.2.2.2.2.2.1, (by show (1 : Int) ≤ 1; omega), (by show (1 : Int) ≤ 3; omega)⟩
  have hco : c.Ok := by rw [← hC]; exact ⟨hco0.b0, hco0.b1, hco0.r0, hco0.r1, hco0.w0, hco0.w1, by show -9223372036854775808 ≤ (1 : Int); omega, by show (1 : Int) ≤ 9223372036854775807; omega, hco0.s0, hco0.s1⟩
  have hmd : c.md = 1 := by rw [← hC]
  have hbt := hr.1
  have hbt2 := hr.2.1
  have hkeys : 1 ≤ keys c 0 := keys_pos.2 ⟨hr, by omega, by omega⟩
  have hkk := keys_bd c 0
  have FD := Lib.hid (fun w hq => fed_m x A n0 k0 qs 1 (by omega) (by omega) a b c w hx hq ha.1 ha.2 hb2.1 hb2.2 hC)
  have hlh := lohi hkeys a b
  have hul := upsR_len c 0 qs 0 60
  have hui := upsR_in hkeys qs 0 60
  obtain ⟨LO, hLO⟩ : ∃ v, loK c a b = v := ⟨_, rfl⟩
  obtain ⟨HI, hHI⟩ : ∃ v, hiK c a b = v := ⟨_, rfl⟩
  rw [hLO, hHI] at FD hlh
  have CG := Lib.hid (fun w (n : Nat) (i : Int) hq (hn : (n : Int) ≤ c.bt) (i0 : 0 ≤ i) (hi : i < keys c n) => rguess_any c A n0 k0 qs n i w hr hco hmd hkeys hq hn i0 hi)
  obtain ⟨us, hus⟩ : ∃ us, upsR c 0 qs 0 60 = us := ⟨_, rfl⟩
  rw [hus] at FD hul hui CG
  obtain ⟨l, hc⟩ := Cov.ex (B := c.bt.toNat) (e := HI.toNat + 1) (HI.toNat + 1 - LO.toNat) LO.toNat rfl (by omega)
  have h2k := two_keys hr
  have hll := hc.len (by omega) (by omega)
  obtain ⟨f1, f2, f3, f4⟩ := rg_fed hr hui hul hlh.1 hlh.2.1 hlh.2.2 hc
  have HIN := Lib.hid (fun p (hp : p ∈ l) => cov_in hr hlh.1 hlh.2.1 hlh.2.2 hc hp)
  have HBD : Hid (∀ j, -(65970697666560 * 200) ≤ ((l.take j).map (fun p : Nat × Nat => lsPtV c p.1 (stOf c us p.1) ((p.2 : Nat) : Int))).sum ∧ ((l.take j).map (fun p : Nat × Nat => lsPtV c p.1 (stOf c us p.1) ((p.2 : Nat) : Int))).sum ≤ 65970697666560 * 200) := Lib.hid (fun j => by
    have h := sum_bd (f := (fun p : Nat × Nat => lsPtV c p.1 (stOf c us p.1) ((p.2 : Nat) : Int))) (b := 65970697666560) (l := l.take j) (fun p hp => by
      have h3 := HIN.out p (List.mem_of_mem_take hp)
      exact pt_bd hr hui hul h3.1 (by omega) h3.2)
    have h2 : (l.take j).length ≤ l.length := by rw [List.length_take]; omega
    omega)
  have CV := Lib.hid (fun w => gcover c.bt LO HI l w (by omega) (by omega) hlh.1 hlh.2.1 (by rw [show p2 c.bt.toNat = keys c 0 from two_keys hr]; exact hlh.2.2) hc)
  have CP := Lib.hid (fun p F w hs => sp_parts p F c (stsOf c us) LO HI w hs (by omega) (by omega) (by omega) (by omega))
  have e9 : ptL c (fun L i => spV c (stsOf c us) (L : Int) i) LO HI = l.map (fun p : Nat × Nat => lsPtV c p.1 (stOf c us p.1) ((p.2 : Nat) : Int)) := by unfold ptL; rw [if_pos f1, f2]
  rw [f1, e9] at CP
  have CR := Lib.hid (fun p F w hs => sp_range p F c (stsOf c us) LO HI w hs (by omega) (by omega) (by omega) (by omega))
  rw [f3, f4] at CR
  obtain ⟨TOT, hTOT⟩ : ∃ v, (l.map (fun p : Nat × Nat => lsPtV c p.1 (stOf c us p.1) ((p.2 : Nat) : Int))).sum = v := ⟨_, rfl⟩
  rw [hTOT] at CR
  have HTOT : Hid (((l.take l.length).map (fun p : Nat × Nat => lsPtV c p.1 (stOf c us p.1) ((p.2 : Nat) : Int))).sum = TOT) := Lib.hid (by rw [List.take_length]; exact hTOT)
  have HNX := Lib.hid (fun j p (h : l[j]? = some p) => take_sum (fun p : Nat × Nat => lsPtV c p.1 (stOf c us p.1) ((p.2 : Nat) : Int)) l h)
  have HVS := Lib.hid (fun j p (h : l[j]? = some p) => (show (l.map (fun p : Nat × Nat => lsPtV c p.1 (stOf c us p.1) ((p.2 : Nat) : Int)))[j]? = some ((fun p : Nat × Nat => lsPtV c p.1 (stOf c us p.1) ((p.2 : Nat) : Int)) p) by rw [List.getElem?_map, h]; rfl))
  have HLN : Hid ((l.map (fun p : Nat × Nat => lsPtV c p.1 (stOf c us p.1) ((p.2 : Nat) : Int))).length = l.length) := Lib.hid (List.length_map _)
  have hll2 : l.length ≤ 200 := by omega
  obtain ⟨Z, hZ⟩ : ∃ Z, stsOf c us = Z := ⟨_, rfl⟩
  rw [hZ] at FD CP CR
  have HQ := Lib.hid hq
  have HBX : Hid (Have w (w.alloc (.cells #[.int .i64 x.bt, .int .i64 x.rw, .int .i64 x.wd, .int .i64 x.md, .int .u64 x.sd, .slice A n0 k0] 27)) [boxT w.heap.size 27 #[.int .i64 x.bt, .int .i64 x.rw, .int .i64 x.wd, .int .i64 x.md, .int .u64 x.sd, .slice A n0 k0]]) := Lib.hid (box_new w _ _)
  clear h2k hr hco hr0 hco0 hC hbt hbt2 hkeys hkk hlh hul hui hLO hHI hus hZ hq hx hmd hc hll f1 f2 f3 f4 e9 hTOT
  go_enter Tryz.func4, Tryz.ntmps4
  go_wp2_with (first
    | (go_at_call 14; (with_reducible refine (CP.out p F _ (stI HV4.out.i1)).mono ?_); rintro e w5 ⟨A1, n1, cap1, rfl, rd1, ln1, _, _, hb⟩; rw [HLN.out] at ln1; subst ln1; have RD := Lib.hid rd1; have HV5 := Lib.hid (HV4.out.up hb); have PC5 := Lib.hid (PC4.out.up hb); clear hb rd1 c0 c1 c2 c3 c4; obtain ⟨c0, c1, c2, c3, c4⟩ := box5 HV5.out.i0; clear x0 x1 x2 x3 x4 x5; obtain ⟨x0, x1, x2, x3, x4, x5⟩ := box6 HV5.out.i2)
    | (go_at_call 21; (with_reducible refine (CV.out _).mono ?_); rintro e w4 ⟨A2, cap2, rfl, pc, hb⟩; have PC4 := Lib.hid pc; have HV4 := Lib.hid (HV3.out.up hb); clear hb pc c0 c1 c2 c3 c4; obtain ⟨c0, c1, c2, c3, c4⟩ := box5 HV4.out.i0; clear x0 x1 x2 x3 x4 x5; obtain ⟨x0, x1, x2, x3, x4, x5⟩ := box6 HV4.out.i2)
    | (go_at_call 20; (with_reducible refine (FD.out _ (HQ.out.up HV1.out.below)).mono ?_); rintro e w2 ⟨p, F, rfl, hv⟩; have HV2 := Lib.hid (HV1.out.join hv); simp only [List.cons_append, List.nil_append] at HV2; clear hv; have HV3 := Lib.hid (HV2.out.push (boxT w2.heap.size 24 #[.int .i64 c.bt, .int .i64 c.rw, .int .i64 c.wd, .int .i64 c.md, .int .u64 c.sd]) (Lw.below_alloc (Below.refl _ _) _) (heap_alloc_new w2 _) (fun k hk => Nat.le_of_eq hk.symm)); obtain ⟨c0, c1, c2, c3, c4⟩ := box5 HV3.out.i0; clear x0 x1 x2 x3 x4 x5; obtain ⟨x0, x1, x2, x3, x4, x5⟩ := box6 HV3.out.i2)
    | (go_at_call 8; (with_reducible refine (shown_any _).mono ?_); rintro e w1 ⟨rfl, hb⟩; have HV1 := Lib.hid (HBX.out.up hb); clear hb; obtain ⟨x0, x1, x2, x3, x4, x5⟩ := box6 HV1.out.i0))
  obtain ⟨gc, hgc⟩ : ∃ g, w2.heap.size = g := ⟨_, rfl⟩
  rw [hgc] at HV5 ⊢
  clear hgc HV1 HV2 HV3 HV4 c0 c1 c2 c3 c4 x0 x1 x2 x3 x4 x5 FD CP CV HBX
  go_loopw [14, 17] (fun sv iv wr => ∃ (j : Nat), j ≤ l.length ∧ iv = .int .i64 j ∧ sv = .int .i64 (((l.take j).map (fun p : Nat × Nat => lsPtV c p.1 (stOf c us p.1) ((p.2 : Nat) : Int))).sum) ∧ Have w wr [boxT gc 24 #[.int .i64 c.bt, .int .i64 c.rw, .int .i64 c.wd, .int .i64 c.md, .int .u64 c.sd], stT p F c Z, boxT w.heap.size 27 #[.int .i64 x.bt, .int .i64 x.rw, .int .i64 x.wd, .int .i64 x.md, .int .u64 x.sd, .slice A n0 k0]] ∧ Below w5.heap.size w5 wr) (fun _ iv _ => l.length - (intOf iv).toNat)
  case atStart => exact ⟨0, Nat.zero_le _, rfl, rfl, HV5.out, Below.refl _ _⟩
  case round =>
    obtain ⟨j, hj, rfl, rfl, hv, hbw⟩ := hrel
    have HVr := Lib.hid hv
    have HBL := Lib.hid hbw
    have hbd := HBD.out j
    obtain ⟨X, hX⟩ : ∃ X, ((l.take j).map (fun p : Nat × Nat => lsPtV c p.1 (stOf c us p.1) ((p.2 : Nat) : Int))).sum = X := ⟨_, rfl⟩
    have HX := Lib.hid hX
    rw [hX] at hbd ⊢
    clear hv hbw hX
    by_cases hlt : j < l.length
    · obtain ⟨pp, hp1⟩ : ∃ pp, l[j]? = some pp := ⟨_, List.getElem?_eq_getElem hlt⟩
      have hnx := HNX.out j pp hp1
      have hvs := HVS.out j pp hp1
      have hin := HIN.out pp (List.mem_of_getElem? hp1)
      have hbd2 := HBD.out (j + 1)
      obtain ⟨LV, IX⟩ := pp
      simp only at hnx hvs hin
      have CGJ := Lib.hid (fun w hq => CG.out w LV IX hq hin.1 (by omega) hin.2)
      obtain ⟨a2, g, o, rfl, hadd, d1w, d2w, kb, db⟩ := PC5.out.at (ints_get hp1)
      simp only at d1w d2w kb db
      have d1 := cell_up d1w HBL.out
      have d2 := cell_up d2w HBL.out
      obtain ⟨a1, rfl⟩ := RD.out.some_of (by rw [HLN.out]; omega)
      have cP := cell_up (RD.out.at hvs) HBL.out
      obtain ⟨VV, hVV⟩ : ∃ v, lsPtV c LV (stOf c us LV) (IX : Int) = v := ⟨_, rfl⟩
      rw [hVV] at cP CGJ hnx
      rw [hnx, HX.out] at hbd2
      rw [HX.out] at hnx
      have HN := Lib.hid hnx
      have wx : wrap64 (X + VV) = X + VV := IntWalk.wrap64_in _ ⟨by omega, by omega⟩
      have wx2 : IntKind.i64.wrap (X + VV) = X + VV := IntWalk.i64_in _ ⟨by omega, by omega⟩
      obtain ⟨c0, c1, c2, c3, c4⟩ := box5 HVr.out.i0
      obtain ⟨_, _, _, _, _, x5⟩ := box6 HVr.out.i2
      have hj3 : (j : Int) < (l.length : Int) := by omega
      clear hp1 hnx hvs hin hbd2 d1w d2w kb db hVV hbd
      go_upto_region 13 with fail
      go_region_held3 (fun w' => w'.cell? ⟨gc, 0, none⟩ = some (.int .i64 c.bt) ∧ w'.cell? ⟨gc, 1, none⟩ = some (.int .i64 c.rw) ∧ w'.cell? ⟨gc, 2, none⟩ = some (.int .i64 c.wd) ∧ w'.cell? ⟨gc, 3, none⟩ = some (.int .i64 c.md) ∧ w'.cell? ⟨gc, 4, none⟩ = some (.int .u64 c.sd) ∧ w'.cell? ⟨w.heap.size, 5, none⟩ = some (.slice A n0 k0) ∧ w'.cell? ⟨g, o, none⟩ = some (.int .i64 (LV : Int)) ∧ w'.cell? ⟨g, o + 1, none⟩ = some (.int .u64 (IX : Int))) (first | (refine ⟨?_, ?_, ?_, ?_, ?_, ?_, ?_, ?_⟩ <;> (first | (with_reducible assumption) | (with_reducible refine cell_up c0 ?_) | (with_reducible refine cell_up c1 ?_) | (with_reducible refine cell_up c2 ?_) | (with_reducible refine cell_up c3 ?_) | (with_reducible refine cell_up c4 ?_) | (with_reducible refine cell_up x5 ?_) | (with_reducible refine cell_up d1 ?_) | (with_reducible refine cell_up d2 ?_)) <;> (repeat' (first | (with_reducible exact Below.refl _ _) | (with_reducible assumption) | (with_reducible refine below_over ?_ _ _) | (with_reducible refine Lw.below_alloc ?_ _) | (with_reducible refine Below.drew ?_) | (with_reducible refine below_drewN ?_ _) | (with_reducible refine Below.setCell ?_ ?_ _) | go_size)))) (first | (go_at_call 22; (with_reducible refine (CGJ.out _ (HQ.out.up (HVr.out.up (by repeat' (first | (with_reducible exact Below.refl _ _) | (with_reducible assumption) | (with_reducible refine below_over ?_ _ _) | (with_reducible refine Lw.below_alloc ?_ _) | (with_reducible refine Below.drew ?_) | (with_reducible refine below_drewN ?_ _) | (with_reducible refine Below.setCell ?_ ?_ _) | go_size))).below)).mono ?_); rintro e w' ⟨rfl, hb⟩; obtain ⟨bs, dd, rfl⟩ := below_grow hb; clear hb))
      all_goals have cP2 : World.cell? (grow wr bs dd) (a1.add j) = some (.int .i64 VV) := cell_up cP (by repeat' (first | (with_reducible exact Below.refl _ _) | (with_reducible assumption) | (with_reducible refine below_over ?_ _ _) | (with_reducible refine Lw.below_alloc ?_ _) | (with_reducible refine Below.drew ?_) | (with_reducible refine below_drewN ?_ _) | (with_reducible refine Below.setCell ?_ ?_ _) | go_size))
      all_goals go_wp2
      all_goals go_roundw
      all_goals first
        | exact ⟨j + 1, by omega, by go_num, by rw [HN.out], HVr.out.up (by repeat' (first | (with_reducible exact Below.refl _ _) | (with_reducible assumption) | (with_reducible refine below_over ?_ _ _) | (with_reducible refine Lw.below_alloc ?_ _) | (with_reducible refine Below.drew ?_) | (with_reducible refine below_drewN ?_ _) | (with_reducible refine Below.setCell ?_ ?_ _) | go_size)), below_call HBL.out (by repeat' (first | (with_reducible exact Below.refl _ _) | (with_reducible assumption) | (with_reducible refine below_over ?_ _ _) | (with_reducible refine Lw.below_alloc ?_ _) | (with_reducible refine Below.drew ?_) | (with_reducible refine below_drewN ?_ _) | (with_reducible refine Below.setCell ?_ ?_ _) | go_size)) (Nat.le_refl _)⟩
        | (simp [intOf]; omega)
    · obtain rfl : j = l.length := by omega
      have hXe := HX.out
      rw [HTOT.out] at hXe
      subst hXe
      clear hbd hlt
      go_wp2_with (go_at_call 16; (with_reducible refine (CR.out p F _ (stI HVr.out.i1)).mono ?_); rintro e w8 ⟨rfl, hb⟩; have HV8 := Lib.hid (HVr.out.up hb); clear hb)
      go_ret
      exact ⟨ret_bs (by first | rfl | (simp [*]; done)), HV8.out.below⟩
namespace spanSums
open Go.ChangeShapes Go.WideShapes Go.ChangeAt Go.Joins
set_option maxRecDepth 100000 in
theorem lifted (os : Os) (started : os.Started) (H : Type) (enc : TypeId × Value → H) :
    ReturnsInHanded {} Tryz.checked os 4 .any (Rows.spanSumsSpec.pre6 enc Tryz.prog Tryz.f4 Rows.spanSumsRow.domain false) (Rows.spanSumsSpec.post enc Tryz.prog Tryz.f4 false true false false) := by
  refine Lw.lifted (C := Tryz.checked) (B := 4) (by kernel_rfl) os started (by kernel_rfl) Tryz.func4
    (ChangeSpec.witness6 (enc := enc) (C := Tryz.checked) false ⟨#[], #[.agg #[.int .i64 0, .int .i64 0, .int .i64 0, .int .i64 0, .int .u64 0, .slice none 0 0], .int .u64 0, .int .u64 0], []⟩ 8 (by kernel_rfl) (by kernel_rfl) (by kernel_rfl) (by kernel_rfl)) rfl Tryz.underlying4 (by kernel_rfl) (by kernel_rfl) (by kernel_rfl) ?_ ?_
  · intro ds h
    rw [Tryz.params4] at h
    match ds, h with
    | [_, _, _], _ => rfl
  · intro W base args ds p hval hA
    rw [Tryz.params4] at hA hval
    obtain ⟨v0, vs0, d0, ds0, p0, q0, hargs, rfl, rfl, h0, r0⟩ := trodAll_cons hA
    obtain ⟨v1, vs1, d1, ds1, p1, q1, rfl, rfl, rfl, h1, r1⟩ := trodAll_cons r0
    obtain ⟨v2, vs2, d2, ds2, p2, q2, rfl, rfl, rfl, h2, r2⟩ := trodAll_cons r1
    obtain ⟨rfl, rfl, rfl⟩ := trodAll_nil r2
    obtain rfl : args = #[v0, v1, v2] := by cases args; simp_all
    obtain ⟨x0, A0, n0, k0, qs0, rfl, hx0, hq0⟩ := open_playX (hval 0 27 v0 rfl rfl) h0
    obtain ⟨a1, rfl, rfl, rfl, w1⟩ := open_int Tryz.underlying22 (hval 1 22 v1 rfl rfl) h1
    have b1 := Lw.wf_u64 w1
    obtain ⟨a2, rfl, rfl, rfl, w2⟩ := open_int Tryz.underlying22 (hval 2 22 v2 rfl rfl) h2
    have b2 := Lw.wf_u64 w2
    exact sums_law x0 A0 n0 k0 qs0 a1 a2 W hx0 hq0 b1 b2
theorem over : Rows.spanSumsRow.holds Tryz.pinned (OpenSpec.ofChange Rows.spanSumsSpec) :=
  OpenClaim.holds_of_wide 4 Tryz.f4 rfl rfl rfl rfl rfl rfl rfl ⟨rfl, rfl, rfl, rfl, rfl⟩ rfl rfl rfl rfl rfl (by kernel_rfl) Tryz.func4 (by kernel_rfl)
    (of_decide_eq_true (by kernel_rfl)) (by unfold Func.isWrapper; first | (rw [if_pos (by decide +kernel)]; kernel_rfl) | (rw [if_neg (by decide +kernel)]; exact ⟨rfl, rfl⟩))
    (fun os started H enc _ => lifted os started H enc)
theorem proved : Rows.SpanSumsSaid :=
  over
#print axioms proved
end spanSums
end Go.Proofs.YtbifihhfoanmgaaGreat.Spn
