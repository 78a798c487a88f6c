/- The statement SpanWhole of layer 16 holds. Printed by wip/gen/spn4.py. -/
import Derived.Test.YtbifihhfoanmgaaGreatMe
import Derived.Test.YtbifihhfoanmgaaGreatMl
import Derived.Test.YtbifihhfoanmgaaGreatMn
import Derived.Deep.LoopGhost
import Derived.Deep.RegionHeld3
import Derived.Deep.DeepCutAuto
import Derived.Deep.QuietTactic
import Derived.BigQuiet
namespace Go.Proofs.YtbifihhfoanmgaaGreat.Spn
open Go Go.RowKit Lw Grd Lin Con Shp Sk Exa Lev Stk Pcs
set_option linter.unusedVariables false
set_option linter.unusedSimpArgs false
set_option maxRecDepth 100000 in
set_option maxHeartbeats 40000000 in
theorem whole_law (x : Cfg) (A : Option Addr) (n0 k0 : Nat) (qs : Ups) (a : Int) (w : World) (hx : x.Ok) (hq : UpdV w A n0 k0 qs) (ha : 0 ≤ a ∧ a ≤ 18446744073709551615) :
    Calls Tryz.prog 7 #[.agg #[.int .i64 x.bt, .int .i64 x.rw, .int .i64 x.wd, .int .i64 x.md, .int .u64 x.sd, .slice A n0 k0], .int .u64 a] w fun e w' => e = .returned (.bool true) ∧ Below w.heap.size w w' := by
  obtain ⟨c, hC⟩ : ∃ c, anyC x 10 9 = c := ⟨_, rfl⟩
  have hr := any_right x 10 9 (by omega) (by omega) (by omega) (by omega)
  have hco := any_ok x hx 10 9 (by omega) (by omega) (by omega) (by omega)
  have FD := Lib.hid (fun w hq => fed_z x A n0 k0 qs a a c w hx hq ha.1 ha.2 ha.1 ha.2 hC)
  rw [hC] at hr hco
  have hbt := hr.1
  have hkeys : 1 ≤ keys c 0 := keys_pos.2 ⟨hr, by omega, by omega⟩
  have hkk := keys_bd c 0
  have hul := upsR_len c 0 qs 0 60
  have hui := upsR_in hkeys qs 0 60
  obtain ⟨us, hus⟩ : ∃ us, upsR c 0 qs 0 60 = us := ⟨_, rfl⟩
  rw [hus] at FD hul hui
  have hlh := lohi hkeys a a
  have CK := Lib.hid (fun w => rkeys_any c 0 w hco (by omega) (by omega))
  obtain ⟨V, hV⟩ : ∃ v, loK c a a = v := ⟨_, rfl⟩
  obtain ⟨V2, hV2⟩ : ∃ v, hiK c a a = v := ⟨_, rfl⟩
  rw [hV, hV2] at FD hlh
  have h1 := rg_whole hr hui hul
  have h2 := rg_one hr hui hul (k := V) (by omega) (by omega)
  have h3 := rg_none c (fun L i => spV c (stsOf c us) (L : Int) i) (lo := 0) (hi := keys c 0) (by omega) (Int.le_refl _)
  have h4 := sp_at hr us (n := 0) (by omega) V
  rw [st_pc (by omega) (show V < keys c 0 by omega)] at h4
  have CW := Lib.hid (fun p F w hs => sp_rank p F c (stsOf c us) (keys c 0 - 1) w hs (by omega) (by omega))
  have CO := Lib.hid (fun p F w hs => sp_range p F c (stsOf c us) V V w hs (by omega) (by omega) (by omega) (by omega))
  have CN := Lib.hid (fun p F w hs => sp_rank p F c (stsOf c us) (keys c 0) w hs (by omega) (by omega))
  have CP := Lib.hid (fun p F w hs => cs_point p F c (stsOf c us) 0 V w hs (by omega) (by omega) (by omega) (by omega))
  have CT0 := Lib.hid (fun p F w hs => cs_total p F c (stsOf c us) w hs)
  rw [h1.1, h1.2] at CW
  rw [h2.1, h2.2] at CO
  rw [h3.1, h3.2] at CN
  rw [show spC c (stsOf c us) 0 V = 0 from h4.2] at CP
  obtain ⟨TV, hTV⟩ : ∃ v, spV c (stsOf c us) c.bt 0 = v := ⟨_, rfl⟩
  rw [hTV] at CW CT0
  obtain ⟨PV, hPV⟩ : ∃ v, spV c (stsOf c us) 0 V = v := ⟨_, rfl⟩
  rw [hPV] at CO CP
  obtain ⟨Z, hZ⟩ : ∃ Z, stsOf c us = Z := ⟨_, rfl⟩
  rw [hZ] at FD CT0 CP CW CO CN
  obtain ⟨K, hK⟩ : ∃ K, keys c 0 = K := ⟨_, rfl⟩
  rw [hK] at CK CW CN hkk hkeys
  have hw : IntKind.u64.wrap (K - 1) = K - 1 := by rw [IntKind.wrap_u64]; omega
  have HQ := Lib.hid hq
  have HBX : Hid (Have w (w.alloc (.cells #[.int .i64 x.bt, .int .i64 x.rw, .int .i64 x.wd, .int .i64 x.md, .int .u64 x.sd, .slice A n0 k0] 27)) [boxT w.heap.size 27 #[.int .i64 x.bt, .int .i64 x.rw, .int .i64 x.wd, .int .i64 x.md, .int .u64 x.sd, .slice A n0 k0]]) := Lib.hid (box_new w _ _)
  clear hr hco hbt hkeys hkk hul hui hlh h1 h2 h3 h4 hTV hPV hZ hus hV hV2 hK hq hx hC
  go_enter Tryz.func7, Tryz.ntmps7
  go_wp2_with (first
    | (go_at_call 27; (with_reducible refine (CT0.out p F _ (stI HVa.out.i1)).mono ?_); rintro e wa ⟨rfl, hb⟩; have HVb := Lib.hid (HVa.out.up hb); clear hb)
    | (go_at_call 18; (with_reducible refine (CN.out p F _ (stI HV9.out.i1)).mono ?_); rintro e w9 ⟨rfl, hb⟩; have HVa := Lib.hid (HV9.out.up hb); clear hb; clear c0 c1 c2 c3 c4; obtain ⟨c0, c1, c2, c3, c4⟩ := box5 HVa.out.i0; clear x0 x1 x2 x3 x4 x5; obtain ⟨x0, x1, x2, x3, x4, x5⟩ := box6 HVa.out.i2)
    | (go_at_call 26; (with_reducible refine (CK.out _).mono ?_); rintro e w8 ⟨rfl, hb⟩; have HV9 := Lib.hid (HV8.out.up hb); clear hb; clear c0 c1 c2 c3 c4; obtain ⟨c0, c1, c2, c3, c4⟩ := box5 HV9.out.i0; clear x0 x1 x2 x3 x4 x5; obtain ⟨x0, x1, x2, x3, x4, x5⟩ := box6 HV9.out.i2)
    | (go_at_call 28; (with_reducible refine (CP.out p F _ (stI HV7.out.i1)).mono ?_); rintro e w7 ⟨rfl, hb⟩; have HV8 := Lib.hid (HV7.out.up hb); clear hb; clear c0 c1 c2 c3 c4; obtain ⟨c0, c1, c2, c3, c4⟩ := box5 HV8.out.i0; clear x0 x1 x2 x3 x4 x5; obtain ⟨x0, x1, x2, x3, x4, x5⟩ := box6 HV8.out.i2)
    | (go_at_call 16; (with_reducible refine (CO.out p F _ (stI HV5.out.i1)).mono ?_); rintro e w6 ⟨rfl, hb⟩; have HV7 := Lib.hid (HV5.out.up hb); clear hb; clear c0 c1 c2 c3 c4; obtain ⟨c0, c1, c2, c3, c4⟩ := box5 HV7.out.i0; clear x0 x1 x2 x3 x4 x5; obtain ⟨x0, x1, x2, x3, x4, x5⟩ := box6 HV7.out.i2)
    | (go_at_call 18; (with_reducible refine (CW.out p F _ (stI HV4.out.i1)).mono ?_); rintro e w5 ⟨rfl, hb⟩; have HV5 := Lib.hid (HV4.out.up hb); clear hb; clear c0 c1 c2 c3 c4; obtain ⟨c0, c1, c2, c3, c4⟩ := box5 HV5.out.i0; clear x0 x1 x2 x3 x4 x5; obtain ⟨x0, x1, x2, x3, x4, x5⟩ := box6 HV5.out.i2)
    | (go_at_call 26; (with_reducible refine (CK.out _).mono ?_); rintro e w3 ⟨rfl, hb⟩; have HV4 := Lib.hid (HV3.out.up hb); clear hb; clear c0 c1 c2 c3 c4; obtain ⟨c0, c1, c2, c3, c4⟩ := box5 HV4.out.i0; clear x0 x1 x2 x3 x4 x5; obtain ⟨x0, x1, x2, x3, x4, x5⟩ := box6 HV4.out.i2)
    | (go_at_call 20; (with_reducible refine (FD.out _ (HQ.out.up HV1.out.below)).mono ?_); rintro e w2 ⟨p, F, rfl, hv⟩; have HV2 := Lib.hid (HV1.out.join hv); simp only [List.cons_append, List.nil_append] at HV2; clear hv; have HV3 := Lib.hid (HV2.out.push (boxT w2.heap.size 24 #[.int .i64 c.bt, .int .i64 c.rw, .int .i64 c.wd, .int .i64 c.md, .int .u64 c.sd]) (Lw.below_alloc (Below.refl _ _) _) (heap_alloc_new w2 _) (fun k hk => Nat.le_of_eq hk.symm)); obtain ⟨c0, c1, c2, c3, c4⟩ := box5 HV3.out.i0; clear x0 x1 x2 x3 x4 x5; obtain ⟨x0, x1, x2, x3, x4, x5⟩ := box6 HV3.out.i2)
    | (go_at_call 8; (with_reducible refine (shown_any _).mono ?_); rintro e w1 ⟨rfl, hb⟩; have HV1 := Lib.hid (HBX.out.up hb); clear hb; obtain ⟨x0, x1, x2, x3, x4, x5⟩ := box6 HV1.out.i0))
  go_ret
  exact ⟨ret_bs (by first | rfl | (simp [*]; done)), HVb.out.below⟩
namespace spanWhole
open Go.ChangeShapes Go.WideShapes Go.ChangeAt Go.Joins
set_option maxRecDepth 100000 in
theorem lifted (os : Os) (started : os.Started) (H : Type) (enc : TypeId × Value → H) :
    ReturnsInHanded {} Tryz.checked os 7 .any (Rows.spanWholeSpec.pre6 enc Tryz.prog Tryz.f7 Rows.spanWholeRow.domain false) (Rows.spanWholeSpec.post enc Tryz.prog Tryz.f7 false true false false) := by
  refine Lw.lifted (C := Tryz.checked) (B := 4) (by kernel_rfl) os started (by kernel_rfl) Tryz.func7
    (ChangeSpec.witness6 (enc := enc) (C := Tryz.checked) false ⟨#[], #[.agg #[.int .i64 0, .int .i64 0, .int .i64 0, .int .i64 0, .int .u64 0, .slice none 0 0], .int .u64 0], []⟩ 8 (by kernel_rfl) (by kernel_rfl) (by kernel_rfl) (by kernel_rfl)) rfl Tryz.underlying4 (by kernel_rfl) (by kernel_rfl) (by kernel_rfl) ?_ ?_
  · intro ds h
    rw [Tryz.params7] at h
    match ds, h with
    | [_, _], _ => rfl
  · intro W base args ds p hval hA
    rw [Tryz.params7] at hA hval
    obtain ⟨v0, vs0, d0, ds0, p0, q0, hargs, rfl, rfl, h0, r0⟩ := trodAll_cons hA
    obtain ⟨v1, vs1, d1, ds1, p1, q1, rfl, rfl, rfl, h1, r1⟩ := trodAll_cons r0
    obtain ⟨rfl, rfl, rfl⟩ := trodAll_nil r1
    obtain rfl : args = #[v0, v1] := by cases args; simp_all
    obtain ⟨x0, A0, n0, k0, qs0, rfl, hx0, hq0⟩ := open_playX (hval 0 27 v0 rfl rfl) h0
    obtain ⟨a1, rfl, rfl, rfl, w1⟩ := open_int Tryz.underlying22 (hval 1 22 v1 rfl rfl) h1
    have b1 := Lw.wf_u64 w1
    exact whole_law x0 A0 n0 k0 qs0 a1 W hx0 hq0 b1
theorem over : Rows.spanWholeRow.holds Tryz.pinned (OpenSpec.ofChange Rows.spanWholeSpec) :=
  OpenClaim.holds_of_wide 7 Tryz.f7 rfl rfl rfl rfl rfl rfl rfl ⟨rfl, rfl, rfl, rfl, rfl⟩ rfl rfl rfl rfl rfl (by kernel_rfl) Tryz.func7 (by kernel_rfl)
    (of_decide_eq_true (by kernel_rfl)) (by unfold Func.isWrapper; first | (rw [if_pos (by decide +kernel)]; kernel_rfl) | (rw [if_neg (by decide +kernel)]; exact ⟨rfl, rfl⟩))
    (fun os started H enc _ => lifted os started H enc)
theorem proved : Rows.SpanWholeSaid :=
  over
#print axioms proved
end spanWhole
end Go.Proofs.YtbifihhfoanmgaaGreat.Spn
