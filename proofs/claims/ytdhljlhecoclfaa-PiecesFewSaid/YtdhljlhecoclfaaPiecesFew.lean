/- The statement PiecesFew of layer 14 holds: at most two pieces of a span have the same level. Printed by wip/gen/pcslaws.py. -/
import Derived.Test.YtdhljlhecoclfaaPcsCnt
import Derived.Deep.LoopGhost
import Derived.Deep.RegionHeld3
import Derived.Deep.DeepCutAuto
import Derived.Deep.QuietTactic
import Derived.BigQuiet
namespace Go.Proofs.Ytdhljlhecoclfaa.Pcs
open Go Go.RowKit Lw
set_option linter.unusedVariables false
set_option linter.unusedSimpArgs false
theorem wct_of {ct : Nat} (h : ct ≤ 1) : wrap64 ((ct : Int) + 1) = (ct : Int) + 1 ∧ IntKind.i64.wrap ((ct : Int) + 1) = (ct : Int) + 1 := ⟨IntWalk.wrap64_in _ ⟨by omega, by omega⟩, IntWalk.i64_in _ ⟨by omega, by omega⟩⟩
theorem wj_of {k j : Nat} (hj : k = j + 1) (h : k < 2 ^ 63 - 1) : wrap64 ((k : Int) - 1) = (j : Int) ∧ IntKind.i64.wrap ((k : Int) - 1) = (j : Int) := by
  rw [show (k : Int) - 1 = (j : Int) by omega]
  exact ⟨IntWalk.wrap64_in _ ⟨by omega, by omega⟩, IntWalk.i64_in _ ⟨by omega, by omega⟩⟩
set_option maxRecDepth 100000 in
set_option maxHeartbeats 4000000 in
theorem few_law (b x y : Int) (w : World) (b0 : -9223372036854775808 ≤ b ∧ b ≤ 9223372036854775807) (x0 : 0 ≤ x ∧ x ≤ 18446744073709551615) (y0 : 0 ≤ y ∧ y ≤ 18446744073709551615) :
    Calls Try.prog 6 #[.int .i64 b, .int .u64 x, .int .u64 y] w fun e w' => e = .returned (.bool true) ∧ Below w.heap.size w w' := by
  have HBX : Hid (Have w w []) := Lib.hid (Below.refl _ _)
  go_enter Try.func6, Try.ntmps6
  go_wp2_with (first
    | (go_at_call 10; (with_reducible refine (ccov_at n lo hi HBD.out _).mono ?_); rintro e w3 ⟨A, m, cap, l, rfl, h1, h2, hb, h4, h5⟩; have HV3 := Lib.hid (HV2.out.push (pcT A m cap (ints l)) hb h1 h2); have HC := Lib.hid h4; have HL := Lib.hid h5; clear h1 h2 hb h4 h5)
    | (go_at_call 16; (with_reducible refine (right_any b x y _ b0 x0.1 x0.2 y0.1 y0.2).mono ?_); rintro e w2 ⟨n, lo, hi, rfl, hbd, hb⟩; have HV2 := Lib.hid (HV1.out.up hb); have HBD := Lib.hid hbd; clear hb hbd)
    | (go_at_call 9; (with_reducible refine (shown_any _).mono ?_); rintro e w1 ⟨rfl, hb⟩; have HV1 := Lib.hid (HBX.out.up hb); clear hb))
  have hcm := (pcI HV3.out.i0).nc
  have hcx := (pcI HV3.out.i0).cm
  unfold maxLen at hcx
  have HE : Hid (hi + 1 ≤ 2 ^ n) := Lib.hid (by have := HBD.out; omega)
  have hz60 : w3.alloc (.cells #[.int .i64 0, .int .i64 0, .int .i64 0, .int .i64 0, .int .i64 0, .int .i64 0, .int .i64 0, .int .i64 0, .int .i64 0, .int .i64 0, .int .i64 0, .int .i64 0, .int .i64 0, .int .i64 0, .int .i64 0, .int .i64 0, .int .i64 0, .int .i64 0, .int .i64 0, .int .i64 0, .int .i64 0, .int .i64 0, .int .i64 0, .int .i64 0, .int .i64 0, .int .i64 0, .int .i64 0, .int .i64 0, .int .i64 0, .int .i64 0, .int .i64 0, .int .i64 0, .int .i64 0, .int .i64 0, .int .i64 0, .int .i64 0, .int .i64 0, .int .i64 0, .int .i64 0, .int .i64 0, .int .i64 0, .int .i64 0, .int .i64 0, .int .i64 0, .int .i64 0, .int .i64 0, .int .i64 0, .int .i64 0, .int .i64 0, .int .i64 0, .int .i64 0, .int .i64 0, .int .i64 0, .int .i64 0, .int .i64 0, .int .i64 0, .int .i64 0, .int .i64 0, .int .i64 0, .int .i64 0] 38) = w3.alloc (.cells (cntA []) 38) := rfl
  rw [hz60]
  have HV4 := Lib.hid (HV3.out.push (boxT w3.heap.size 38 (cntA [])) (Lw.below_alloc (Below.refl _ _) _) (heap_alloc_new w3 _) (fun k hk => Nat.le_of_eq hk.symm))
  obtain ⟨g0, hg0⟩ : ∃ g, w3.heap.size = g := ⟨_, rfl⟩
  obtain ⟨wq, hwq⟩ : ∃ wq, w3.alloc (.cells (cntA []) 38) = wq := ⟨_, rfl⟩
  rw [hwq] at HV4 ⊢
  rw [hg0] at HV4 ⊢
  clear hz60 hwq hg0
  go_loopw [13] (fun iv wr => ∃ (k : Nat), k ≤ m ∧ iv = .int .i64 k ∧ Have w wr [boxT g0 38 (cntA ((l.take k).map (·.1))), pcT A m cap (ints l)]) (fun iv _ => m - (intOf iv).toNat)
  case atStart => exact ⟨0, Nat.zero_le _, rfl, HV4.out⟩
  case round =>
    obtain ⟨k, hk, rfl, hv⟩ := hrel
    have HVr := Lib.hid hv
    clear hv
    by_cases hlt : k < m
    · have hkl : k < l.length := by have := HL.out; omega
      obtain ⟨p, hp⟩ : ∃ p, l[k]? = some p := ⟨_, List.getElem?_eq_getElem hkl⟩
      have hpn := (HC.out.at k p hp).1
      have htk := take_lev hp
      have hct := HC.out.two HE.out (k + 1) p.1
      rw [htk, List.count_append] at hct
      have h1c : List.count p.1 [p.1] = 1 := by simp
      rw [h1c] at hct
      have hb1 := HBD.out
      have hp60 : p.1 < 60 := by omega
      have hx0 := box_cell HVr.out.i0 (cntA_get (ls := (l.take k).map (·.1)) hp60)
      have hf0 := boxs_frozen HVr.out.i0 p.1
      obtain ⟨ad, g, o, eA, had, d1, d2⟩ := (pcI HVr.out.i1).two (ints_get hp)
      have HNE : Hid (g ≠ g0) := Lib.hid (by
        have h9 : (pcT A m cap (ints l)).F g := ⟨ad, eA, by rw [← add_block ad (k * 2), had]⟩
        exact fun e => HVr.out.ap01 g (by rw [e]; rfl) h9)
      obtain ⟨ct, hcc⟩ : ∃ ct, List.count p.1 ((l.take k).map (·.1)) = ct := ⟨_, rfl⟩
      rw [hcc] at hct hx0
      have hset := cntA_set (ls := (l.take k).map (·.1)) (x := p.1) hp60 (v := (ct : Int) + 1) (by rw [hcc])
      rw [← htk] at hset
      have HSET := Lib.hid hset
      have HHV := Lib.hid (And.intro hp eA)
      have wct := (wct_of (Nat.le_of_succ_le_succ hct)).1
      have wct2 := (wct_of (Nat.le_of_succ_le_succ hct)).2
      have hsz := box_lt HVr.out.i0
      have kn : (k : Int) < (m : Int) := by omega
      obtain ⟨pl, pi⟩ := p
      simp only at d1 d2 hx0 hf0 hpn hp60 hct HSET
      have p0 : ¬ (pl : Int) < 0 := by omega
      have p59 : ¬ (59 : Int) < (pl : Int) := by omega
      subst eA
      clear hset htk hcc hp h1c hb1 hkl
      have HP60 := Lib.hid hp60
      go_upto_region 11 with fail
      have HV5 := Lib.hid (HVr.out.turn_0 (w' := wr.setCell ⟨g0, pl, none⟩ (.int .i64 ((ct : Int) + 1))) (boxT g0 38 (cntA ((l.take (k + 1)).map (·.1)))) (by rw [← HSET.out]; exact boxs_set HVr.out.i0 pl _) (Kept.set (F := fun q => q = g0) (Kept.refl _ wr) (.inl rfl) pl _) (fun k hk => .inl hk))
      obtain ⟨W1, hW1⟩ : ∃ W1, wr.setCell ⟨g0, pl, none⟩ (.int .i64 ((ct : Int) + 1)) = W1 := ⟨_, rfl⟩
      rw [hW1] at HV5 ⊢
      clear hW1 d1 d2 hx0 hf0 hsz wct wct2 p0 p59
      have hx0 : W1.cell? ⟨g0, pl, none⟩ = some (.int .i64 ((ct : Int) + 1)) := by
        rw [← HSET.out] at HV5
        exact box_cell HV5.out.i0 (by rw [Array.getElem?_setIfInBounds, if_pos rfl, if_pos (by rw [cntA_size]; exact HP60.out)])
      obtain ⟨ad1, g1, o1, eA1, had1, d1, d2⟩ := (pcI HV5.out.i1).two (ints_get HHV.out.1)
      injection eA1 with eA1
      subst eA1
      rw [had] at had1
      injection had1 with eg eo _
      subst eg eo
      simp only at d1 d2
      have ct2 : ¬ (2 : Int) < (ct : Int) + 1 := by omega
      obtain ⟨CT, hCT⟩ : ∃ v, (ct : Int) + 1 = v := ⟨_, rfl⟩
      rw [hCT] at ct2 hx0
      have dct : decide ((2 : Int) < CT) = false := decide_eq_false ct2
      have q60 : (pl : Int) < 60 := by omega
      have q0 : (0 : Int) ≤ (pl : Int) := by omega
      clear hCT
      by_cases hk0 : k = 0
      · have k0 : ¬ (0 : Int) < (k : Int) := by omega
        have dk0 : decide ((0 : Int) < (k : Int)) = false := decide_eq_false k0
        have k0n : ¬ 0 < k := by omega
        clear hk0 hct
        go_quiet (fail)
        all_goals go_wp2
        all_goals go_roundw
        all_goals first
          | exact ⟨k + 1, by omega, by go_num, HV5.out.up (by repeat' (first | (with_reducible exact Below.refl _ _) | (with_reducible assumption) | (with_reducible refine below_over ?_ _ _) | (with_reducible refine Lw.below_alloc ?_ _) | (with_reducible refine Below.drew ?_) | (with_reducible refine below_drewN ?_ _) | (with_reducible refine Below.setCell ?_ ?_ _) | go_size))⟩
          | (simp [intOf]; omega)
      · have k0 : (0 : Int) < (k : Int) := by omega
        have dk0 : decide ((0 : Int) < (k : Int)) = true := decide_eq_true k0
        have k0n : 0 < k := by omega
        obtain ⟨j, hj⟩ : ∃ j, k = j + 1 := ⟨k - 1, by omega⟩
        obtain ⟨q, hq⟩ : ∃ q, l[j]? = some q := ⟨_, List.getElem?_eq_getElem (by have := HL.out; omega)⟩
        obtain ⟨ad3, g3, o3, eA3, had3, d3, d4⟩ := (pcI HV5.out.i1).two (ints_get hq)
        injection eA3 with eA3
        subst eA3
        have hhv := HC.out.halves HE.out j q (pl, pi) hq (by rw [← hj]; exact HHV.out.1)
        have hqb := HC.out.at j q hq
        obtain ⟨ql, qi⟩ := q
        simp only at d3 d4 hhv hqb
        have wk := (wj_of hj (Nat.lt_of_lt_of_le hlt (Nat.le_trans hcm hcx))).1
        have wk2 := (wj_of hj (Nat.lt_of_lt_of_le hlt (Nat.le_trans hcm hcx))).2
        have jm : (j : Int) < (m : Int) := by omega
        have hqi : (qi : Int) ≤ 1152921504606846976 := by
          have h60 := p2_bd (show n ≤ 60 by have := HBD.out; omega)
          unfold p2 at h60
          have h61 := HE.out
          have h62 := pow_pos ql
          have h63 : qi * 1 ≤ qi * 2 ^ ql := Nat.mul_le_mul_left _ h62
          omega
        have wq1 : IntKind.u64.wrap ((qi : Int) + 1) = (qi : Int) + 1 := u64_in (by omega) (by omega)
        have HJ := Lib.hid hj
        clear hqb hqi hq hj hk0 hct
        by_cases hlv : ql = pl
        · have el : ((ql : Int) == (pl : Int)) = true := by simp [hlv]
          have hpe := hhv hlv.symm.symm
          by_cases hix : pi = qi + 1
          · have ei : ((pi : Int) == (qi : Int) + 1) = true := by simp [hix]
            have tm : Int.tmod (pi : Int) 2 = 0 := by rw [Int.tmod_eq_emod_of_nonneg (by omega)]; omega
            subst hlv
            obtain ⟨Q1, hQ1⟩ : ∃ Q, (qi : Int) + 1 = Q := ⟨_, rfl⟩
            rw [hQ1] at ei
            have wq2 : IntKind.u64.wrap ((qi : Int) + 1) = Q1 := by rw [← hQ1]; rw [hQ1] at wq1; rw [hQ1]; exact wq1
            clear hhv hpe hix wq1 hQ1
            go_quiet (fail)
            all_goals go_wp2
            all_goals go_roundw
            all_goals first
              | exact ⟨k + 1, by omega, by go_num, HV5.out.up (by repeat' (first | (with_reducible exact Below.refl _ _) | (with_reducible assumption) | (with_reducible refine below_over ?_ _ _) | (with_reducible refine Lw.below_alloc ?_ _) | (with_reducible refine Below.drew ?_) | (with_reducible refine below_drewN ?_ _) | (with_reducible refine Below.setCell ?_ ?_ _) | go_size))⟩
              | (simp [intOf]; omega)
          · have ei : ((pi : Int) == (qi : Int) + 1) = false := by simp; omega
            subst hlv
            obtain ⟨Q1, hQ1⟩ : ∃ Q, (qi : Int) + 1 = Q := ⟨_, rfl⟩
            rw [hQ1] at ei
            have wq2 : IntKind.u64.wrap ((qi : Int) + 1) = Q1 := by rw [hQ1]; rw [hQ1] at wq1; exact wq1
            clear hhv hpe hix wq1 hQ1
            go_quiet (fail)
            all_goals go_wp2
            all_goals go_roundw
            all_goals first
              | exact ⟨k + 1, by omega, by go_num, HV5.out.up (by repeat' (first | (with_reducible exact Below.refl _ _) | (with_reducible assumption) | (with_reducible refine below_over ?_ _ _) | (with_reducible refine Lw.below_alloc ?_ _) | (with_reducible refine Below.drew ?_) | (with_reducible refine below_drewN ?_ _) | (with_reducible refine Below.setCell ?_ ?_ _) | go_size))⟩
              | (simp [intOf]; omega)
        · have el : ((ql : Int) == (pl : Int)) = false := by simp; omega
          clear hhv hlv
          go_quiet (fail)
          all_goals go_wp2
          all_goals go_roundw
          all_goals first
            | exact ⟨k + 1, by omega, by go_num, HV5.out.up (by repeat' (first | (with_reducible exact Below.refl _ _) | (with_reducible assumption) | (with_reducible refine below_over ?_ _ _) | (with_reducible refine Lw.below_alloc ?_ _) | (with_reducible refine Below.drew ?_) | (with_reducible refine below_drewN ?_ _) | (with_reducible refine Below.setCell ?_ ?_ _) | go_size))⟩
            | (simp [intOf]; omega)
    · have hkm : k = m := by omega
      have h1 := HC.out.len HE.out HBD.out.1
      have h2 : 1 ≤ m := by
        have h1 := HL.out
        have h2 := HC.out
        have h3 := HBD.out
        cases hl : l with
        | nil =>
          rw [hl] at h2
          cases h2
          omega
        | cons p l' => rw [hl] at h1; rw [← h1]; simp
      rw [HL.out] at h1
      have m0 : (0 : Int) < (m : Int) := by omega
      have nk : ¬ (k : Int) < (m : Int) := by omega
      have hbd := HBD.out
      have w2 : wrap64 (2 * (n : Int)) = 2 * (n : Int) := IntWalk.wrap64_in _ ⟨by omega, by omega⟩
      have ml : (m : Int) ≤ 2 * (n : Int) := by omega
      obtain ⟨N2, hN2⟩ : ∃ N, 2 * (n : Int) = N := ⟨_, rfl⟩
      rw [hN2] at ml
      have w3 : wrap64 (2 * (n : Int)) = N2 := by rw [hN2]; rw [hN2] at w2; exact w2
      clear hkm h1 h2 hbd w2 hN2 hlt hk
      go_wp2
      go_ret
      exact ⟨ret_b (by first | rfl | (simp [*]; done)), HVr.out.below⟩
namespace piecesFew
open Go.ChangeShapes Go.WideShapes Go.ChangeAt Go.Joins
set_option maxRecDepth 100000 in
theorem lifted (os : Os) (started : os.Started) (H : Type) (enc : TypeId × Value → H) :
    ReturnsInHanded {} Try.checked os 6 .any (Rows.piecesFewSpec.pre6 enc Try.prog Try.f6 Rows.piecesFewRow.domain false) (Rows.piecesFewSpec.post enc Try.prog Try.f6 false true false false) := by
  refine Lw.lifted (C := Try.checked) (B := 4) (by kernel_rfl) os started (by kernel_rfl) Try.func6
    (ChangeSpec.witness6 (enc := enc) (C := Try.checked) false ⟨#[], #[.int .i64 0, .int .u64 0, .int .u64 0], []⟩ 8 (by kernel_rfl) (by kernel_rfl) (by kernel_rfl) (by kernel_rfl)) rfl Try.underlying4 (by kernel_rfl) (by kernel_rfl) (by kernel_rfl) ?_ ?_
  · intro ds h
    rw [Try.params6] at h
    match ds, h with
    | [_, _, _], _ => rfl
  · intro W base args ds p hval hA
    rw [Try.params6] at hA hval
    obtain ⟨v0, vs0, d0, ds0, p0, q0, hargs, rfl, rfl, h0, r0⟩ := trodAll_cons hA
    obtain ⟨v1, vs1, d1, ds1, p1, q1, rfl, rfl, rfl, h1, r1⟩ := trodAll_cons r0
    obtain ⟨v2, vs2, d2, ds2, p2, q2, rfl, rfl, rfl, h2, r2⟩ := trodAll_cons r1
    obtain ⟨rfl, rfl, rfl⟩ := trodAll_nil r2
    obtain rfl : args = #[v0, v1, v2] := by cases args; simp_all
    obtain ⟨a0, rfl, rfl, rfl, w0⟩ := open_int Try.underlying3 (hval 0 3 v0 rfl rfl) h0
    have b0 := Lw.wf_i64 w0
    obtain ⟨a1, rfl, rfl, rfl, w1⟩ := open_int Try.underlying22 (hval 1 22 v1 rfl rfl) h1
    have b1 := Lw.wf_u64 w1
    obtain ⟨a2, rfl, rfl, rfl, w2⟩ := open_int Try.underlying22 (hval 2 22 v2 rfl rfl) h2
    have b2 := Lw.wf_u64 w2
    exact few_law a0 a1 a2 W b0 b1 b2
theorem over : Rows.piecesFewRow.holds Try.pinned (OpenSpec.ofChange Rows.piecesFewSpec) :=
  OpenClaim.holds_of_wide 6 Try.f6 rfl rfl rfl rfl rfl rfl rfl ⟨rfl, rfl, rfl, rfl, rfl⟩ rfl rfl rfl rfl rfl (by kernel_rfl) Try.func6 (by kernel_rfl)
    (of_decide_eq_true (by kernel_rfl)) (by unfold Func.isWrapper; first | (rw [if_pos (by decide +kernel)]; kernel_rfl) | (rw [if_neg (by decide +kernel)]; exact ⟨rfl, rfl⟩))
    (fun os started H enc _ => lifted os started H enc)
theorem proved : Rows.PiecesFewSaid :=
  over
#print axioms proved
end piecesFew
end Go.Proofs.Ytdhljlhecoclfaa.Pcs
