/- The statement PiecesRise of layer 14 holds: the levels of a span's pieces rise, and then fall. Printed by wip/gen/pcslaws.py. -/
import Derived.Test.YtdhljlhecoclfaaPcsAt
import Derived.Deep.LoopGhost
import Derived.Deep.RegionHeld3
import Derived.Deep.DeepCutAuto
import Derived.Deep.QuietTactic
import Derived.BigQuiet
namespace Go.Proofs.Ytdhljlhecoclfaa.Pcs
open Go Go.RowKit Lw
set_option linter.unusedVariables false
set_option linter.unusedSimpArgs false
set_option maxRecDepth 100000 in
set_option maxHeartbeats 4000000 in
theorem rise_law (b x y : Int) (w : World) (b0 : -9223372036854775808 ≤ b ∧ b ≤ 9223372036854775807) (x0 : 0 ≤ x ∧ x ≤ 18446744073709551615) (y0 : 0 ≤ y ∧ y ≤ 18446744073709551615) :
    Calls Try.prog 7 #[.int .i64 b, .int .u64 x, .int .u64 y] w fun e w' => e = .returned (.bool true) ∧ Below w.heap.size w w' := by
  have HBX : Hid (Have w w []) := Lib.hid (Below.refl _ _)
  go_enter Try.func7, Try.ntmps7
  go_wp2_with (first
    | (go_at_call 10; (with_reducible refine (ccov_at n lo hi HBD.out _).mono ?_); rintro e w3 ⟨A, m, cap, l, rfl, h1, h2, hb, h4, h5⟩; have HV3 := Lib.hid (HV2.out.push (pcT A m cap (ints l)) hb h1 h2); have HC := Lib.hid h4; have HL := Lib.hid h5; clear h1 h2 hb h4 h5)
    | (go_at_call 16; (with_reducible refine (right_any b x y _ b0 x0.1 x0.2 y0.1 y0.2).mono ?_); rintro e w2 ⟨n, lo, hi, rfl, hbd, hb⟩; have HV2 := Lib.hid (HV1.out.up hb); have HBD := Lib.hid hbd; clear hb hbd)
    | (go_at_call 9; (with_reducible refine (shown_any _).mono ?_); rintro e w1 ⟨rfl, hb⟩; have HV1 := Lib.hid (HBX.out.up hb); clear hb))
  obtain ⟨a, ta, tb⟩ := HC.out.turn (by have := HBD.out; omega)
  have HTA := Lib.hid ta
  have HTB := Lib.hid tb
  have hcm := (pcI HV3.out.i0).nc
  have hcx := (pcI HV3.out.i0).cm
  unfold maxLen at hcx
  clear b0 x0 y0 ta tb
  go_loopw [12, 13] (fun fv iv wr => ∃ (f : Bool) (j k : Nat), k = j + 1 ∧ (j < m ∨ j = 0) ∧ fv = .bool f ∧ iv = .int .i64 k ∧ (f = true → a ≤ j) ∧ Below w3.heap.size w3 wr) (fun _ iv _ => m + 1 - (intOf iv).toNat)
  case atStart => exact ⟨false, 0, 1, rfl, .inr rfl, rfl, rfl, fun h => by simp at h, Below.refl _ _⟩
  case round =>
    obtain ⟨f, j, k, hjk, hj0, rfl, rfl, hf, hbel⟩ := hrel
    have HB := Lib.hid hbel
    have HF := Lib.hid hf
    have HJ := Lib.hid hjk
    clear hf hbel
    by_cases hlt : k < m
    · obtain ⟨p, hp⟩ : ∃ p, l[j]? = some p := ⟨_, List.getElem?_eq_getElem (by have := HL.out; omega)⟩
      obtain ⟨q, hq⟩ : ∃ q, l[k]? = some q := ⟨_, List.getElem?_eq_getElem (by have := HL.out; omega)⟩
      have hq2 := hq
      rw [hjk] at hq2
      have hup : j + 1 < a → p.1 < q.1 := fun h => HTA.out j p q h hp hq2
      have hdn : a ≤ j → q.1 < p.1 := fun h => HTB.out j p q h hp hq2
      obtain ⟨ad, g, o, rfl, had, d1, d2⟩ := ((pcI HV3.out.i0).up HB.out).two (ints_get hp)
      obtain ⟨ad2, g2, o2, e2, had2, d3, d4⟩ := ((pcI HV3.out.i0).up HB.out).two (ints_get hq)
      injection e2 with e2
      subst e2
      obtain ⟨pl, pi⟩ := p
      obtain ⟨ql, qi⟩ := q
      simp only at d1 d2 d3 d4 hup hdn
      have wk : wrap64 ((k : Int) - 1) = (j : Int) := by rw [show (k : Int) - 1 = (j : Int) by omega]; exact IntWalk.wrap64_in _ ⟨by omega, by omega⟩
      have wk2 : IntKind.i64.wrap ((k : Int) - 1) = (j : Int) := by rw [show (k : Int) - 1 = (j : Int) by omega]; exact IntWalk.i64_in _ ⟨by omega, by omega⟩
      have hkm : (k : Int) < (m : Int) := by omega
      have hjm : (j : Int) < (m : Int) := by omega
      by_cases hu : (pl : Int) < (ql : Int)
      · have hff : f = false := by
          cases f with
          | false => rfl
          | true => exact absurd (hdn (HF.out rfl)) (by omega)
        subst hff
        have du : decide ((pl : Int) < (ql : Int)) = true := decide_eq_true hu
        clear hup hdn hp hq hq2 hjk hj0
        go_wp2
        go_quiet (fail)
        all_goals go_wp2
        all_goals go_roundw
        all_goals first
          | exact ⟨false, k, k + 1, rfl, .inl hlt, rfl, by go_num, fun h => by simp at h, (by have hb9 := HB.out; repeat' (first | (with_reducible exact Below.refl _ _) | (with_reducible assumption) | (with_reducible refine below_over ?_ _ _) | (with_reducible refine Lw.below_alloc ?_ _) | (with_reducible refine Below.drew ?_) | (with_reducible refine below_drewN ?_ _) | (with_reducible refine Below.setCell ?_ ?_ _) | go_size))⟩
          | (simp [intOf]; omega)
      · have ha : a ≤ k := by
          rcases Nat.lt_or_ge (j + 1) a with h | h
          · exact absurd (hup h) (by omega)
          · omega
        have HA := Lib.hid ha
        have du : decide ((pl : Int) < (ql : Int)) = false := decide_eq_false hu
        clear hup hdn hp hq hq2 hjk hj0 ha
        go_wp2
        go_quiet (fail)
        all_goals cases f
        all_goals go_wp2
        all_goals go_roundw
        all_goals first
          | exact ⟨true, k, k + 1, rfl, .inl hlt, rfl, by go_num, fun _ => HA.out, (by have hb9 := HB.out; repeat' (first | (with_reducible exact Below.refl _ _) | (with_reducible assumption) | (with_reducible refine below_over ?_ _ _) | (with_reducible refine Lw.below_alloc ?_ _) | (with_reducible refine Below.drew ?_) | (with_reducible refine below_drewN ?_ _) | (with_reducible refine Below.setCell ?_ ?_ _) | go_size))⟩
          | (simp [intOf]; omega)
    · have nlt : ¬ (k : Int) < (m : Int) := by omega
      clear hjk hj0
      go_wp2
      go_ret
      exact ⟨ret_b (by first | rfl | (simp [*]; done)), (HV3.out.up HB.out).below⟩
namespace piecesRise
open Go.ChangeShapes Go.WideShapes Go.ChangeAt Go.Joins
set_option maxRecDepth 100000 in
theorem lifted (os : Os) (started : os.Started) (H : Type) (enc : TypeId × Value → H) :
    ReturnsInHanded {} Try.checked os 7 .any (Rows.piecesRiseSpec.pre6 enc Try.prog Try.f7 Rows.piecesRiseRow.domain false) (Rows.piecesRiseSpec.post enc Try.prog Try.f7 false true false false) := by
  refine Lw.lifted (C := Try.checked) (B := 4) (by kernel_rfl) os started (by kernel_rfl) Try.func7
    (ChangeSpec.witness6 (enc := enc) (C := Try.checked) false ⟨#[], #[.int .i64 0, .int .u64 0, .int .u64 0], []⟩ 8 (by kernel_rfl) (by kernel_rfl) (by kernel_rfl) (by kernel_rfl)) rfl Try.underlying4 (by kernel_rfl) (by kernel_rfl) (by kernel_rfl) ?_ ?_
  · intro ds h
    rw [Try.params7] at h
    match ds, h with
    | [_, _, _], _ => rfl
  · intro W base args ds p hval hA
    rw [Try.params7] at hA hval
    obtain ⟨v0, vs0, d0, ds0, p0, q0, hargs, rfl, rfl, h0, r0⟩ := trodAll_cons hA
    obtain ⟨v1, vs1, d1, ds1, p1, q1, rfl, rfl, rfl, h1, r1⟩ := trodAll_cons r0
    obtain ⟨v2, vs2, d2, ds2, p2, q2, rfl, rfl, rfl, h2, r2⟩ := trodAll_cons r1
    obtain ⟨rfl, rfl, rfl⟩ := trodAll_nil r2
    obtain rfl : args = #[v0, v1, v2] := by cases args; simp_all
    obtain ⟨a0, rfl, rfl, rfl, w0⟩ := open_int Try.underlying3 (hval 0 3 v0 rfl rfl) h0
    have b0 := Lw.wf_i64 w0
    obtain ⟨a1, rfl, rfl, rfl, w1⟩ := open_int Try.underlying22 (hval 1 22 v1 rfl rfl) h1
    have b1 := Lw.wf_u64 w1
    obtain ⟨a2, rfl, rfl, rfl, w2⟩ := open_int Try.underlying22 (hval 2 22 v2 rfl rfl) h2
    have b2 := Lw.wf_u64 w2
    exact rise_law a0 a1 a2 W b0 b1 b2
theorem over : Rows.piecesRiseRow.holds Try.pinned (OpenSpec.ofChange Rows.piecesRiseSpec) :=
  OpenClaim.holds_of_wide 7 Try.f7 rfl rfl rfl rfl rfl rfl rfl ⟨rfl, rfl, rfl, rfl, rfl⟩ rfl rfl rfl rfl rfl (by kernel_rfl) Try.func7 (by kernel_rfl)
    (of_decide_eq_true (by kernel_rfl)) (by unfold Func.isWrapper; first | (rw [if_pos (by decide +kernel)]; kernel_rfl) | (rw [if_neg (by decide +kernel)]; exact ⟨rfl, rfl⟩))
    (fun os started H enc _ => lifted os started H enc)
theorem proved : Rows.PiecesRiseSaid :=
  over
#print axioms proved
end piecesRise
end Go.Proofs.Ytdhljlhecoclfaa.Pcs
