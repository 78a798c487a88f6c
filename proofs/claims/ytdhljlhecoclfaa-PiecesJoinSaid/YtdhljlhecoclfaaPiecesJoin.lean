/- The statement PiecesJoin of layer 14 holds: the pieces of a span follow each other without a gap. Printed by wip/gen/pcslaws.py. -/
import Derived.Test.YtdhljlhecoclfaaPcsAt
import Derived.Deep.LoopGhost
import Derived.Deep.RegionHeld3
import Derived.Deep.DeepCutAuto
import Derived.Deep.QuietTactic
import Derived.BigQuiet
namespace Go.Proofs.Ytdhljlhecoclfaa.Pcs
open Go Go.RowKit Lw
set_option linter.unusedVariables false
set_option linter.unusedSimpArgs false
set_option maxRecDepth 100000 in
set_option maxHeartbeats 4000000 in
theorem join_law (b x y : Int) (w : World) (b0 : -9223372036854775808 ≤ b ∧ b ≤ 9223372036854775807) (x0 : 0 ≤ x ∧ x ≤ 18446744073709551615) (y0 : 0 ≤ y ∧ y ≤ 18446744073709551615) :
    Calls Try.prog 5 #[.int .i64 b, .int .u64 x, .int .u64 y] w fun e w' => e = .returned (.bool true) ∧ Below w.heap.size w w' := by
  have HBX : Hid (Have w w []) := Lib.hid (Below.refl _ _)
  go_enter Try.func5, Try.ntmps5
  go_upto_region 4 with (first
    | (go_at_call 10; (with_reducible refine (ccov_at n lo hi HBD.out _).mono ?_); rintro e w3 ⟨A, m, cap, l, rfl, h1, h2, hb, h4, h5⟩; have HV3 := Lib.hid (HV2.out.push (pcT A m cap (ints l)) hb h1 h2); have HC := Lib.hid h4; have HL := Lib.hid h5; clear h1 h2 hb h4 h5)
    | (go_at_call 16; (with_reducible refine (right_any b x y _ b0 x0.1 x0.2 y0.1 y0.2).mono ?_); rintro e w2 ⟨n, lo, hi, rfl, hbd, hb⟩; have HV2 := Lib.hid (HV1.out.up hb); have HBD := Lib.hid hbd; clear hb hbd)
    | (go_at_call 9; (with_reducible refine (shown_any _).mono ?_); rintro e w1 ⟨rfl, hb⟩; have HV1 := Lib.hid (HBX.out.up hb); clear hb))
  have hm0 : 1 ≤ m := by
    have h1 := HL.out
    have h2 := HC.out
    have h3 := HBD.out
    cases hl : l with
    | nil =>
      rw [hl] at h2
      cases h2
      omega
    | cons p l' => rw [hl] at h1; rw [← h1]; simp
  have hmb : ((m : Int) == 0) = false := by simp; omega
  have hcm := (pcI HV3.out.i0).nc
  have hcx := (pcI HV3.out.i0).cm
  unfold maxLen at hcx
  clear hm0 b0 x0 y0
  go_wp2
  clear hmb
  go_loopw [12, 13] (fun nv iv wr => ∃ (k nx : Nat), k ≤ m ∧ nv = .int .u64 nx ∧ iv = .int .i64 k ∧ Cov n (hi + 1) nx (l.drop k) ∧ Below w3.heap.size w3 wr) (fun _ iv _ => m - (intOf iv).toNat)
  case atStart => exact ⟨0, lo, Nat.zero_le _, rfl, rfl, HC.out, Below.refl _ _⟩
  case round =>
    obtain ⟨k, nx, hk, rfl, rfl, hcv, hbel⟩ := hrel
    have HB := Lib.hid hbel
    have HCV := Lib.hid hcv
    clear hcv hbel
    by_cases hlt : k < m
    · have hkl : k < l.length := by have := HL.out; omega
      obtain ⟨p, hp⟩ : ∃ p, l[k]? = some p := ⟨_, List.getElem?_eq_getElem hkl⟩
      have hdr : l.drop k = p :: l.drop (k + 1) := by
        rw [List.drop_eq_getElem_cons hkl]
        congr 1
        have h1 := (List.getElem?_eq_some_iff.1 hp).2
        exact h1
      have hc := HCV.out
      rw [hdr] at hc
      obtain ⟨c1, c2, c3, c4⟩ := hc.next
      have HC4 := Lib.hid c4
      have h2n : hi + 1 ≤ 2 ^ n := by have := HBD.out; omega
      have hpp := pow_pos p.1
      have CS := Lib.hid (fun w => cspan_at n p.1 p.2 ⟨HBD.out.1, HBD.out.2.1⟩ c2 (by omega) w)
      rw [c1] at CS
      obtain ⟨E, hE⟩ : ∃ E, nx + 2 ^ p.1 - 1 = E := ⟨_, rfl⟩
      obtain ⟨E2, hE2⟩ : ∃ E2, nx + 2 ^ p.1 = E2 := ⟨_, rfl⟩
      rw [hE] at CS
      rw [hE2] at HC4
      have hEE : E + 1 = E2 := by omega
      have hxe : nx ≤ E := by omega
      have h60 := p2_bd (show n ≤ 60 by have := HBD.out; omega)
      unfold p2 at h60
      have wE : IntKind.u64.wrap ((E : Int) + 1) = E2 := by rw [show (E : Int) + 1 = (E2 : Int) by omega]; exact u64_in (by omega) (by omega)
      have nlt : ¬ (E : Int) < (nx : Int) := by omega
      obtain ⟨ad, g, q, rfl, had, d1, d2⟩ := ((pcI HV3.out.i0).up HB.out).two (ints_get hp)
      obtain ⟨pl, pi⟩ := p
      simp only at d1 d2 CS
      have hkm : (k : Int) < (m : Int) := by omega
      clear hp hdr hc c1 c2 c3 c4 h2n hpp hE hE2 hEE h60 hkl hxe
      go_wp2_with (go_at_call 13; (with_reducible refine (CS.out _).mono ?_); rintro e w4 ⟨rfl, hb⟩; have HB4 := Lib.hid (below_call HB.out hb (Nat.le_refl _)); clear hb)
      go_roundw
      case rel => exact ⟨k + 1, E2, by omega, by go_num, by go_num, HC4.out, HB4.out⟩
      case measure => simp [intOf]; omega
    · have hkm : k = m := by omega
      have hnx : nx = hi + 1 := by
        have h1 := HCV.out
        rw [List.drop_of_length_le (by have := HL.out; omega)] at h1
        cases h1
        rfl
      have h60 := p2_bd (show n ≤ 60 by have := HBD.out; omega)
      unfold p2 at h60
      have wE : IntKind.u64.wrap ((hi : Int) + 1) = nx := by rw [hnx, show (hi : Int) + 1 = ((hi + 1 : Nat) : Int) by omega]; exact u64_in (by omega) (by have := HBD.out; omega)
      have nlt : ¬ (k : Int) < (m : Int) := by omega
      clear hnx h60 hkm hlt hk
      go_wp2
      go_ret
      exact ⟨ret_b (by first | rfl | (simp [*]; done)), (HV3.out.up HB.out).below⟩
namespace piecesJoin
open Go.ChangeShapes Go.WideShapes Go.ChangeAt Go.Joins
set_option maxRecDepth 100000 in
theorem lifted (os : Os) (started : os.Started) (H : Type) (enc : TypeId × Value → H) :
    ReturnsInHanded {} Try.checked os 5 .any (Rows.piecesJoinSpec.pre6 enc Try.prog Try.f5 Rows.piecesJoinRow.domain false) (Rows.piecesJoinSpec.post enc Try.prog Try.f5 false true false false) := by
  refine Lw.lifted (C := Try.checked) (B := 4) (by kernel_rfl) os started (by kernel_rfl) Try.func5
    (ChangeSpec.witness6 (enc := enc) (C := Try.checked) false ⟨#[], #[.int .i64 0, .int .u64 0, .int .u64 0], []⟩ 8 (by kernel_rfl) (by kernel_rfl) (by kernel_rfl) (by kernel_rfl)) rfl Try.underlying4 (by kernel_rfl) (by kernel_rfl) (by kernel_rfl) ?_ ?_
  · intro ds h
    rw [Try.params5] at h
    match ds, h with
    | [_, _, _], _ => rfl
  · intro W base args ds p hval hA
    rw [Try.params5] at hA hval
    obtain ⟨v0, vs0, d0, ds0, p0, q0, hargs, rfl, rfl, h0, r0⟩ := trodAll_cons hA
    obtain ⟨v1, vs1, d1, ds1, p1, q1, rfl, rfl, rfl, h1, r1⟩ := trodAll_cons r0
    obtain ⟨v2, vs2, d2, ds2, p2, q2, rfl, rfl, rfl, h2, r2⟩ := trodAll_cons r1
    obtain ⟨rfl, rfl, rfl⟩ := trodAll_nil r2
    obtain rfl : args = #[v0, v1, v2] := by cases args; simp_all
    obtain ⟨a0, rfl, rfl, rfl, w0⟩ := open_int Try.underlying3 (hval 0 3 v0 rfl rfl) h0
    have b0 := Lw.wf_i64 w0
    obtain ⟨a1, rfl, rfl, rfl, w1⟩ := open_int Try.underlying22 (hval 1 22 v1 rfl rfl) h1
    have b1 := Lw.wf_u64 w1
    obtain ⟨a2, rfl, rfl, rfl, w2⟩ := open_int Try.underlying22 (hval 2 22 v2 rfl rfl) h2
    have b2 := Lw.wf_u64 w2
    exact join_law a0 a1 a2 W b0 b1 b2
theorem over : Rows.piecesJoinRow.holds Try.pinned (OpenSpec.ofChange Rows.piecesJoinSpec) :=
  OpenClaim.holds_of_wide 5 Try.f5 rfl rfl rfl rfl rfl rfl rfl ⟨rfl, rfl, rfl, rfl, rfl⟩ rfl rfl rfl rfl rfl (by kernel_rfl) Try.func5 (by kernel_rfl)
    (of_decide_eq_true (by kernel_rfl)) (by unfold Func.isWrapper; first | (rw [if_pos (by decide +kernel)]; kernel_rfl) | (rw [if_neg (by decide +kernel)]; exact ⟨rfl, rfl⟩))
    (fun os started H enc _ => lifted os started H enc)
theorem proved : Rows.PiecesJoinSaid :=
  over
#print axioms proved
end piecesJoin
end Go.Proofs.Ytdhljlhecoclfaa.Pcs
