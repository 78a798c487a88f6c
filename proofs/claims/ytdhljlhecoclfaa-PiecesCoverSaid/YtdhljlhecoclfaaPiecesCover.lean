/- The statement PiecesCover of layer 14 holds: the pieces of a span are what the document says. Printed by wip/gen/pcslaws.py. -/
import Derived.Test.YtdhljlhecoclfaaPcsLawA
import Derived.Deep.LoopGhost
import Derived.Deep.RegionHeld3
import Derived.Deep.DeepCutAuto
import Derived.Deep.QuietTactic
import Derived.BigQuiet
namespace Go.Proofs.Ytdhljlhecoclfaa.Pcs
open Go Go.RowKit Lw
set_option linter.unusedVariables false
set_option linter.unusedSimpArgs false
set_option maxRecDepth 100000 in
set_option maxHeartbeats 4000000 in
theorem cover_law (b x y : Int) (w : World) (b0 : -9223372036854775808 ≤ b ∧ b ≤ 9223372036854775807) (x0 : 0 ≤ x ∧ x ≤ 18446744073709551615) (y0 : 0 ≤ y ∧ y ≤ 18446744073709551615) :
    Calls Try.prog 3 #[.int .i64 b, .int .u64 x, .int .u64 y] w fun e w' => e = .returned (.bool true) ∧ Below w.heap.size w w' := by
  obtain ⟨K, hK⟩ : ∃ K, okC b x y = K := ⟨_, rfl⟩
  have CC := Lib.hid (fun w => ccover_any b x y w b0.1 b0.2 x0.1 x0.2 y0.1 y0.2)
  have DD := Lib.hid (fun w => rcover_any b x y w b0.1 b0.2 x0.1 x0.2 y0.1 y0.2)
  unfold CovR at CC DD
  rw [hK] at CC DD
  have HBX : Hid (Have w w []) := Lib.hid (Below.refl _ _)
  clear b0 x0 y0 hK
  go_enter Try.func3, Try.ntmps3
  go_wp2_with (first
    | (go_at_call 12; (with_reducible refine (psame_any A A2 _ _ _ _ _ _ _ (pcI HV3.out.i1) (pcI HV3.out.i0)).mono ?_); rintro e w4 ⟨rfl, hb⟩; have HV4 := Lib.hid (HV3.out.up hb); have eq4 := HE.out; clear hb)
    | (go_at_call 11; (with_reducible refine (DD.out _).mono ?_); rintro e w3 ⟨A2, n2, cap2, l2, rfl, h1, h2, hb, h4, h5⟩; have HV3 := Lib.hid (HV2.out.push (pcT A2 n2 cap2 (ints l2)) hb h1 h2); have HE : Hid (decide (ints l = ints l2) = true) := Lib.hid (decide_eq_true (by cases K with | true => rw [(HL.out.1 rfl).uniq (h4 rfl)] | false => rw [HL.out.2 rfl, h5 rfl])); clear h1 h2 hb h4 h5)
    | (go_at_call 10; (with_reducible refine (CC.out _).mono ?_); rintro e w2 ⟨A, n, cap, l, rfl, h1, h2, hb, h4, h5⟩; have HV2 := Lib.hid (HV1.out.push (pcT A n cap (ints l)) hb h1 h2); have HL := Lib.hid (And.intro h4 h5); clear h1 h2 hb h4 h5)
    | (go_at_call 9; (with_reducible refine (shown_any _).mono ?_); rintro e w1 ⟨rfl, hb⟩; have HV1 := Lib.hid (HBX.out.up hb); clear hb))
  go_ret
  exact ⟨ret_b (by first | rfl | (simp [*]; done)), HV4.out.below⟩
namespace piecesCover
open Go.ChangeShapes Go.WideShapes Go.ChangeAt Go.Joins
set_option maxRecDepth 100000 in
theorem lifted (os : Os) (started : os.Started) (H : Type) (enc : TypeId × Value → H) :
    ReturnsInHanded {} Try.checked os 3 .any (Rows.piecesCoverSpec.pre6 enc Try.prog Try.f3 Rows.piecesCoverRow.domain false) (Rows.piecesCoverSpec.post enc Try.prog Try.f3 false true false false) := by
  refine Lw.lifted (C := Try.checked) (B := 4) (by kernel_rfl) os started (by kernel_rfl) Try.func3
    (ChangeSpec.witness6 (enc := enc) (C := Try.checked) false ⟨#[], #[.int .i64 0, .int .u64 0, .int .u64 0], []⟩ 8 (by kernel_rfl) (by kernel_rfl) (by kernel_rfl) (by kernel_rfl)) rfl Try.underlying4 (by kernel_rfl) (by kernel_rfl) (by kernel_rfl) ?_ ?_
  · intro ds h
    rw [Try.params3] at h
    match ds, h with
    | [_, _, _], _ => rfl
  · intro W base args ds p hval hA
    rw [Try.params3] at hA hval
    obtain ⟨v0, vs0, d0, ds0, p0, q0, hargs, rfl, rfl, h0, r0⟩ := trodAll_cons hA
    obtain ⟨v1, vs1, d1, ds1, p1, q1, rfl, rfl, rfl, h1, r1⟩ := trodAll_cons r0
    obtain ⟨v2, vs2, d2, ds2, p2, q2, rfl, rfl, rfl, h2, r2⟩ := trodAll_cons r1
    obtain ⟨rfl, rfl, rfl⟩ := trodAll_nil r2
    obtain rfl : args = #[v0, v1, v2] := by cases args; simp_all
    obtain ⟨a0, rfl, rfl, rfl, w0⟩ := open_int Try.underlying3 (hval 0 3 v0 rfl rfl) h0
    have b0 := Lw.wf_i64 w0
    obtain ⟨a1, rfl, rfl, rfl, w1⟩ := open_int Try.underlying22 (hval 1 22 v1 rfl rfl) h1
    have b1 := Lw.wf_u64 w1
    obtain ⟨a2, rfl, rfl, rfl, w2⟩ := open_int Try.underlying22 (hval 2 22 v2 rfl rfl) h2
    have b2 := Lw.wf_u64 w2
    exact cover_law a0 a1 a2 W b0 b1 b2
theorem over : Rows.piecesCoverRow.holds Try.pinned (OpenSpec.ofChange Rows.piecesCoverSpec) :=
  OpenClaim.holds_of_wide 3 Try.f3 rfl rfl rfl rfl rfl rfl rfl ⟨rfl, rfl, rfl, rfl, rfl⟩ rfl rfl rfl rfl rfl (by kernel_rfl) Try.func3 (by kernel_rfl)
    (of_decide_eq_true (by kernel_rfl)) (by unfold Func.isWrapper; first | (rw [if_pos (by decide +kernel)]; kernel_rfl) | (rw [if_neg (by decide +kernel)]; exact ⟨rfl, rfl⟩))
    (fun os started H enc _ => lifted os started H enc)
theorem proved : Rows.PiecesCoverSaid :=
  over
#print axioms proved
end piecesCover
end Go.Proofs.Ytdhljlhecoclfaa.Pcs
