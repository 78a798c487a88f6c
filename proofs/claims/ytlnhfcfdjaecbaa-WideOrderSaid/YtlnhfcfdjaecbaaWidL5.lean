/- The statement WideOrder holds: of two wide numbers that are not the same just one is less, and what is less stays so with the same added, for any three. -/
import Derived.Test.YtlnhfcfdjaecbaaWidShown
import Derived.Test.YtlnhfcfdjaecbaaWidMul
import Derived.Test.YtlnhfcfdjaecbaaGrow
import Derived.Test.YtlnhfcfdjaecbaaLaw
namespace Go.Proofs.Ytlnhfcfdjaecbaa.Wid
open Go.RowKit Lw
set_option linter.unusedVariables false
theorem wide_cells : Try.prog.cellsOf 24 = 2 := by kernel_rfl
theorem wf_i64 {x : Int} (h : (Lit.int .i64 x).wf = true) : -9223372036854775808 ≤ x ∧ x ≤ 9223372036854775807 := by
  have := (Lit.wf_int_iff .i64 x).1 h
  simpa [IntKind.min, IntKind.max, IntKind.bits, IntKind.signed] using this
theorem wf_u64 {x : Int} (h : (Lit.int .u64 x).wf = true) : 0 ≤ x ∧ x ≤ 18446744073709551615 := by
  have := (Lit.wf_int_iff .u64 x).1 h
  simpa [IntKind.min, IntKind.max, IntKind.bits, IntKind.signed] using this
set_option maxRecDepth 100000 in
set_option maxHeartbeats 4000000 in
theorem wideOrder_walk (p q r s t u : Int) (p0 : -9223372036854775808 ≤ p) (p1 : p ≤ 9223372036854775807) (q0 : 0 ≤ q) (q1 : q ≤ 18446744073709551615) (r0 : -9223372036854775808 ≤ r) (r1 : r ≤ 9223372036854775807) (s0 : 0 ≤ s) (s1 : s ≤ 18446744073709551615) (t0 : -9223372036854775808 ≤ t) (t1 : t ≤ 9223372036854775807) (u0 : 0 ≤ u) (u1 : u ≤ 18446744073709551615) (w : World) :
    Calls Try.prog 9 #[.agg #[.int .i64 p, .int .u64 q], .agg #[.int .i64 r, .int .u64 s], .agg #[.int .i64 t, .int .u64 u]] w fun e w' => e = .returned (.bool true) ∧ Below w.heap.size w w' := by
  have f1 : fit (vl p q + vl t u) = true → vl (fh (vl p q + vl t u)) (fl (vl p q + vl t u)) = vl p q + vl t u := fun h => by
    have h2 : -170141183460469231731687303715884105728 ≤ vl p q + vl t u ∧ vl p q + vl t u < 170141183460469231731687303715884105728 := by unfold fit at h; simpa using h
    exact vl_fit _ h2.1 h2.2
  have f2 : fit (vl r s + vl t u) = true → vl (fh (vl r s + vl t u)) (fl (vl r s + vl t u)) = vl r s + vl t u := fun h => by
    have h2 : -170141183460469231731687303715884105728 ≤ vl r s + vl t u ∧ vl r s + vl t u < 170141183460469231731687303715884105728 := by unfold fit at h; simpa using h
    exact vl_fit _ h2.1 h2.2
  rcases Int.lt_trichotomy (vl p q) (vl r s) with h | h | h
  · have g1 : ¬ vl r s < vl p q := by omega
    have g2 : vl r s < vl t u → vl p q < vl t u := fun h2 => by omega
    by_cases hp : p = r
    · subst hp
      have e1 : (q == s) = false := by rw [beq_eq_false_iff_ne]; intro h3; subst h3; omega
      go_enter Try.func9, Try.ntmps9
      go_wp2_with (first
          | (go_at_call 11; (refine (shown_any _).mono ?_); rintro e w' ⟨rfl, hb⟩; obtain ⟨bs, d, rfl⟩ := below_grow hb; clear hb)
          | (go_at_call 26; (with_reducible refine (less_any _ _ _ _ _ (by first | assumption | exact (fh_bd _).1 | exact (fh_bd _).2) (by first | assumption | exact (fh_bd _).1 | exact (fh_bd _).2) (by first | assumption | exact (fl_bd _).1 | exact (fl_bd _).2) (by first | assumption | exact (fl_bd _).1 | exact (fl_bd _).2) (by first | assumption | exact (fh_bd _).1 | exact (fh_bd _).2) (by first | assumption | exact (fh_bd _).1 | exact (fh_bd _).2) (by first | assumption | exact (fl_bd _).1 | exact (fl_bd _).2) (by first | assumption | exact (fl_bd _).1 | exact (fl_bd _).2)).mono ?_); rintro e w' ⟨rfl, hb⟩; obtain ⟨bs, d, rfl⟩ := below_grow hb; clear hb)
          | (go_at_call 12; (with_reducible refine (add_any _ _ _ _ _ (by assumption) (by assumption) (by assumption) (by assumption) (by assumption) (by assumption) (by assumption) (by assumption)).mono ?_); rintro e w' ⟨rfl, hb⟩; obtain ⟨bs, d, rfl⟩ := below_grow hb; clear hb))
      all_goals go_ret
      all_goals refine ⟨rfl, ?_⟩
      all_goals (repeat' (first | (with_reducible exact Below.refl _ _) | (with_reducible refine below_over ?_ _ _) | (with_reducible refine Lw.below_alloc ?_ _) | (with_reducible refine Below.drew ?_) | (with_reducible refine below_drewN ?_ _) | (with_reducible refine Below.setCell ?_ ?_ _) | go_size))
    · have e1 : (p == r) = false := by rw [beq_eq_false_iff_ne]; exact hp
      clear hp
      go_enter Try.func9, Try.ntmps9
      go_wp2_with (first
          | (go_at_call 11; (refine (shown_any _).mono ?_); rintro e w' ⟨rfl, hb⟩; obtain ⟨bs, d, rfl⟩ := below_grow hb; clear hb)
          | (go_at_call 26; (with_reducible refine (less_any _ _ _ _ _ (by first | assumption | exact (fh_bd _).1 | exact (fh_bd _).2) (by first | assumption | exact (fh_bd _).1 | exact (fh_bd _).2) (by first | assumption | exact (fl_bd _).1 | exact (fl_bd _).2) (by first | assumption | exact (fl_bd _).1 | exact (fl_bd _).2) (by first | assumption | exact (fh_bd _).1 | exact (fh_bd _).2) (by first | assumption | exact (fh_bd _).1 | exact (fh_bd _).2) (by first | assumption | exact (fl_bd _).1 | exact (fl_bd _).2) (by first | assumption | exact (fl_bd _).1 | exact (fl_bd _).2)).mono ?_); rintro e w' ⟨rfl, hb⟩; obtain ⟨bs, d, rfl⟩ := below_grow hb; clear hb)
          | (go_at_call 12; (with_reducible refine (add_any _ _ _ _ _ (by assumption) (by assumption) (by assumption) (by assumption) (by assumption) (by assumption) (by assumption) (by assumption)).mono ?_); rintro e w' ⟨rfl, hb⟩; obtain ⟨bs, d, rfl⟩ := below_grow hb; clear hb))
      all_goals go_ret
      all_goals refine ⟨rfl, ?_⟩
      all_goals (repeat' (first | (with_reducible exact Below.refl _ _) | (with_reducible refine below_over ?_ _ _) | (with_reducible refine Lw.below_alloc ?_ _) | (with_reducible refine Below.drew ?_) | (with_reducible refine below_drewN ?_ _) | (with_reducible refine Below.setCell ?_ ?_ _) | go_size))
  · obtain ⟨rfl, rfl⟩ := vl_inj q0 q1 s0 s1 h
    clear h f2
    go_enter Try.func9, Try.ntmps9
    go_wp2_with (first
        | (go_at_call 11; (refine (shown_any _).mono ?_); rintro e w' ⟨rfl, hb⟩; obtain ⟨bs, d, rfl⟩ := below_grow hb; clear hb)
        | (go_at_call 26; (with_reducible refine (less_any _ _ _ _ _ (by first | assumption | exact (fh_bd _).1 | exact (fh_bd _).2) (by first | assumption | exact (fh_bd _).1 | exact (fh_bd _).2) (by first | assumption | exact (fl_bd _).1 | exact (fl_bd _).2) (by first | assumption | exact (fl_bd _).1 | exact (fl_bd _).2) (by first | assumption | exact (fh_bd _).1 | exact (fh_bd _).2) (by first | assumption | exact (fh_bd _).1 | exact (fh_bd _).2) (by first | assumption | exact (fl_bd _).1 | exact (fl_bd _).2) (by first | assumption | exact (fl_bd _).1 | exact (fl_bd _).2)).mono ?_); rintro e w' ⟨rfl, hb⟩; obtain ⟨bs, d, rfl⟩ := below_grow hb; clear hb)
        | (go_at_call 12; (with_reducible refine (add_any _ _ _ _ _ (by assumption) (by assumption) (by assumption) (by assumption) (by assumption) (by assumption) (by assumption) (by assumption)).mono ?_); rintro e w' ⟨rfl, hb⟩; obtain ⟨bs, d, rfl⟩ := below_grow hb; clear hb))
    all_goals go_ret
    all_goals refine ⟨rfl, ?_⟩
    all_goals (repeat' (first | (with_reducible exact Below.refl _ _) | (with_reducible refine below_over ?_ _ _) | (with_reducible refine Lw.below_alloc ?_ _) | (with_reducible refine Below.drew ?_) | (with_reducible refine below_drewN ?_ _) | (with_reducible refine Below.setCell ?_ ?_ _) | go_size))
  · have g1 : ¬ vl p q < vl r s := by omega
    by_cases hp : p = r
    · subst hp
      have e1 : (q == s) = false := by rw [beq_eq_false_iff_ne]; intro h3; subst h3; omega
      go_enter Try.func9, Try.ntmps9
      go_wp2_with (first
          | (go_at_call 11; (refine (shown_any _).mono ?_); rintro e w' ⟨rfl, hb⟩; obtain ⟨bs, d, rfl⟩ := below_grow hb; clear hb)
          | (go_at_call 26; (with_reducible refine (less_any _ _ _ _ _ (by first | assumption | exact (fh_bd _).1 | exact (fh_bd _).2) (by first | assumption | exact (fh_bd _).1 | exact (fh_bd _).2) (by first | assumption | exact (fl_bd _).1 | exact (fl_bd _).2) (by first | assumption | exact (fl_bd _).1 | exact (fl_bd _).2) (by first | assumption | exact (fh_bd _).1 | exact (fh_bd _).2) (by first | assumption | exact (fh_bd _).1 | exact (fh_bd _).2) (by first | assumption | exact (fl_bd _).1 | exact (fl_bd _).2) (by first | assumption | exact (fl_bd _).1 | exact (fl_bd _).2)).mono ?_); rintro e w' ⟨rfl, hb⟩; obtain ⟨bs, d, rfl⟩ := below_grow hb; clear hb)
          | (go_at_call 12; (with_reducible refine (add_any _ _ _ _ _ (by assumption) (by assumption) (by assumption) (by assumption) (by assumption) (by assumption) (by assumption) (by assumption)).mono ?_); rintro e w' ⟨rfl, hb⟩; obtain ⟨bs, d, rfl⟩ := below_grow hb; clear hb))
      all_goals go_ret
      all_goals refine ⟨rfl, ?_⟩
      all_goals (repeat' (first | (with_reducible exact Below.refl _ _) | (with_reducible refine below_over ?_ _ _) | (with_reducible refine Lw.below_alloc ?_ _) | (with_reducible refine Below.drew ?_) | (with_reducible refine below_drewN ?_ _) | (with_reducible refine Below.setCell ?_ ?_ _) | go_size))
    · have e1 : (p == r) = false := by rw [beq_eq_false_iff_ne]; exact hp
      clear hp
      go_enter Try.func9, Try.ntmps9
      go_wp2_with (first
          | (go_at_call 11; (refine (shown_any _).mono ?_); rintro e w' ⟨rfl, hb⟩; obtain ⟨bs, d, rfl⟩ := below_grow hb; clear hb)
          | (go_at_call 26; (with_reducible refine (less_any _ _ _ _ _ (by first | assumption | exact (fh_bd _).1 | exact (fh_bd _).2) (by first | assumption | exact (fh_bd _).1 | exact (fh_bd _).2) (by first | assumption | exact (fl_bd _).1 | exact (fl_bd _).2) (by first | assumption | exact (fl_bd _).1 | exact (fl_bd _).2) (by first | assumption | exact (fh_bd _).1 | exact (fh_bd _).2) (by first | assumption | exact (fh_bd _).1 | exact (fh_bd _).2) (by first | assumption | exact (fl_bd _).1 | exact (fl_bd _).2) (by first | assumption | exact (fl_bd _).1 | exact (fl_bd _).2)).mono ?_); rintro e w' ⟨rfl, hb⟩; obtain ⟨bs, d, rfl⟩ := below_grow hb; clear hb)
          | (go_at_call 12; (with_reducible refine (add_any _ _ _ _ _ (by assumption) (by assumption) (by assumption) (by assumption) (by assumption) (by assumption) (by assumption) (by assumption)).mono ?_); rintro e w' ⟨rfl, hb⟩; obtain ⟨bs, d, rfl⟩ := below_grow hb; clear hb))
      all_goals go_ret
      all_goals refine ⟨rfl, ?_⟩
      all_goals (repeat' (first | (with_reducible exact Below.refl _ _) | (with_reducible refine below_over ?_ _ _) | (with_reducible refine Lw.below_alloc ?_ _) | (with_reducible refine Below.drew ?_) | (with_reducible refine below_drewN ?_ _) | (with_reducible refine Below.setCell ?_ ?_ _) | go_size))
namespace wideOrder
open Go.ChangeShapes Go.WideShapes Go.ChangeAt Go.Joins
set_option maxRecDepth 100000 in
theorem lifted (os : Os) (started : os.Started) (H : Type) (enc : TypeId × Value → H) :
    ReturnsInHanded {} Try.checked os 9 .any (Rows.wideOrderSpec.pre6 enc Try.prog Try.f9 Rows.wideOrderRow.domain false) (Rows.wideOrderSpec.post enc Try.prog Try.f9 false true false false) := by
  refine Lw.lifted (C := Try.checked) (B := 4) (by kernel_rfl) os started (by kernel_rfl) Try.func9
    (ChangeSpec.witness6 (enc := enc) (C := Try.checked) false ⟨#[], #[.agg #[.int .i64 0, .int .u64 0], .agg #[.int .i64 0, .int .u64 0], .agg #[.int .i64 0, .int .u64 0]], []⟩ 8 (by kernel_rfl) (by kernel_rfl) (by kernel_rfl) (by kernel_rfl)) rfl Try.underlying4 (by kernel_rfl) (by kernel_rfl) (by kernel_rfl) ?_ ?_
  · intro ds h
    rw [Try.params9] at h
    match ds, h with
    | [_, _, _], _ => rfl
  · intro W base args ds p hval hA
    rw [Try.params9] at hA hval
    obtain ⟨v0, vs0, d0, ds0, p0, q0, hargs, rfl, rfl, h0, r0⟩ := trodAll_cons hA
    obtain ⟨v1, vs1, d1, ds1, p1, q1, rfl, rfl, rfl, h1, r1⟩ := trodAll_cons r0
    obtain ⟨v2, vs2, d2, ds2, p2, q2, rfl, rfl, rfl, h2, r2⟩ := trodAll_cons r1
    obtain ⟨rfl, rfl, rfl⟩ := trodAll_nil r2
    obtain rfl : args = #[v0, v1, v2] := by cases args; simp_all
    obtain ⟨c0, e0, y0, z0, m0, rfl, rfl, rfl, hy0, hz0⟩ := open_agg2 Try.underlying24 (by kernel_rfl) wide_cells (hval 0 24 v0 rfl rfl) h0
    obtain ⟨a0, ea0, rfl, wa0⟩ := DataW.trod_int Try.underlying2 hy0
    obtain ⟨b0, eb0, rfl, wb0⟩ := DataW.trod_int Try.underlying22 hz0
    simp at ea0 eb0; subst ea0 eb0
    have g0 := wf_i64 wa0
    have k0 := wf_u64 wb0
    obtain ⟨c1, e1, y1, z1, m1, rfl, rfl, rfl, hy1, hz1⟩ := open_agg2 Try.underlying24 (by kernel_rfl) wide_cells (hval 1 24 v1 rfl rfl) h1
    obtain ⟨a1, ea1, rfl, wa1⟩ := DataW.trod_int Try.underlying2 hy1
    obtain ⟨b1, eb1, rfl, wb1⟩ := DataW.trod_int Try.underlying22 hz1
    simp at ea1 eb1; subst ea1 eb1
    have g1 := wf_i64 wa1
    have k1 := wf_u64 wb1
    obtain ⟨c2, e2, y2, z2, m2, rfl, rfl, rfl, hy2, hz2⟩ := open_agg2 Try.underlying24 (by kernel_rfl) wide_cells (hval 2 24 v2 rfl rfl) h2
    obtain ⟨a2, ea2, rfl, wa2⟩ := DataW.trod_int Try.underlying2 hy2
    obtain ⟨b2, eb2, rfl, wb2⟩ := DataW.trod_int Try.underlying22 hz2
    simp at ea2 eb2; subst ea2 eb2
    have g2 := wf_i64 wa2
    have k2 := wf_u64 wb2
    exact wideOrder_walk a0 b0 a1 b1 a2 b2 g0.1 g0.2 k0.1 k0.2 g1.1 g1.2 k1.1 k1.2 g2.1 g2.2 k2.1 k2.2 W
theorem over : Rows.wideOrderRow.holds Try.pinned (OpenSpec.ofChange Rows.wideOrderSpec) :=
  OpenClaim.holds_of_wide 9 Try.f9 rfl rfl rfl rfl rfl rfl rfl ⟨rfl, rfl, rfl, rfl, rfl⟩ rfl rfl rfl rfl rfl (by kernel_rfl) Try.func9 (by kernel_rfl)
    (of_decide_eq_true (by kernel_rfl)) (by unfold Func.isWrapper; first | (rw [if_pos (by decide +kernel)]; kernel_rfl) | (rw [if_neg (by decide +kernel)]; exact ⟨rfl, rfl⟩))
    (fun os started H enc _ => lifted os started H enc)
theorem proved : Rows.WideOrderSaid :=
  over
#print axioms proved
end wideOrder
end Go.Proofs.Ytlnhfcfdjaecbaa.Wid
