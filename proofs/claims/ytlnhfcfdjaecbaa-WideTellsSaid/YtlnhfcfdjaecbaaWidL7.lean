/- The statement WideTells holds: a wide number as a text and as one of sixty-four bits is what the document says, and which of two is less, too, for any two numbers. -/
import Derived.Test.YtlnhfcfdjaecbaaWidShown
import Derived.Test.YtlnhfcfdjaecbaaWidMul
import Derived.Test.YtlnhfcfdjaecbaaGrow
import Derived.Test.YtlnhfcfdjaecbaaLaw
import Derived.Test.YtlnhfcfdjaecbaaWidRTxt
namespace Go.Proofs.Ytlnhfcfdjaecbaa.Wid
open Go.RowKit Lw
set_option linter.unusedVariables false
theorem wide_cells : Try.prog.cellsOf 24 = 2 := by kernel_rfl
theorem wf_i64 {x : Int} (h : (Lit.int .i64 x).wf = true) : -9223372036854775808 ≤ x ∧ x ≤ 9223372036854775807 := by
  have := (Lit.wf_int_iff .i64 x).1 h
  simpa [IntKind.min, IntKind.max, IntKind.bits, IntKind.signed] using this
theorem wf_u64 {x : Int} (h : (Lit.int .u64 x).wf = true) : 0 ≤ x ∧ x ≤ 18446744073709551615 := by
  have := (Lit.wf_int_iff .u64 x).1 h
  simpa [IntKind.min, IntKind.max, IntKind.bits, IntKind.signed] using this
set_option maxRecDepth 100000 in
set_option maxHeartbeats 4000000 in
theorem wideTells_walk (p q r s : Int) (p0 : -9223372036854775808 ≤ p) (p1 : p ≤ 9223372036854775807) (q0 : 0 ≤ q) (q1 : q ≤ 18446744073709551615) (r0 : -9223372036854775808 ≤ r) (r1 : r ≤ 9223372036854775807) (s0 : 0 ≤ s) (s1 : s ≤ 18446744073709551615) (w : World) :
    Calls Try.prog 5 #[.agg #[.int .i64 p, .int .u64 q], .agg #[.int .i64 r, .int .u64 s]] w fun e w' => e = .returned (.bool true) ∧ Below w.heap.size w w' := by
  have b1 := vl_bd p q p0 p1 q0 q1
  have b2 := vl_bd r s r0 r1 s0 s1
  have HB : Hid (-730750818665451459101842416358141509827966271488 ≤ vl p q ∧ vl p q < 730750818665451459101842416358141509827966271488) := by simp only [Hid]; omega
  have HB2 : Hid (-730750818665451459101842416358141509827966271488 ≤ vl p q + -vl r s ∧ vl p q + -vl r s < 730750818665451459101842416358141509827966271488) := by simp only [Hid]; omega
  have HD : Hid (decide (vl p q + -vl r s < 0) = decide (vl p q < vl r s)) := by simp only [Hid]; rw [decide_eq_decide]; omega
  clear b1 b2
  go_enter Try.func5, Try.ntmps5
  go_wp2_with (first
    | (go_at_call 11; (with_reducible refine (shown_any _).mono ?_); rintro e w' ⟨rfl, hb⟩; obtain ⟨bs, d, rfl⟩ := below_grow hb; clear hb)
    | (go_at_call 21; (with_reducible refine (int_any p q _ p0 p1 q0 q1).mono ?_); rintro e w' ⟨rfl, hb⟩; obtain ⟨bs, d, rfl⟩ := below_grow hb; clear hb)
    | (go_at_call_of 16 (Value.agg #[.int .i64 p, .int .u64 q]); (with_reducible refine (rof_any p q _ p0 p1 q0 q1).mono ?_); rintro e w' ⟨rfl, hb⟩; obtain ⟨bs, d, rfl⟩ := below_grow hb; clear hb)
    | (go_at_call_of 16 (Value.agg #[.int .i64 r, .int .u64 s]); (with_reducible refine (rof_any r s _ r0 r1 s0 s1).mono ?_); rintro e w' ⟨rfl, hb⟩; obtain ⟨bs, d, rfl⟩ := below_grow hb; clear hb)
    | (go_at_call 22; (with_reducible refine (rint_any (vl p q) _ _ _ _ _ _ _ _ _ _ _ rfl HB.out.1 HB.out.2).mono ?_); rintro e w' ⟨rfl, hb⟩; obtain ⟨bs, d, rfl⟩ := below_grow hb; clear hb)
    | (go_at_call 17; (with_reducible refine (rminus_any (vl r s) _ _ _ _ _ _ _ _ _ _ _ rfl).mono ?_); rintro e w' ⟨rfl, hb⟩; obtain ⟨bs, d, rfl⟩ := below_grow hb; clear hb)
    | (go_at_call 15; (with_reducible refine (rplus_any (vl p q) (-vl r s) _ _ _ _ _ _ _ _ _ _ _ _ _ _ _ _ _ _ _ _ _ rfl rfl).mono ?_); rintro e w' ⟨rfl, hb⟩; obtain ⟨bs, d, rfl⟩ := below_grow hb; clear hb)
    | (go_at_call 23; (with_reducible refine (rbelow_dl (vl p q + -vl r s) (decide (vl p q < vl r s)) _ HD.out HB2.out.1 HB2.out.2).mono ?_); rintro e w' ⟨rfl, hb⟩; obtain ⟨bs, d, rfl⟩ := below_grow hb; clear hb)
    | (go_at_call 25; (with_reducible refine (rtext_any (vl p q) _ _ _ _ _ _ _ _ _ _ _ rfl HB.out.1 HB.out.2).mono ?_); rintro e w' ⟨rfl, hb⟩; obtain ⟨bs, d, rfl⟩ := below_grow hb; clear hb)
    | (go_at_call 24; (with_reducible refine (text_any p q _ p0 p1 q0 q1).mono ?_); rintro e w' ⟨rfl, hb⟩; obtain ⟨bs, d, rfl⟩ := below_grow hb; clear hb)
    | (go_at_call 26; (with_reducible refine (less_any p q r s _ p0 p1 q0 q1 r0 r1 s0 s1).mono ?_); rintro e w' ⟨rfl, hb⟩; obtain ⟨bs, d, rfl⟩ := below_grow hb; clear hb))
  go_region_held3 (fun w' => w'.cell? ⟨w.heap.size, 0, none⟩ = some (.int .i64 p) ∧ w'.cell? ⟨w.heap.size, 1, none⟩ = some (.int .u64 q) ∧ w'.cell? ⟨w.heap.size + 1, 0, none⟩ = some (.int .i64 r) ∧ w'.cell? ⟨w.heap.size + 1, 1, none⟩ = some (.int .u64 s)) (simp [go_sem, *])
    (first
    | (go_at_call 11; (with_reducible refine (shown_any _).mono ?_); rintro e w' ⟨rfl, hb⟩; obtain ⟨bs, d, rfl⟩ := below_grow hb; clear hb)
    | (go_at_call 21; (with_reducible refine (int_any p q _ p0 p1 q0 q1).mono ?_); rintro e w' ⟨rfl, hb⟩; obtain ⟨bs, d, rfl⟩ := below_grow hb; clear hb)
    | (go_at_call_of 16 (Value.agg #[.int .i64 p, .int .u64 q]); (with_reducible refine (rof_any p q _ p0 p1 q0 q1).mono ?_); rintro e w' ⟨rfl, hb⟩; obtain ⟨bs, d, rfl⟩ := below_grow hb; clear hb)
    | (go_at_call_of 16 (Value.agg #[.int .i64 r, .int .u64 s]); (with_reducible refine (rof_any r s _ r0 r1 s0 s1).mono ?_); rintro e w' ⟨rfl, hb⟩; obtain ⟨bs, d, rfl⟩ := below_grow hb; clear hb)
    | (go_at_call 22; (with_reducible refine (rint_any (vl p q) _ _ _ _ _ _ _ _ _ _ _ rfl HB.out.1 HB.out.2).mono ?_); rintro e w' ⟨rfl, hb⟩; obtain ⟨bs, d, rfl⟩ := below_grow hb; clear hb)
    | (go_at_call 17; (with_reducible refine (rminus_any (vl r s) _ _ _ _ _ _ _ _ _ _ _ rfl).mono ?_); rintro e w' ⟨rfl, hb⟩; obtain ⟨bs, d, rfl⟩ := below_grow hb; clear hb)
    | (go_at_call 15; (with_reducible refine (rplus_any (vl p q) (-vl r s) _ _ _ _ _ _ _ _ _ _ _ _ _ _ _ _ _ _ _ _ _ rfl rfl).mono ?_); rintro e w' ⟨rfl, hb⟩; obtain ⟨bs, d, rfl⟩ := below_grow hb; clear hb)
    | (go_at_call 23; (with_reducible refine (rbelow_dl (vl p q + -vl r s) (decide (vl p q < vl r s)) _ HD.out HB2.out.1 HB2.out.2).mono ?_); rintro e w' ⟨rfl, hb⟩; obtain ⟨bs, d, rfl⟩ := below_grow hb; clear hb)
    | (go_at_call 25; (with_reducible refine (rtext_any (vl p q) _ _ _ _ _ _ _ _ _ _ _ rfl HB.out.1 HB.out.2).mono ?_); rintro e w' ⟨rfl, hb⟩; obtain ⟨bs, d, rfl⟩ := below_grow hb; clear hb)
    | (go_at_call 24; (with_reducible refine (text_any p q _ p0 p1 q0 q1).mono ?_); rintro e w' ⟨rfl, hb⟩; obtain ⟨bs, d, rfl⟩ := below_grow hb; clear hb)
    | (go_at_call 26; (with_reducible refine (less_any p q r s _ p0 p1 q0 q1 r0 r1 s0 s1).mono ?_); rintro e w' ⟨rfl, hb⟩; obtain ⟨bs, d, rfl⟩ := below_grow hb; clear hb))
  all_goals go_wp2_with (first
    | (go_at_call 11; (with_reducible refine (shown_any _).mono ?_); rintro e w' ⟨rfl, hb⟩; obtain ⟨bs, d, rfl⟩ := below_grow hb; clear hb)
    | (go_at_call 21; (with_reducible refine (int_any p q _ p0 p1 q0 q1).mono ?_); rintro e w' ⟨rfl, hb⟩; obtain ⟨bs, d, rfl⟩ := below_grow hb; clear hb)
    | (go_at_call_of 16 (Value.agg #[.int .i64 p, .int .u64 q]); (with_reducible refine (rof_any p q _ p0 p1 q0 q1).mono ?_); rintro e w' ⟨rfl, hb⟩; obtain ⟨bs, d, rfl⟩ := below_grow hb; clear hb)
    | (go_at_call_of 16 (Value.agg #[.int .i64 r, .int .u64 s]); (with_reducible refine (rof_any r s _ r0 r1 s0 s1).mono ?_); rintro e w' ⟨rfl, hb⟩; obtain ⟨bs, d, rfl⟩ := below_grow hb; clear hb)
    | (go_at_call 22; (with_reducible refine (rint_any (vl p q) _ _ _ _ _ _ _ _ _ _ _ rfl HB.out.1 HB.out.2).mono ?_); rintro e w' ⟨rfl, hb⟩; obtain ⟨bs, d, rfl⟩ := below_grow hb; clear hb)
    | (go_at_call 17; (with_reducible refine (rminus_any (vl r s) _ _ _ _ _ _ _ _ _ _ _ rfl).mono ?_); rintro e w' ⟨rfl, hb⟩; obtain ⟨bs, d, rfl⟩ := below_grow hb; clear hb)
    | (go_at_call 15; (with_reducible refine (rplus_any (vl p q) (-vl r s) _ _ _ _ _ _ _ _ _ _ _ _ _ _ _ _ _ _ _ _ _ rfl rfl).mono ?_); rintro e w' ⟨rfl, hb⟩; obtain ⟨bs, d, rfl⟩ := below_grow hb; clear hb)
    | (go_at_call 23; (with_reducible refine (rbelow_dl (vl p q + -vl r s) (decide (vl p q < vl r s)) _ HD.out HB2.out.1 HB2.out.2).mono ?_); rintro e w' ⟨rfl, hb⟩; obtain ⟨bs, d, rfl⟩ := below_grow hb; clear hb)
    | (go_at_call 25; (with_reducible refine (rtext_any (vl p q) _ _ _ _ _ _ _ _ _ _ _ rfl HB.out.1 HB.out.2).mono ?_); rintro e w' ⟨rfl, hb⟩; obtain ⟨bs, d, rfl⟩ := below_grow hb; clear hb)
    | (go_at_call 24; (with_reducible refine (text_any p q _ p0 p1 q0 q1).mono ?_); rintro e w' ⟨rfl, hb⟩; obtain ⟨bs, d, rfl⟩ := below_grow hb; clear hb)
    | (go_at_call 26; (with_reducible refine (less_any p q r s _ p0 p1 q0 q1 r0 r1 s0 s1).mono ?_); rintro e w' ⟨rfl, hb⟩; obtain ⟨bs, d, rfl⟩ := below_grow hb; clear hb))
  all_goals go_region_held3 (fun w' => w'.cell? ⟨w.heap.size, 0, none⟩ = some (.int .i64 p) ∧ w'.cell? ⟨w.heap.size, 1, none⟩ = some (.int .u64 q) ∧ w'.cell? ⟨w.heap.size + 1, 0, none⟩ = some (.int .i64 r) ∧ w'.cell? ⟨w.heap.size + 1, 1, none⟩ = some (.int .u64 s)) (simp [go_sem, *])
    (first
    | (go_at_call 11; (with_reducible refine (shown_any _).mono ?_); rintro e w' ⟨rfl, hb⟩; obtain ⟨bs, d, rfl⟩ := below_grow hb; clear hb)
    | (go_at_call 21; (with_reducible refine (int_any p q _ p0 p1 q0 q1).mono ?_); rintro e w' ⟨rfl, hb⟩; obtain ⟨bs, d, rfl⟩ := below_grow hb; clear hb)
    | (go_at_call_of 16 (Value.agg #[.int .i64 p, .int .u64 q]); (with_reducible refine (rof_any p q _ p0 p1 q0 q1).mono ?_); rintro e w' ⟨rfl, hb⟩; obtain ⟨bs, d, rfl⟩ := below_grow hb; clear hb)
    | (go_at_call_of 16 (Value.agg #[.int .i64 r, .int .u64 s]); (with_reducible refine (rof_any r s _ r0 r1 s0 s1).mono ?_); rintro e w' ⟨rfl, hb⟩; obtain ⟨bs, d, rfl⟩ := below_grow hb; clear hb)
    | (go_at_call 22; (with_reducible refine (rint_any (vl p q) _ _ _ _ _ _ _ _ _ _ _ rfl HB.out.1 HB.out.2).mono ?_); rintro e w' ⟨rfl, hb⟩; obtain ⟨bs, d, rfl⟩ := below_grow hb; clear hb)
    | (go_at_call 17; (with_reducible refine (rminus_any (vl r s) _ _ _ _ _ _ _ _ _ _ _ rfl).mono ?_); rintro e w' ⟨rfl, hb⟩; obtain ⟨bs, d, rfl⟩ := below_grow hb; clear hb)
    | (go_at_call 15; (with_reducible refine (rplus_any (vl p q) (-vl r s) _ _ _ _ _ _ _ _ _ _ _ _ _ _ _ _ _ _ _ _ _ rfl rfl).mono ?_); rintro e w' ⟨rfl, hb⟩; obtain ⟨bs, d, rfl⟩ := below_grow hb; clear hb)
    | (go_at_call 23; (with_reducible refine (rbelow_dl (vl p q + -vl r s) (decide (vl p q < vl r s)) _ HD.out HB2.out.1 HB2.out.2).mono ?_); rintro e w' ⟨rfl, hb⟩; obtain ⟨bs, d, rfl⟩ := below_grow hb; clear hb)
    | (go_at_call 25; (with_reducible refine (rtext_any (vl p q) _ _ _ _ _ _ _ _ _ _ _ rfl HB.out.1 HB.out.2).mono ?_); rintro e w' ⟨rfl, hb⟩; obtain ⟨bs, d, rfl⟩ := below_grow hb; clear hb)
    | (go_at_call 24; (with_reducible refine (text_any p q _ p0 p1 q0 q1).mono ?_); rintro e w' ⟨rfl, hb⟩; obtain ⟨bs, d, rfl⟩ := below_grow hb; clear hb)
    | (go_at_call 26; (with_reducible refine (less_any p q r s _ p0 p1 q0 q1 r0 r1 s0 s1).mono ?_); rintro e w' ⟨rfl, hb⟩; obtain ⟨bs, d, rfl⟩ := below_grow hb; clear hb))
  all_goals go_wp2
  all_goals go_ret
  all_goals refine ⟨rfl, ?_⟩
  all_goals (repeat' (first | (with_reducible exact Below.refl _ _) | (with_reducible refine below_over ?_ _ _) | (with_reducible refine Lw.below_alloc ?_ _) | (with_reducible refine Below.drew ?_) | (with_reducible refine below_drewN ?_ _) | (with_reducible refine Below.setCell ?_ ?_ _) | go_size))
namespace wideTells
open Go.ChangeShapes Go.WideShapes Go.ChangeAt Go.Joins
set_option maxRecDepth 100000 in
theorem lifted (os : Os) (started : os.Started) (H : Type) (enc : TypeId × Value → H) :
    ReturnsInHanded {} Try.checked os 5 .any (Rows.wideTellsSpec.pre6 enc Try.prog Try.f5 Rows.wideTellsRow.domain false) (Rows.wideTellsSpec.post enc Try.prog Try.f5 false true false false) := by
  refine Lw.lifted (C := Try.checked) (B := 4) (by kernel_rfl) os started (by kernel_rfl) Try.func5
    (ChangeSpec.witness6 (enc := enc) (C := Try.checked) false ⟨#[], #[.agg #[.int .i64 0, .int .u64 0], .agg #[.int .i64 0, .int .u64 0]], []⟩ 8 (by kernel_rfl) (by kernel_rfl) (by kernel_rfl) (by kernel_rfl)) rfl Try.underlying4 (by kernel_rfl) (by kernel_rfl) (by kernel_rfl) ?_ ?_
  · intro ds h
    rw [Try.params5] at h
    match ds, h with
    | [_, _], _ => rfl
  · intro W base args ds p hval hA
    rw [Try.params5] at hA hval
    obtain ⟨v0, vs0, d0, ds0, p0, q0, hargs, rfl, rfl, h0, r0⟩ := trodAll_cons hA
    obtain ⟨v1, vs1, d1, ds1, p1, q1, rfl, rfl, rfl, h1, r1⟩ := trodAll_cons r0
    obtain ⟨rfl, rfl, rfl⟩ := trodAll_nil r1
    obtain rfl : args = #[v0, v1] := by cases args; simp_all
    obtain ⟨c0, e0, y0, z0, m0, rfl, rfl, rfl, hy0, hz0⟩ := open_agg2 Try.underlying24 (by kernel_rfl) wide_cells (hval 0 24 v0 rfl rfl) h0
    obtain ⟨a0, ea0, rfl, wa0⟩ := DataW.trod_int Try.underlying2 hy0
    obtain ⟨b0, eb0, rfl, wb0⟩ := DataW.trod_int Try.underlying22 hz0
    simp at ea0 eb0; subst ea0 eb0
    have g0 := wf_i64 wa0
    have k0 := wf_u64 wb0
    obtain ⟨c1, e1, y1, z1, m1, rfl, rfl, rfl, hy1, hz1⟩ := open_agg2 Try.underlying24 (by kernel_rfl) wide_cells (hval 1 24 v1 rfl rfl) h1
    obtain ⟨a1, ea1, rfl, wa1⟩ := DataW.trod_int Try.underlying2 hy1
    obtain ⟨b1, eb1, rfl, wb1⟩ := DataW.trod_int Try.underlying22 hz1
    simp at ea1 eb1; subst ea1 eb1
    have g1 := wf_i64 wa1
    have k1 := wf_u64 wb1
    exact wideTells_walk a0 b0 a1 b1 g0.1 g0.2 k0.1 k0.2 g1.1 g1.2 k1.1 k1.2 W
theorem over : Rows.wideTellsRow.holds Try.pinned (OpenSpec.ofChange Rows.wideTellsSpec) :=
  OpenClaim.holds_of_wide 5 Try.f5 rfl rfl rfl rfl rfl rfl rfl ⟨rfl, rfl, rfl, rfl, rfl⟩ rfl rfl rfl rfl rfl (by kernel_rfl) Try.func5 (by kernel_rfl)
    (of_decide_eq_true (by kernel_rfl)) (by unfold Func.isWrapper; first | (rw [if_pos (by decide +kernel)]; kernel_rfl) | (rw [if_neg (by decide +kernel)]; exact ⟨rfl, rfl⟩))
    (fun os started H enc _ => lifted os started H enc)
theorem proved : Rows.WideTellsSaid :=
  over
#print axioms proved
end wideTells
end Go.Proofs.Ytlnhfcfdjaecbaa.Wid
