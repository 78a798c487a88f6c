/- The statement WideBack holds: what was added to a wide number is taken away again, and a number of sixty-four bits is told as it was, for any two. -/
import Derived.Test.YtlnhfcfdjaecbaaWidShown
import Derived.Test.YtlnhfcfdjaecbaaWidMul
import Derived.Test.YtlnhfcfdjaecbaaGrow
import Derived.Test.YtlnhfcfdjaecbaaLaw
import Derived.Deep.DeepCutAuto
namespace Go.Proofs.Ytlnhfcfdjaecbaa.Wid
open Go.RowKit Lw
set_option linter.unusedVariables false
theorem wide_cells : Try.prog.cellsOf 24 = 2 := by kernel_rfl
theorem wf_i64 {x : Int} (h : (Lit.int .i64 x).wf = true) : -9223372036854775808 ≤ x ∧ x ≤ 9223372036854775807 := by
  have := (Lit.wf_int_iff .i64 x).1 h
  simpa [IntKind.min, IntKind.max, IntKind.bits, IntKind.signed] using this
theorem wf_u64 {x : Int} (h : (Lit.int .u64 x).wf = true) : 0 ≤ x ∧ x ≤ 18446744073709551615 := by
  have := (Lit.wf_int_iff .u64 x).1 h
  simpa [IntKind.min, IntKind.max, IntKind.bits, IntKind.signed] using this
theorem back_far (p q b : Int) (p0 : -9223372036854775808 ≤ p) (p1 : p ≤ 9223372036854775807) (q0 : 0 ≤ q) (q1 : q ≤ 18446744073709551615) (b0 : -9223372036854775808 ≤ b) (b1 : b ≤ 9223372036854775807) (h : ¬ (-170141183460469231731687303715884105728 ≤ vl p q + b ∧ vl p q + b < 170141183460469231731687303715884105728)) : (decide (0 < b) == decide (0 ≤ p)) = true := by
  rw [beq_iff_eq, decide_eq_decide]; unfold vl at h; omega
theorem back_lt (z b : Int) : decide (z + b < z) = decide (b < 0) := by rw [decide_eq_decide]; omega
theorem back_gt (z b : Int) : decide (z < z + b) = decide (0 < b) := by rw [decide_eq_decide]; omega
set_option maxRecDepth 100000 in
set_option maxHeartbeats 4000000 in
theorem wideBack_walk (p q b : Int) (p0 : -9223372036854775808 ≤ p) (p1 : p ≤ 9223372036854775807) (q0 : 0 ≤ q) (q1 : q ≤ 18446744073709551615) (b0 : -9223372036854775808 ≤ b) (b1 : b ≤ 9223372036854775807) (w : World) :
    Calls Try.prog 8 #[.agg #[.int .i64 p, .int .u64 q], .int .i64 b] w fun e w' => e = .returned (.bool true) ∧ Below w.heap.size w w' := by
  have e1 : vl (fh b) (fl b) = b := vl_fit b (by omega) (by omega)
  have e2 := (fit64_yes (z := b) (by omega) (by omega)).1
  have e3 := (fit64_yes (z := b) (by omega) (by omega)).2
  have e4 := fh_vl p q p0 p1 q0 q1
  have e5 : vl p q + b - b = vl p q := by omega
  have e6 := back_lt (vl p q) b
  have e7 := back_gt (vl p q) b
  have e8 := e4.1
  have e9 := e4.2.1
  have e10 := e4.2.2
  clear e4
  by_cases h : -170141183460469231731687303715884105728 ≤ vl p q + b ∧ vl p q + b < 170141183460469231731687303715884105728
  · have f1 := vl_fit (vl p q + b) h.1 h.2
    have f2 := (fit_yes h.1 h.2).1
    clear h
    generalize hfh : fh (vl p q + b) = u at *
    generalize hfl : fl (vl p q + b) = v at *
    have hu := fh_bd (vl p q + b)
    have hv := fl_bd (vl p q + b)
    rw [hfh] at hu
    rw [hfl] at hv
    have H1 := Lib.hid hfh
    have H2 := Lib.hid hfl
    have E5 := Lib.hid e5
    clear hfh hfl e5
    go_enter Try.func8, Try.ntmps8
    go_upto_region 5 with (first
      | (go_at_call 11; (with_reducible refine (shown_any _).mono ?_); rintro e w' ⟨rfl, hb⟩; obtain ⟨bs, d, rfl⟩ := below_grow hb; clear hb)
      | (go_at_call 32; (with_reducible refine (of_any b _ b0 b1).mono ?_); rintro e w' ⟨rfl, hb⟩; obtain ⟨bs, d, rfl⟩ := below_grow hb; clear hb)
      | (go_at_call 12; (with_reducible refine (add_any p q (fh b) (fl b) _ p0 p1 q0 q1 (fh_bd b).1 (fh_bd b).2 (fl_bd b).1 (fl_bd b).2).mono ?_); rintro e w' ⟨rfl, hb⟩; rw [e1, H1.out, H2.out]; obtain ⟨bs, d, rfl⟩ := below_grow hb; clear hb)
      | (go_at_call 13; (with_reducible refine (sub_any u v (fh b) (fl b) _ hu.1 hu.2 hv.1 hv.2 (fh_bd b).1 (fh_bd b).2 (fl_bd b).1 (fl_bd b).2).mono ?_); rintro e w' ⟨rfl, hb⟩; rw [e1, f1, E5.out]; obtain ⟨bs, d, rfl⟩ := below_grow hb; clear hb)
      | (go_at_call 21; (with_reducible refine (int_any (fh b) (fl b) _ (fh_bd b).1 (fh_bd b).2 (fl_bd b).1 (fl_bd b).2).mono ?_); rintro e w' ⟨rfl, hb⟩; obtain ⟨bs, d, rfl⟩ := below_grow hb; clear hb)
      | (go_at_call_of 26 (Value.agg #[.int .i64 u, .int .u64 v]); (with_reducible refine (less_any u v p q _ hu.1 hu.2 hv.1 hv.2 p0 p1 q0 q1).mono ?_); rintro e w' ⟨rfl, hb⟩; rw [f1]; obtain ⟨bs, d, rfl⟩ := below_grow hb; clear hb)
      | (go_at_call_of 26 (Value.agg #[.int .i64 p, .int .u64 q]); (with_reducible refine (less_any p q u v _ p0 p1 q0 q1 hu.1 hu.2 hv.1 hv.2).mono ?_); rintro e w' ⟨rfl, hb⟩; rw [f1]; obtain ⟨bs, d, rfl⟩ := below_grow hb; clear hb))
    go_cut [8, 9] (fun s8 s9 wx => s9 = .bool true ∧ ∃ (bs cs : Array Obj) (d e : Nat), s8 = .pointer (some ⟨w.heap.size + 1 + bs.size, 0, none⟩) ∧ wx = grow ((grow (w.alloc (.cells #[.int .i64 p, .int .u64 q] 24)) bs d).alloc (.cells #[.int .i64 u, .int .u64 v] 24)) cs e)
    case first =>
      go_region_held3 (fun w' => w'.cell? ⟨w.heap.size, 0, none⟩ = some (.int .i64 p) ∧ w'.cell? ⟨w.heap.size, 1, none⟩ = some (.int .u64 q)) (simp [go_sem, *]) (first
      | (go_at_call 11; (with_reducible refine (shown_any _).mono ?_); rintro e w' ⟨rfl, hb⟩; obtain ⟨bs, d, rfl⟩ := below_grow hb; clear hb)
      | (go_at_call 32; (with_reducible refine (of_any b _ b0 b1).mono ?_); rintro e w' ⟨rfl, hb⟩; obtain ⟨bs, d, rfl⟩ := below_grow hb; clear hb)
      | (go_at_call 12; (with_reducible refine (add_any p q (fh b) (fl b) _ p0 p1 q0 q1 (fh_bd b).1 (fh_bd b).2 (fl_bd b).1 (fl_bd b).2).mono ?_); rintro e w' ⟨rfl, hb⟩; rw [e1, H1.out, H2.out]; obtain ⟨bs, d, rfl⟩ := below_grow hb; clear hb)
      | (go_at_call 13; (with_reducible refine (sub_any u v (fh b) (fl b) _ hu.1 hu.2 hv.1 hv.2 (fh_bd b).1 (fh_bd b).2 (fl_bd b).1 (fl_bd b).2).mono ?_); rintro e w' ⟨rfl, hb⟩; rw [e1, f1, E5.out]; obtain ⟨bs, d, rfl⟩ := below_grow hb; clear hb)
      | (go_at_call 21; (with_reducible refine (int_any (fh b) (fl b) _ (fh_bd b).1 (fh_bd b).2 (fl_bd b).1 (fl_bd b).2).mono ?_); rintro e w' ⟨rfl, hb⟩; obtain ⟨bs, d, rfl⟩ := below_grow hb; clear hb)
      | (go_at_call_of 26 (Value.agg #[.int .i64 u, .int .u64 v]); (with_reducible refine (less_any u v p q _ hu.1 hu.2 hv.1 hv.2 p0 p1 q0 q1).mono ?_); rintro e w' ⟨rfl, hb⟩; rw [f1]; obtain ⟨bs, d, rfl⟩ := below_grow hb; clear hb)
      | (go_at_call_of 26 (Value.agg #[.int .i64 p, .int .u64 q]); (with_reducible refine (less_any p q u v _ p0 p1 q0 q1 hu.1 hu.2 hv.1 hv.2).mono ?_); rintro e w' ⟨rfl, hb⟩; rw [f1]; obtain ⟨bs, d, rfl⟩ := below_grow hb; clear hb))
      all_goals (go_wp2_with fail; go_meet)
      all_goals first | (refine ⟨rfl, _, _, _, _, ?_, rfl⟩; simp; done) | (refine ⟨rfl, _, #[], _, _, ?_, (grow_nil _).symm⟩; simp; done)
    case rest =>
      obtain ⟨rfl, bs5, cs5, d5, f5, rfl, rfl⟩ := hcut
      go_upto_region 8 with (first
      | (go_at_call 11; (with_reducible refine (shown_any _).mono ?_); rintro e w' ⟨rfl, hb⟩; obtain ⟨bs, d, rfl⟩ := below_grow hb; clear hb)
      | (go_at_call 32; (with_reducible refine (of_any b _ b0 b1).mono ?_); rintro e w' ⟨rfl, hb⟩; obtain ⟨bs, d, rfl⟩ := below_grow hb; clear hb)
      | (go_at_call 12; (with_reducible refine (add_any p q (fh b) (fl b) _ p0 p1 q0 q1 (fh_bd b).1 (fh_bd b).2 (fl_bd b).1 (fl_bd b).2).mono ?_); rintro e w' ⟨rfl, hb⟩; rw [e1, H1.out, H2.out]; obtain ⟨bs, d, rfl⟩ := below_grow hb; clear hb)
      | (go_at_call 13; (with_reducible refine (sub_any u v (fh b) (fl b) _ hu.1 hu.2 hv.1 hv.2 (fh_bd b).1 (fh_bd b).2 (fl_bd b).1 (fl_bd b).2).mono ?_); rintro e w' ⟨rfl, hb⟩; rw [e1, f1, E5.out]; obtain ⟨bs, d, rfl⟩ := below_grow hb; clear hb)
      | (go_at_call 21; (with_reducible refine (int_any (fh b) (fl b) _ (fh_bd b).1 (fh_bd b).2 (fl_bd b).1 (fl_bd b).2).mono ?_); rintro e w' ⟨rfl, hb⟩; obtain ⟨bs, d, rfl⟩ := below_grow hb; clear hb)
      | (go_at_call_of 26 (Value.agg #[.int .i64 u, .int .u64 v]); (with_reducible refine (less_any u v p q _ hu.1 hu.2 hv.1 hv.2 p0 p1 q0 q1).mono ?_); rintro e w' ⟨rfl, hb⟩; rw [f1]; obtain ⟨bs, d, rfl⟩ := below_grow hb; clear hb)
      | (go_at_call_of 26 (Value.agg #[.int .i64 p, .int .u64 q]); (with_reducible refine (less_any p q u v _ p0 p1 q0 q1 hu.1 hu.2 hv.1 hv.2).mono ?_); rintro e w' ⟨rfl, hb⟩; rw [f1]; obtain ⟨bs, d, rfl⟩ := below_grow hb; clear hb))
      go_cut [10, 11] (fun s8 s9 wx => s9 = .bool true ∧ ∃ (bs cs : Array Obj) (d e : Nat), s8 = .pointer (some ⟨w.heap.size + 1 + bs5.size + 1 + bs.size, 0, none⟩) ∧ wx = grow ((grow ((grow (w.alloc (.cells #[.int .i64 p, .int .u64 q] 24)) bs5 d5).alloc (.cells #[.int .i64 u, .int .u64 v] 24)) bs d).alloc (.cells #[.int .i64 p, .int .u64 q] 24)) cs e)
      case first =>
        go_region_held3 (fun w' => w'.cell? ⟨w.heap.size + 1 + bs5.size, 0, none⟩ = some (.int .i64 u) ∧ w'.cell? ⟨w.heap.size + 1 + bs5.size, 1, none⟩ = some (.int .u64 v)) (simp [go_sem, *]) (first
      | (go_at_call 11; (with_reducible refine (shown_any _).mono ?_); rintro e w' ⟨rfl, hb⟩; obtain ⟨bs, d, rfl⟩ := below_grow hb; clear hb)
      | (go_at_call 32; (with_reducible refine (of_any b _ b0 b1).mono ?_); rintro e w' ⟨rfl, hb⟩; obtain ⟨bs, d, rfl⟩ := below_grow hb; clear hb)
      | (go_at_call 12; (with_reducible refine (add_any p q (fh b) (fl b) _ p0 p1 q0 q1 (fh_bd b).1 (fh_bd b).2 (fl_bd b).1 (fl_bd b).2).mono ?_); rintro e w' ⟨rfl, hb⟩; rw [e1, H1.out, H2.out]; obtain ⟨bs, d, rfl⟩ := below_grow hb; clear hb)
      | (go_at_call 13; (with_reducible refine (sub_any u v (fh b) (fl b) _ hu.1 hu.2 hv.1 hv.2 (fh_bd b).1 (fh_bd b).2 (fl_bd b).1 (fl_bd b).2).mono ?_); rintro e w' ⟨rfl, hb⟩; rw [e1, f1, E5.out]; obtain ⟨bs, d, rfl⟩ := below_grow hb; clear hb)
      | (go_at_call 21; (with_reducible refine (int_any (fh b) (fl b) _ (fh_bd b).1 (fh_bd b).2 (fl_bd b).1 (fl_bd b).2).mono ?_); rintro e w' ⟨rfl, hb⟩; obtain ⟨bs, d, rfl⟩ := below_grow hb; clear hb)
      | (go_at_call_of 26 (Value.agg #[.int .i64 u, .int .u64 v]); (with_reducible refine (less_any u v p q _ hu.1 hu.2 hv.1 hv.2 p0 p1 q0 q1).mono ?_); rintro e w' ⟨rfl, hb⟩; rw [f1]; obtain ⟨bs, d, rfl⟩ := below_grow hb; clear hb)
      | (go_at_call_of 26 (Value.agg #[.int .i64 p, .int .u64 q]); (with_reducible refine (less_any p q u v _ p0 p1 q0 q1 hu.1 hu.2 hv.1 hv.2).mono ?_); rintro e w' ⟨rfl, hb⟩; rw [f1]; obtain ⟨bs, d, rfl⟩ := below_grow hb; clear hb))
        all_goals (go_wp2_with fail; go_meet)
        all_goals first | (refine ⟨rfl, _, _, _, _, ?_, rfl⟩; simp; done) | (refine ⟨rfl, _, #[], _, _, ?_, (grow_nil _).symm⟩; simp; done)
      case rest =>
        obtain ⟨rfl, bs6, cs6, d6, f6, rfl, rfl⟩ := hcut
        go_wp2_with (first
      | (go_at_call 11; (with_reducible refine (shown_any _).mono ?_); rintro e w' ⟨rfl, hb⟩; obtain ⟨bs, d, rfl⟩ := below_grow hb; clear hb)
      | (go_at_call 32; (with_reducible refine (of_any b _ b0 b1).mono ?_); rintro e w' ⟨rfl, hb⟩; obtain ⟨bs, d, rfl⟩ := below_grow hb; clear hb)
      | (go_at_call 12; (with_reducible refine (add_any p q (fh b) (fl b) _ p0 p1 q0 q1 (fh_bd b).1 (fh_bd b).2 (fl_bd b).1 (fl_bd b).2).mono ?_); rintro e w' ⟨rfl, hb⟩; rw [e1, H1.out, H2.out]; obtain ⟨bs, d, rfl⟩ := below_grow hb; clear hb)
      | (go_at_call 13; (with_reducible refine (sub_any u v (fh b) (fl b) _ hu.1 hu.2 hv.1 hv.2 (fh_bd b).1 (fh_bd b).2 (fl_bd b).1 (fl_bd b).2).mono ?_); rintro e w' ⟨rfl, hb⟩; rw [e1, f1, E5.out]; obtain ⟨bs, d, rfl⟩ := below_grow hb; clear hb)
      | (go_at_call 21; (with_reducible refine (int_any (fh b) (fl b) _ (fh_bd b).1 (fh_bd b).2 (fl_bd b).1 (fl_bd b).2).mono ?_); rintro e w' ⟨rfl, hb⟩; obtain ⟨bs, d, rfl⟩ := below_grow hb; clear hb)
      | (go_at_call_of 26 (Value.agg #[.int .i64 u, .int .u64 v]); (with_reducible refine (less_any u v p q _ hu.1 hu.2 hv.1 hv.2 p0 p1 q0 q1).mono ?_); rintro e w' ⟨rfl, hb⟩; rw [f1]; obtain ⟨bs, d, rfl⟩ := below_grow hb; clear hb)
      | (go_at_call_of 26 (Value.agg #[.int .i64 p, .int .u64 q]); (with_reducible refine (less_any p q u v _ p0 p1 q0 q1 hu.1 hu.2 hv.1 hv.2).mono ?_); rintro e w' ⟨rfl, hb⟩; rw [f1]; obtain ⟨bs, d, rfl⟩ := below_grow hb; clear hb))
        all_goals go_ret
        all_goals refine ⟨rfl, ?_⟩
        all_goals (repeat' (first | (with_reducible exact Below.refl _ _) | (with_reducible refine below_over ?_ _ _) | (with_reducible refine Lw.below_alloc ?_ _) | (with_reducible refine Below.drew ?_) | (with_reducible refine below_drewN ?_ _) | (with_reducible refine Below.setCell ?_ ?_ _) | go_size))
  · have f3 := back_far p q b p0 p1 q0 q1 b0 b1 h
    have f4 := fit_no h
    have f5 := f4.1
    have f6 := f4.2.1
    have f7 := f4.2.2
    clear f4 h e6 e7 e5
    go_enter Try.func8, Try.ntmps8
    go_upto_region 5 with (first
      | (go_at_call 11; (with_reducible refine (shown_any _).mono ?_); rintro e w' ⟨rfl, hb⟩; obtain ⟨bs, d, rfl⟩ := below_grow hb; clear hb)
      | (go_at_call 32; (with_reducible refine (of_any b _ b0 b1).mono ?_); rintro e w' ⟨rfl, hb⟩; obtain ⟨bs, d, rfl⟩ := below_grow hb; clear hb)
      | (go_at_call 12; (with_reducible refine (add_any p q (fh b) (fl b) _ p0 p1 q0 q1 (fh_bd b).1 (fh_bd b).2 (fl_bd b).1 (fl_bd b).2).mono ?_); rintro e w' ⟨rfl, hb⟩; rw [e1, f5, f6, f7]; obtain ⟨bs, d, rfl⟩ := below_grow hb; clear hb)
      | (go_at_call 21; (with_reducible refine (int_any (fh b) (fl b) _ (fh_bd b).1 (fh_bd b).2 (fl_bd b).1 (fl_bd b).2).mono ?_); rintro e w' ⟨rfl, hb⟩; obtain ⟨bs, d, rfl⟩ := below_grow hb; clear hb))
    go_region_held3 (fun w' => w'.cell? ⟨w.heap.size, 0, none⟩ = some (.int .i64 p) ∧ w'.cell? ⟨w.heap.size, 1, none⟩ = some (.int .u64 q)) (simp [go_sem, *]) (first
      | (go_at_call 11; (with_reducible refine (shown_any _).mono ?_); rintro e w' ⟨rfl, hb⟩; obtain ⟨bs, d, rfl⟩ := below_grow hb; clear hb)
      | (go_at_call 32; (with_reducible refine (of_any b _ b0 b1).mono ?_); rintro e w' ⟨rfl, hb⟩; obtain ⟨bs, d, rfl⟩ := below_grow hb; clear hb)
      | (go_at_call 12; (with_reducible refine (add_any p q (fh b) (fl b) _ p0 p1 q0 q1 (fh_bd b).1 (fh_bd b).2 (fl_bd b).1 (fl_bd b).2).mono ?_); rintro e w' ⟨rfl, hb⟩; rw [e1, f5, f6, f7]; obtain ⟨bs, d, rfl⟩ := below_grow hb; clear hb)
      | (go_at_call 21; (with_reducible refine (int_any (fh b) (fl b) _ (fh_bd b).1 (fh_bd b).2 (fl_bd b).1 (fl_bd b).2).mono ?_); rintro e w' ⟨rfl, hb⟩; obtain ⟨bs, d, rfl⟩ := below_grow hb; clear hb))
    all_goals go_wp2_with (first
      | (go_at_call 11; (with_reducible refine (shown_any _).mono ?_); rintro e w' ⟨rfl, hb⟩; obtain ⟨bs, d, rfl⟩ := below_grow hb; clear hb)
      | (go_at_call 32; (with_reducible refine (of_any b _ b0 b1).mono ?_); rintro e w' ⟨rfl, hb⟩; obtain ⟨bs, d, rfl⟩ := below_grow hb; clear hb)
      | (go_at_call 12; (with_reducible refine (add_any p q (fh b) (fl b) _ p0 p1 q0 q1 (fh_bd b).1 (fh_bd b).2 (fl_bd b).1 (fl_bd b).2).mono ?_); rintro e w' ⟨rfl, hb⟩; rw [e1, f5, f6, f7]; obtain ⟨bs, d, rfl⟩ := below_grow hb; clear hb)
      | (go_at_call 21; (with_reducible refine (int_any (fh b) (fl b) _ (fh_bd b).1 (fh_bd b).2 (fl_bd b).1 (fl_bd b).2).mono ?_); rintro e w' ⟨rfl, hb⟩; obtain ⟨bs, d, rfl⟩ := below_grow hb; clear hb))
    all_goals go_ret
    all_goals refine ⟨rfl, ?_⟩
    all_goals (repeat' (first | (with_reducible exact Below.refl _ _) | (with_reducible refine below_over ?_ _ _) | (with_reducible refine Lw.below_alloc ?_ _) | (with_reducible refine Below.drew ?_) | (with_reducible refine below_drewN ?_ _) | (with_reducible refine Below.setCell ?_ ?_ _) | go_size))
namespace wideBack
open Go.ChangeShapes Go.WideShapes Go.ChangeAt Go.Joins
set_option maxRecDepth 100000 in
theorem lifted (os : Os) (started : os.Started) (H : Type) (enc : TypeId × Value → H) :
    ReturnsInHanded {} Try.checked os 8 .any (Rows.wideBackSpec.pre6 enc Try.prog Try.f8 Rows.wideBackRow.domain false) (Rows.wideBackSpec.post enc Try.prog Try.f8 false true false false) := by
  refine Lw.lifted (C := Try.checked) (B := 4) (by kernel_rfl) os started (by kernel_rfl) Try.func8
    (ChangeSpec.witness6 (enc := enc) (C := Try.checked) false ⟨#[], #[.agg #[.int .i64 0, .int .u64 0], .int .i64 0], []⟩ 8 (by kernel_rfl) (by kernel_rfl) (by kernel_rfl) (by kernel_rfl)) rfl Try.underlying4 (by kernel_rfl) (by kernel_rfl) (by kernel_rfl) ?_ ?_
  · intro ds h
    rw [Try.params8] at h
    match ds, h with
    | [_, _], _ => rfl
  · intro W base args ds p hval hA
    rw [Try.params8] at hA hval
    obtain ⟨v0, vs0, d0, ds0, p0, q0, hargs, rfl, rfl, h0, r0⟩ := trodAll_cons hA
    obtain ⟨v1, vs1, d1, ds1, p1, q1, rfl, rfl, rfl, h1, r1⟩ := trodAll_cons r0
    obtain ⟨rfl, rfl, rfl⟩ := trodAll_nil r1
    obtain rfl : args = #[v0, v1] := by cases args; simp_all
    obtain ⟨c0, e0, y0, z0, m0, rfl, rfl, rfl, hy0, hz0⟩ := open_agg2 Try.underlying24 (by kernel_rfl) wide_cells (hval 0 24 v0 rfl rfl) h0
    obtain ⟨a0, ea0, rfl, wa0⟩ := DataW.trod_int Try.underlying2 hy0
    obtain ⟨b0, eb0, rfl, wb0⟩ := DataW.trod_int Try.underlying22 hz0
    simp at ea0 eb0; subst ea0 eb0
    have g0 := wf_i64 wa0
    have k0 := wf_u64 wb0
    obtain ⟨a1, rfl, rfl, rfl, w1⟩ := open_int Try.underlying2 (hval 1 2 v1 rfl rfl) h1
    have b1 := wf_i64 w1
    exact wideBack_walk a0 b0 a1 g0.1 g0.2 k0.1 k0.2 b1.1 b1.2 W
theorem over : Rows.wideBackRow.holds Try.pinned (OpenSpec.ofChange Rows.wideBackSpec) :=
  OpenClaim.holds_of_wide 8 Try.f8 rfl rfl rfl rfl rfl rfl rfl ⟨rfl, rfl, rfl, rfl, rfl⟩ rfl rfl rfl rfl rfl (by kernel_rfl) Try.func8 (by kernel_rfl)
    (of_decide_eq_true (by kernel_rfl)) (by unfold Func.isWrapper; first | (rw [if_pos (by decide +kernel)]; kernel_rfl) | (rw [if_neg (by decide +kernel)]; exact ⟨rfl, rfl⟩))
    (fun os started H enc _ => lifted os started H enc)
theorem proved : Rows.WideBackSaid :=
  over
#print axioms proved
end wideBack
end Go.Proofs.Ytlnhfcfdjaecbaa.Wid
