/- Walks of the document's own answers of layer 2: Minus, Int, Wide, Add. Printed by wip/gen/wid2.py. -/
import Derived.Test.YtlnhfcfdjaecbaaWidRef
import Derived.Test.YtlnhfcfdjaecbaaWidEq
namespace Go.Proofs.Ytlnhfcfdjaecbaa.Wid
open Go.RowKit
set_option linter.unusedVariables false
set_option maxRecDepth 100000 in
theorem rminus_any (z : Int) (x0 x1 x2 x3 x4 x5 x6 x7 x8 x9 : Int) (w : World) (hx : [x0, x1, x2, x3, x4, x5, x6, x7, x8, x9] = dl z) :
    Calls Try.prog 17 #[.agg #[.int .i64 (x0), .int .i64 (x1), .int .i64 (x2), .int .i64 (x3), .int .i64 (x4), .int .i64 (x5), .int .i64 (x6), .int .i64 (x7), .int .i64 (x8), .int .i64 (x9)]] w fun e w' => e = .returned (.agg #[.int .i64 (dg (-z) 0), .int .i64 (dg (-z) 1), .int .i64 (dg (-z) 2), .int .i64 (dg (-z) 3), .int .i64 (dg (-z) 4), .int .i64 (dg (-z) 5), .int .i64 (dg (-z) 6), .int .i64 (dg (-z) 7), .int .i64 (dg (-z) 8), .int .i64 (dg (-z) 9)]) ∧ Below w.heap.size w w' := by
  simp only [dl, List.cons.injEq, and_true] at hx
  obtain ⟨rfl, rfl, rfl, rfl, rfl, rfl, rfl, rfl, rfl, rfl⟩ := hx
  have b0 := dg_bd z 0
  have b1 := dg_bd z 1
  have b2 := dg_bd z 2
  have b3 := dg_bd z 3
  have b4 := dg_bd z 4
  have b5 := dg_bd z 5
  have b6 := dg_bd z 6
  have b7 := dg_bd z 7
  have b8 := dg_bd z 8
  have b9 := dg_bd z 9
  have e : -1 - z + 1 = -z := by omega
  have E := Lib.hid e; clear e
  go_enter Try.func17, Try.ntmps17
  go_wp2_with fail
  refine wp_loop_rounds 11 ?_
  iterate 11 (rw [rounds_succ]; go_wp2_with fail)
  (with_reducible refine (rplus_any (-1 - z) 1 _ _ _ _ _ _ _ _ _ _ _ _ _ _ _ _ _ _ _ _ _ (minus_dl z) one_dl).mono ?_)
  rintro e w' ⟨rfl, hb⟩
  obtain ⟨hc, hfr⟩ := bcell hb
  have k0 : w'.cell? ⟨w.heap.size + 1, 0, none⟩ = some (.int .i64 0) := (hc _ _ (by simp)).trans (by simp [go_sem])
  have k1 : w'.cell? ⟨w.heap.size + 1, 1, none⟩ = some (.int .i64 0) := (hc _ _ (by simp)).trans (by simp [go_sem])
  have k2 : w'.cell? ⟨w.heap.size + 1, 2, none⟩ = some (.int .i64 0) := (hc _ _ (by simp)).trans (by simp [go_sem])
  have k3 : w'.cell? ⟨w.heap.size + 1, 3, none⟩ = some (.int .i64 0) := (hc _ _ (by simp)).trans (by simp [go_sem])
  have k4 : w'.cell? ⟨w.heap.size + 1, 4, none⟩ = some (.int .i64 0) := (hc _ _ (by simp)).trans (by simp [go_sem])
  have k5 : w'.cell? ⟨w.heap.size + 1, 5, none⟩ = some (.int .i64 0) := (hc _ _ (by simp)).trans (by simp [go_sem])
  have k6 : w'.cell? ⟨w.heap.size + 1, 6, none⟩ = some (.int .i64 0) := (hc _ _ (by simp)).trans (by simp [go_sem])
  have k7 : w'.cell? ⟨w.heap.size + 1, 7, none⟩ = some (.int .i64 0) := (hc _ _ (by simp)).trans (by simp [go_sem])
  have k8 : w'.cell? ⟨w.heap.size + 1, 8, none⟩ = some (.int .i64 0) := (hc _ _ (by simp)).trans (by simp [go_sem])
  have k9 : w'.cell? ⟨w.heap.size + 1, 9, none⟩ = some (.int .i64 0) := (hc _ _ (by simp)).trans (by simp [go_sem])
  clear hc
  go_wp2
  rw [← E.out]
  refine bodyPost_ret (v := .agg #[.int .i64 (dg (-1 - z + 1) 0), .int .i64 (dg (-1 - z + 1) 1), .int .i64 (dg (-1 - z + 1) 2), .int .i64 (dg (-1 - z + 1) 3), .int .i64 (dg (-1 - z + 1) 4), .int .i64 (dg (-1 - z + 1) 5), .int .i64 (dg (-1 - z + 1) 6), .int .i64 (dg (-1 - z + 1) 7), .int .i64 (dg (-1 - z + 1) 8), .int .i64 (dg (-1 - z + 1) 9)]) (by simp [results, Try.results17, go_sem, k0, k1, k2, k3, k4, k5, k6, k7, k8, k9]) rfl ?_
  refine ⟨rfl, ?_⟩
  repeat' (first | (with_reducible exact Below.refl _ _) | (with_reducible refine below_call ?_ (by with_reducible assumption) (Nat.le_refl _)) | (with_reducible refine below_alloc ?_ _) | (with_reducible refine Below.drew ?_) | (with_reducible refine below_drewN ?_ _) | (with_reducible refine Below.setCell ?_ ?_ _) | go_size)
set_option maxRecDepth 100000 in
theorem rint_any (z : Int) (x0 x1 x2 x3 x4 x5 x6 x7 x8 x9 : Int) (w : World) (hx : [x0, x1, x2, x3, x4, x5, x6, x7, x8, x9] = dl z) (z0 : -730750818665451459101842416358141509827966271488 ≤ z) (z1 : z < 730750818665451459101842416358141509827966271488) :
    Calls Try.prog 22 #[.agg #[.int .i64 (x0), .int .i64 (x1), .int .i64 (x2), .int .i64 (x3), .int .i64 (x4), .int .i64 (x5), .int .i64 (x6), .int .i64 (x7), .int .i64 (x8), .int .i64 (x9)]] w fun e w' => e = .returned (.tuple #[.int .i64 (f64 z), .bool (fit64 z)]) ∧ Below w.heap.size w w' := by
  simp only [dl, List.cons.injEq, and_true] at hx
  obtain ⟨rfl, rfl, rfl, rfl, rfl, rfl, rfl, rfl, rfl, rfl⟩ := hx
  have b0 := dg_bd z 0
  have b1 := dg_bd z 1
  have b2 := dg_bd z 2
  have b3 := dg_bd z 3
  have el := or_lo z
  have en : IntKind.i64.wrap (z % 18446744073709551616) = nn z := rfl
  have en2 : wrap64 (z % 18446744073709551616) = nn z := by unfold nn wrap64; rw [IntKind.wrap_i64]
  have es := int_same z z0 z1
  have eq := eq_long
  have H := Lib.hid (int_vals2 z)
  clear z0 z1
  cases hf : fit64 z
  · rw [hf] at es
    have HF := Lib.hid hf; clear hf
    go_enter Try.func22, Try.ntmps22
    go_wp2
    go_rounds 5
    go_region_with (go_at_call 20; (with_reducible refine (rofint_any _ _ (nn_bd _).1 (nn_bd _).2).mono ?_); rintro e w' ⟨rfl, hb⟩; obtain ⟨hc, hfr⟩ := bcell hb)
    all_goals go_wp2
    all_goals go_ret2
    all_goals refine ⟨ret_int_bool (H.out.2 HF.out) rfl, ?_⟩
    all_goals (repeat' (first | (with_reducible exact Below.refl _ _) | (with_reducible refine below_call ?_ (by with_reducible assumption) (Nat.le_refl _)) | (with_reducible refine below_alloc ?_ _) | (with_reducible refine Below.drew ?_) | (with_reducible refine below_drewN ?_ _) | (with_reducible refine Below.setCell ?_ ?_ _) | go_size))
  · rw [hf] at es
    have HF := Lib.hid hf; clear hf
    go_enter Try.func22, Try.ntmps22
    go_wp2
    go_rounds 5
    go_region_with (go_at_call 20; (with_reducible refine (rofint_any _ _ (nn_bd _).1 (nn_bd _).2).mono ?_); rintro e w' ⟨rfl, hb⟩; obtain ⟨hc, hfr⟩ := bcell hb)
    all_goals go_wp2
    all_goals go_ret2
    all_goals refine ⟨ret_int_bool (H.out.1 HF.out) rfl, ?_⟩
    all_goals (repeat' (first | (with_reducible exact Below.refl _ _) | (with_reducible refine below_call ?_ (by with_reducible assumption) (Nat.le_refl _)) | (with_reducible refine below_alloc ?_ _) | (with_reducible refine Below.drew ?_) | (with_reducible refine below_drewN ?_ _) | (with_reducible refine Below.setCell ?_ ?_ _) | go_size))
set_option maxRecDepth 100000 in
set_option maxHeartbeats 4000000 in
theorem rwide_any (z : Int) (x0 x1 x2 x3 x4 x5 x6 x7 x8 x9 : Int) (w : World) (hx : [x0, x1, x2, x3, x4, x5, x6, x7, x8, x9] = dl z) (z0 : -730750818665451459101842416358141509827966271488 ≤ z) (z1 : z < 730750818665451459101842416358141509827966271488) :
    Calls Try.prog 14 #[.agg #[.int .i64 (x0), .int .i64 (x1), .int .i64 (x2), .int .i64 (x3), .int .i64 (x4), .int .i64 (x5), .int .i64 (x6), .int .i64 (x7), .int .i64 (x8), .int .i64 (x9)]] w fun e w' => e = .returned (.tuple #[.agg #[.int .i64 (fh z), .int .u64 (fl z)], .bool (fit z)]) ∧ Below w.heap.size w w' := by
  simp only [dl, List.cons.injEq, and_true] at hx
  obtain ⟨rfl, rfl, rfl, rfl, rfl, rfl, rfl, rfl, rfl, rfl⟩ := hx
  have b0 := dg_bd z 0
  have b1 := dg_bd z 1
  have b2 := dg_bd z 2
  have b3 := dg_bd z 3
  have b4 := dg_bd z 4
  have b5 := dg_bd z 5
  have b6 := dg_bd z 6
  have b7 := dg_bd z 7
  have el := or_lo z
  have eh := or_hi z
  have en : IntKind.i64.wrap (z / 18446744073709551616 % 18446744073709551616) = hh z := rfl
  have en2 : wrap64 (z / 18446744073709551616 % 18446744073709551616) = hh z := by unfold hh wrap64; rw [IntKind.wrap_i64]
  have es := wide_same z z0 z1
  have eq := eq_long
  have H := Lib.hid (wide_vals2 z)
  have hz0 : 0 ≤ z % 18446744073709551616 := by omega
  have hz1 : z % 18446744073709551616 ≤ 18446744073709551615 := by omega
  clear z0 z1
  cases hf : fit z
  · rw [hf] at es
    have HF := Lib.hid hf; clear hf
    go_enter Try.func14, Try.ntmps14
    go_wp2
    refine wp_loop_rounds 5 ?_
    iterate 4 (rw [rounds_succ]; go_wp2; go_region; go_wp2)
    rw [rounds_succ]; go_wp2
    go_region_with (go_at_call 16; (with_reducible refine (rof_any _ _ _ (hh_bd _).1 (hh_bd _).2 hz0 hz1).mono ?_); rintro e w' ⟨rfl, hb⟩; obtain ⟨hc, hfr⟩ := bcell hb; have k0 : w'.cell? ⟨w.heap.size + 1, 0, none⟩ = some (.int .i64 0) := (hc _ _ (by simp)).trans (by simp [go_sem]); have k1 : w'.cell? ⟨w.heap.size + 1, 1, none⟩ = some (.int .u64 0) := (hc _ _ (by simp)).trans (by simp [go_sem]))
    all_goals go_wp2
    all_goals refine bodyPost_ret (v := .tuple #[.agg #[.int .i64 (0), .int .u64 (0)], .bool false]) (by simp [results, Try.results14, go_sem, *]) rfl ?_
    all_goals refine ⟨ret_wide (H.out.2 HF.out).1 (H.out.2 HF.out).2 rfl, ?_⟩
    all_goals (repeat' (first | (with_reducible exact Below.refl _ _) | (with_reducible refine below_call ?_ (by with_reducible assumption) (Nat.le_refl _)) | (with_reducible refine below_alloc ?_ _) | (with_reducible refine Below.drew ?_) | (with_reducible refine below_drewN ?_ _) | (with_reducible refine Below.setCell ?_ ?_ _) | go_size))
  · rw [hf] at es
    have HF := Lib.hid hf; clear hf
    go_enter Try.func14, Try.ntmps14
    go_wp2
    refine wp_loop_rounds 5 ?_
    iterate 4 (rw [rounds_succ]; go_wp2; go_region; go_wp2)
    rw [rounds_succ]; go_wp2
    go_region_with (go_at_call 16; (with_reducible refine (rof_any _ _ _ (hh_bd _).1 (hh_bd _).2 hz0 hz1).mono ?_); rintro e w' ⟨rfl, hb⟩; obtain ⟨hc, hfr⟩ := bcell hb; have k0 : w'.cell? ⟨w.heap.size + 1, 0, none⟩ = some (.int .i64 0) := (hc _ _ (by simp)).trans (by simp [go_sem]); have k1 : w'.cell? ⟨w.heap.size + 1, 1, none⟩ = some (.int .u64 0) := (hc _ _ (by simp)).trans (by simp [go_sem]))
    all_goals go_wp2
    all_goals refine bodyPost_ret (v := .tuple #[.agg #[.int .i64 (hh z), .int .u64 (z % 18446744073709551616)], .bool true]) (by simp [results, Try.results14, go_sem, *]) rfl ?_
    all_goals refine ⟨ret_wide (H.out.1 HF.out).1 (H.out.1 HF.out).2 rfl, ?_⟩
    all_goals (repeat' (first | (with_reducible exact Below.refl _ _) | (with_reducible refine below_call ?_ (by with_reducible assumption) (Nat.le_refl _)) | (with_reducible refine below_alloc ?_ _) | (with_reducible refine Below.drew ?_) | (with_reducible refine below_drewN ?_ _) | (with_reducible refine Below.setCell ?_ ?_ _) | go_size))
theorem radd_any (a b : Int) (w : World) (a0 : -9223372036854775808 ≤ a) (a1 : a ≤ 9223372036854775807) (b0 : -9223372036854775808 ≤ b) (b1 : b ≤ 9223372036854775807) :
    Calls Try.prog 31 #[.int .i64 a, .int .i64 b] w fun e w' => e = .returned (.tuple #[.int .i64 (f64 (a + b)), .bool (fit64 (a + b))]) ∧ Below w.heap.size w w' := by
  go_enter Try.func31, Try.ntmps31
  go_wp2_with (first
    | (go_at_call 20; (with_reducible refine (rofint_any _ _ (by omega) (by omega)).mono ?_); rintro e w' ⟨rfl, hb⟩)
    | (go_at_call 15; (with_reducible refine (rplus_any a b _ _ _ _ _ _ _ _ _ _ _ _ _ _ _ _ _ _ _ _ _ rfl rfl).mono ?_); rintro e w' ⟨rfl, hb⟩)
    | (go_at_call 22; (with_reducible refine (rint_any (a + b) _ _ _ _ _ _ _ _ _ _ _ rfl (by omega) (by omega)).mono ?_); rintro e w' ⟨rfl, hb⟩))
  go_ret2
  refine ⟨rfl, ?_⟩
  repeat' (first | (with_reducible exact Below.refl _ _) | (with_reducible refine below_call ?_ (by with_reducible assumption) (Nat.le_refl _)) | (with_reducible refine below_alloc ?_ _) | (with_reducible refine Below.drew ?_) | (with_reducible refine below_drewN ?_ _) | (with_reducible refine Below.setCell ?_ ?_ _) | go_size)
end Go.Proofs.Ytlnhfcfdjaecbaa.Wid
