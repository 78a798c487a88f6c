/- Texts that statements lean on, put together: WidEq, WidRMinus. -/
import Derived.Test.YtkflggojiiebeaaGreatQaa
import Derived.Test.YtkflggojiiebeaaGreatQab
import Derived.Test.YtkflggojiiebeaaGreatQca
import Derived.WalkKit
import Derived.Laws.BitsAllLaws
import Derived.Test.YtkflggojiiebeaaGreatRows
import Derived.Lib.Hide
import Derived.Handy
import Derived.Deep.QuietTactic
import Derived.BigQuiet
import Derived.Deep.RegionHeld3
import Derived.Shelf.Spec.BitsCarry
import Derived.ProofKit
import Derived.Deep.MidRow
import Derived.WalkSmall
namespace Go.Proofs.YtkflggojiiebeaaGreat.Wid
open Go.RowKit
theorem minus_dl (z : Int) : [65535 - dg z 0, 65535 - dg z 1, 65535 - dg z 2, 65535 - dg z 3, 65535 - dg z 4, 65535 - dg z 5, 65535 - dg z 6, 65535 - dg z 7, 65535 - dg z 8, 65535 - dg z 9] = dl (-1 - z) := by
  simp only [dl, List.cons.injEq, and_true, dg_0, dg_1, dg_2, dg_3, dg_4, dg_5, dg_6, dg_7, dg_8, dg_9]
  omega
theorem one_dl : [1, 0, 0, 0, 0, 0, 0, 0, 0, 0] = dl 1 := by decide
end Go.Proofs.YtkflggojiiebeaaGreat.Wid

namespace Go.Proofs.YtkflggojiiebeaaGreat.Wid
open Go.RowKit
set_option linter.unusedVariables false
set_option maxRecDepth 100000 in
theorem rminus_any (z : Int) (x0 x1 x2 x3 x4 x5 x6 x7 x8 x9 : Int) (w : World) (hx : [x0, x1, x2, x3, x4, x5, x6, x7, x8, x9] = dl z) :
    Calls Tryz.prog 61 #[.agg #[.int .i64 (x0), .int .i64 (x1), .int .i64 (x2), .int .i64 (x3), .int .i64 (x4), .int .i64 (x5), .int .i64 (x6), .int .i64 (x7), .int .i64 (x8), .int .i64 (x9)]] w fun e w' => e = .returned (.agg #[.int .i64 (dg (-z) 0), .int .i64 (dg (-z) 1), .int .i64 (dg (-z) 2), .int .i64 (dg (-z) 3), .int .i64 (dg (-z) 4), .int .i64 (dg (-z) 5), .int .i64 (dg (-z) 6), .int .i64 (dg (-z) 7), .int .i64 (dg (-z) 8), .int .i64 (dg (-z) 9)]) ∧ Below w.heap.size w w' := by
  simp only [dl, List.cons.injEq, and_true] at hx
  obtain ⟨rfl, rfl, rfl, rfl, rfl, rfl, rfl, rfl, rfl, rfl⟩ := hx
  have b0 := dg_bd z 0
  have b1 := dg_bd z 1
  have b2 := dg_bd z 2
  have b3 := dg_bd z 3
  have b4 := dg_bd z 4
  have b5 := dg_bd z 5
  have b6 := dg_bd z 6
  have b7 := dg_bd z 7
  have b8 := dg_bd z 8
  have b9 := dg_bd z 9
  have e : -1 - z + 1 = -z := by omega
  have E := Lib.hid e; clear e
  go_enter Tryz.func61, Tryz.ntmps61
  go_wp2_with fail
  refine wp_loop_rounds 11 ?_
  iterate 11 (rw [rounds_succ]; go_wp2_with fail)
  (with_reducible refine (rplus_any (-1 - z) 1 _ _ _ _ _ _ _ _ _ _ _ _ _ _ _ _ _ _ _ _ _ (minus_dl z) one_dl).mono ?_)
  rintro e w' ⟨rfl, hb⟩
  obtain ⟨hc, hfr⟩ := bcell hb
  have k0 : w'.cell? ⟨w.heap.size + 1, 0, none⟩ = some (.int .i64 0) := (hc _ _ (by simp)).trans (by simp [go_sem])
  have k1 : w'.cell? ⟨w.heap.size + 1, 1, none⟩ = some (.int .i64 0) := (hc _ _ (by simp)).trans (by simp [go_sem])
  have k2 : w'.cell? ⟨w.heap.size + 1, 2, none⟩ = some (.int .i64 0) := (hc _ _ (by simp)).trans (by simp [go_sem])
  have k3 : w'.cell? ⟨w.heap.size + 1, 3, none⟩ = some (.int .i64 0) := (hc _ _ (by simp)).trans (by simp [go_sem])
  have k4 : w'.cell? ⟨w.heap.size + 1, 4, none⟩ = some (.int .i64 0) := (hc _ _ (by simp)).trans (by simp [go_sem])
  have k5 : w'.cell? ⟨w.heap.size + 1, 5, none⟩ = some (.int .i64 0) := (hc _ _ (by simp)).trans (by simp [go_sem])
  have k6 : w'.cell? ⟨w.heap.size + 1, 6, none⟩ = some (.int .i64 0) := (hc _ _ (by simp)).trans (by simp [go_sem])
  have k7 : w'.cell? ⟨w.heap.size + 1, 7, none⟩ = some (.int .i64 0) := (hc _ _ (by simp)).trans (by simp [go_sem])
  have k8 : w'.cell? ⟨w.heap.size + 1, 8, none⟩ = some (.int .i64 0) := (hc _ _ (by simp)).trans (by simp [go_sem])
  have k9 : w'.cell? ⟨w.heap.size + 1, 9, none⟩ = some (.int .i64 0) := (hc _ _ (by simp)).trans (by simp [go_sem])
  clear hc
  go_wp2
  rw [← E.out]
  refine bodyPost_ret (v := .agg #[.int .i64 (dg (-1 - z + 1) 0), .int .i64 (dg (-1 - z + 1) 1), .int .i64 (dg (-1 - z + 1) 2), .int .i64 (dg (-1 - z + 1) 3), .int .i64 (dg (-1 - z + 1) 4), .int .i64 (dg (-1 - z + 1) 5), .int .i64 (dg (-1 - z + 1) 6), .int .i64 (dg (-1 - z + 1) 7), .int .i64 (dg (-1 - z + 1) 8), .int .i64 (dg (-1 - z + 1) 9)]) (by simp [results, Tryz.results61, go_sem, k0, k1, k2, k3, k4, k5, k6, k7, k8, k9]) rfl ?_
  refine ⟨rfl, ?_⟩
  repeat' (first | (with_reducible exact Below.refl _ _) | (with_reducible refine below_call ?_ (by with_reducible assumption) (Nat.le_refl _)) | (with_reducible refine below_alloc ?_ _) | (with_reducible refine Below.drew ?_) | (with_reducible refine below_drewN ?_ _) | (with_reducible refine Below.setCell ?_ ?_ _) | go_size)
end Go.Proofs.YtkflggojiiebeaaGreat.Wid

