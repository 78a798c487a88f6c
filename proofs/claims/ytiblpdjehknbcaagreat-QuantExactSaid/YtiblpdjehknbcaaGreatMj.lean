/- Texts that the statements of this seat lean on, put together: PcsCode, SkRef, SkDoc, SkDocC, LevDef, LevRef. -/
import Derived.Test.YtiblpdjehknbcaaGreatMa
import Derived.Test.YtiblpdjehknbcaaGreatMd
import Derived.Test.YtiblpdjehknbcaaGreatMe
import Derived.Test.YtiblpdjehknbcaaGreatMf
import Derived.Test.YtiblpdjehknbcaaGreatMg
import Derived.Test.YtiblpdjehknbcaaGreatMi
import Derived.WalkSpells
import Derived.Defers
import Derived.Deep.LoopGhost
import Derived.Deep.RegionHeld3
import Derived.Deep.DeepCutAuto
import Derived.Deep.QuietTactic
import Derived.BigQuiet
/- The walks of package pieces (the code's). Printed by wip/gen/pcscode.py. -/
namespace Go.Proofs.YtiblpdjehknbcaaGreat.Pcs
open Go Go.RowKit Lw
set_option linter.unusedVariables false
set_option linter.unusedSimpArgs false
theorem shlc {b : Int} (h0 : 0 ≤ b) (h1 : b ≤ 63) : IntKind.u64.wrap (2 ^ min b.toNat 64) = p2 b.toNat := by
  have e : min b.toNat 64 = b.toNat := by omega
  rw [e]
  have h2 : ((2 : Int) ^ b.toNat) = p2 b.toNat := by unfold p2; simp
  rw [h2]
  have h3 := p2_mono (show b.toNat ≤ 63 by omega)
  have h4 : p2 63 = 9223372036854775808 := rfl
  have h5 := p2_pos b.toNat
  exact u64_in (by omega) (by omega)
/-- How many pieces of a level there are. -/
def cntP (b L : Int) : Int := if 1 ≤ b ∧ b ≤ 59 ∧ 0 ≤ L ∧ L ≤ b then p2 (b - L).toNat else 0
theorem isP_cnt {b L i : Int} (h0 : 0 ≤ i) : isP b L i = decide (i < cntP b L) := by
  unfold isP cntP
  by_cases h : 1 ≤ b ∧ b ≤ 59 ∧ 0 ≤ L ∧ L ≤ b
  · rw [if_pos h]
    exact decide_eq_decide.2 ⟨fun g => g.2.2.2.2, fun g => ⟨h.1, h.2.1, h.2.2.1, h.2.2.2, g⟩⟩
  · rw [if_neg h]
    exact decide_eq_decide.2 ⟨fun g => absurd ⟨g.1, g.2.1, g.2.2.1, g.2.2.2.1⟩ h, fun g => by omega⟩
theorem cntP_bd (b L : Int) : 0 ≤ cntP b L ∧ cntP b L ≤ 1152921504606846976 := by
  unfold cntP
  split
  · have := p2_bd (show (b - L).toNat ≤ 60 by omega)
    omega
  · omega
set_option maxRecDepth 100000 in
theorem count_n1 (b L : Int) (w : World) (hb0 : -9223372036854775808 ≤ b) (hb1 : b ≤ 9223372036854775807) (hL0 : -9223372036854775808 ≤ L) (hL1 : L ≤ 9223372036854775807)  (h1 : ¬ 1 ≤ b) :
    Calls Tryz.prog 84 #[.int .i64 b, .int .i64 L] w fun e w' => e = .returned (.int .u64 (0)) ∧ w' = w := by
  have d1 : decide (b < 1) = true := decide_eq_true (by omega)
  have f1 : b < 1 := by omega
  clear hb0 hb1 hL0 hL1 h1
  go_enter Tryz.func84, Tryz.ntmps84
  go_wp2
  go_ret
  exact ⟨rfl, rfl⟩
set_option maxRecDepth 100000 in
theorem count_n2 (b L : Int) (w : World) (hb0 : -9223372036854775808 ≤ b) (hb1 : b ≤ 9223372036854775807) (hL0 : -9223372036854775808 ≤ L) (hL1 : L ≤ 9223372036854775807) (h1 : 1 ≤ b) (h2 : ¬ b ≤ 59) :
    Calls Tryz.prog 84 #[.int .i64 b, .int .i64 L] w fun e w' => e = .returned (.int .u64 (0)) ∧ w' = w := by
  have d1 : decide (b < 1) = false := decide_eq_false (by omega)
  have f1 : ¬ b < 1 := by omega
  have d2 : decide (59 < b) = true := decide_eq_true (by omega)
  have f2 : 59 < b := by omega
  clear hb0 hb1 hL0 hL1 h1 h2
  go_enter Tryz.func84, Tryz.ntmps84
  go_wp2
  go_ret
  exact ⟨rfl, rfl⟩
set_option maxRecDepth 100000 in
theorem count_n3 (b L : Int) (w : World) (hb0 : -9223372036854775808 ≤ b) (hb1 : b ≤ 9223372036854775807) (hL0 : -9223372036854775808 ≤ L) (hL1 : L ≤ 9223372036854775807) (h1 : 1 ≤ b) (h2 : b ≤ 59) (h3 : ¬ 0 ≤ L) :
    Calls Tryz.prog 84 #[.int .i64 b, .int .i64 L] w fun e w' => e = .returned (.int .u64 (0)) ∧ w' = w := by
  have d1 : decide (b < 1) = false := decide_eq_false (by omega)
  have f1 : ¬ b < 1 := by omega
  have d2 : decide (59 < b) = false := decide_eq_false (by omega)
  have f2 : ¬ 59 < b := by omega
  have d3 : decide (L < 0) = true := decide_eq_true (by omega)
  have f3 : L < 0 := by omega
  clear hb0 hb1 hL0 hL1 h1 h2 h3
  go_enter Tryz.func84, Tryz.ntmps84
  go_wp2
  go_ret
  exact ⟨rfl, rfl⟩
set_option maxRecDepth 100000 in
theorem count_n4 (b L : Int) (w : World) (hb0 : -9223372036854775808 ≤ b) (hb1 : b ≤ 9223372036854775807) (hL0 : -9223372036854775808 ≤ L) (hL1 : L ≤ 9223372036854775807) (h1 : 1 ≤ b) (h2 : b ≤ 59) (h3 : 0 ≤ L) (h4 : ¬ L ≤ b) :
    Calls Tryz.prog 84 #[.int .i64 b, .int .i64 L] w fun e w' => e = .returned (.int .u64 (0)) ∧ w' = w := by
  have d1 : decide (b < 1) = false := decide_eq_false (by omega)
  have f1 : ¬ b < 1 := by omega
  have d2 : decide (59 < b) = false := decide_eq_false (by omega)
  have f2 : ¬ 59 < b := by omega
  have d3 : decide (L < 0) = false := decide_eq_false (by omega)
  have f3 : ¬ L < 0 := by omega
  have d4 : decide (b < L) = true := decide_eq_true (by omega)
  have f4 : b < L := by omega
  clear hb0 hb1 hL0 hL1 h1 h2 h3 h4
  go_enter Tryz.func84, Tryz.ntmps84
  go_wp2
  go_ret
  exact ⟨rfl, rfl⟩
set_option maxRecDepth 100000 in
theorem count_y (b L : Int) (w : World) (hb0 : -9223372036854775808 ≤ b) (hb1 : b ≤ 9223372036854775807) (hL0 : -9223372036854775808 ≤ L) (hL1 : L ≤ 9223372036854775807) (h1 : 1 ≤ b) (h2 : b ≤ 59) (h3 : 0 ≤ L) (h4 : L ≤ b) :
    Calls Tryz.prog 84 #[.int .i64 b, .int .i64 L] w fun e w' => e = .returned (.int .u64 (p2 (b - L).toNat)) ∧ w' = w := by
  have d1 : decide (b < 1) = false := decide_eq_false (by omega)
  have f1 : ¬ b < 1 := by omega
  have d2 : decide (59 < b) = false := decide_eq_false (by omega)
  have f2 : ¬ 59 < b := by omega
  have d3 : decide (L < 0) = false := decide_eq_false (by omega)
  have f3 : ¬ L < 0 := by omega
  have d4 : decide (b < L) = false := decide_eq_false (by omega)
  have f4 : ¬ b < L := by omega
  have q0 : ¬ b - L < 0 := by omega
  have q1 : wrap64 (b - L) = b - L := IntWalk.wrap64_in _ ⟨by omega, by omega⟩
  have q2 : IntKind.i64.wrap (b - L) = b - L := IntWalk.i64_in _ ⟨by omega, by omega⟩
  have q3 := shlc (b := b - L) (by omega) (by omega)
  obtain ⟨X, hX⟩ : ∃ X, p2 (b - L).toNat = X := ⟨_, rfl⟩
  rw [hX] at q3 ⊢
  clear hX
  obtain ⟨D, hD⟩ : ∃ D, b - L = D := ⟨_, rfl⟩
  rw [hD] at q0 q1 q2 q3
  have q4 : wrap64 (b - L) = D := by rw [hD]; exact q1
  have q5 : IntKind.i64.wrap (b - L) = D := by rw [hD]; exact q2
  clear hD
  clear hb0 hb1 hL0 hL1 h1 h2 h3 h4
  go_enter Tryz.func84, Tryz.ntmps84
  go_wp2
  go_ret
  exact ⟨rfl, rfl⟩
theorem count_any (b L : Int) (w : World) (hb0 : -9223372036854775808 ≤ b) (hb1 : b ≤ 9223372036854775807) (hL0 : -9223372036854775808 ≤ L) (hL1 : L ≤ 9223372036854775807) :
    Calls Tryz.prog 84 #[.int .i64 b, .int .i64 L] w fun e w' => e = .returned (.int .u64 (cntP b L)) ∧ w' = w := by
  unfold cntP
  by_cases h1 : 1 ≤ b
  · by_cases h2 : b ≤ 59
    · by_cases h3 : 0 ≤ L
      · by_cases h4 : L ≤ b
        · rw [if_pos ⟨h1, h2, h3, h4⟩]; exact count_y b L w hb0 hb1 hL0 hL1 h1 h2 h3 h4
        · rw [if_neg (fun h => h4 h.2.2.2)]; exact count_n4 b L w hb0 hb1 hL0 hL1 h1 h2 h3 h4
      · rw [if_neg (fun h => h3 h.2.2.1)]; exact count_n3 b L w hb0 hb1 hL0 hL1 h1 h2 h3
    · rw [if_neg (fun h => h2 h.2.1)]; exact count_n2 b L w hb0 hb1 hL0 hL1 h1 h2
  · rw [if_neg (fun h => h1 h.1)]; exact count_n1 b L w hb0 hb1 hL0 hL1 h1
set_option maxRecDepth 100000 in
set_option maxHeartbeats 4000000 in
theorem chalves_0 (b i : Int) (w : World) :
    Calls Tryz.prog 75 #[.int .i64 b, .agg #[.int .i64 0, .int .u64 i]] w fun e w' => e = .returned (.tuple #[.agg #[.int .i64 0, .int .u64 0], .agg #[.int .i64 0, .int .u64 0], .bool false]) ∧ Below w.heap.size w w' := by
  go_enter Tryz.func75, Tryz.ntmps75
  go_upto_region 1 with fail
  refine wp_region_held_drew (S := (fun w' => w'.cell? ⟨w.heap.size, 0, none⟩ = some (.int .i64 0) ∧ w'.cell? ⟨w.heap.size, 1, none⟩ = some (.int .u64 i))) (by kernel_rfl) (by simp [go_sem]) (fun hHeld => ?_)
  refine wpAnyH_take (i := 0) (v := ?_) rfl (by kernel_rfl) (by kernel_rfl) (by kernel_rfl) (fun _ _ _ h => h) (Or.inl ⟨by rfl, ?_⟩) hHeld ?_
  rotate_left
  · intro w hSw
    (try dsimp only at hSw)
    go_simp
    (try with_reducible rfl)
  (try simp only [List.getElem_toArray, List.getElem_cons_zero, List.getElem_cons_succ, Act.put, List.setIfInBounds_toArray, List.set_cons_zero, List.set_cons_succ])
  refine wpAnyH_take (i := 1) (v := ?_) rfl (by kernel_rfl) (by kernel_rfl) (by kernel_rfl) (fun _ _ _ h => h) (Or.inl ⟨by rfl, ?_⟩) hHeld ?_
  rotate_left
  · intro w hSw
    (try dsimp only at hSw)
    go_simp
    (try with_reducible rfl)
  (try simp only [List.getElem_toArray, List.getElem_cons_zero, List.getElem_cons_succ, Act.put, List.setIfInBounds_toArray, List.set_cons_zero, List.set_cons_succ])
  refine wpAnyH_take (i := 2) (v := ?_) rfl (by kernel_rfl) (by kernel_rfl) (by kernel_rfl) (fun _ _ _ h => h) (Or.inl ⟨by rfl, ?_⟩) hHeld ?_
  rotate_left
  · intro w hSw
    (try dsimp only at hSw)
    go_simp
    (try with_reducible rfl)
  (try simp only [List.getElem_toArray, List.getElem_cons_zero, List.getElem_cons_succ, Act.put, List.setIfInBounds_toArray, List.set_cons_zero, List.set_cons_succ])
  refine wpAnyH_take (i := 3) (v := ?_) rfl (by kernel_rfl) (by kernel_rfl) (by kernel_rfl) (fun _ _ _ h => h) (Or.inl ⟨by rfl, ?_⟩) hHeld ?_
  rotate_left
  · intro w hSw
    (try dsimp only at hSw)
    go_simp
    (try with_reducible rfl)
  (try simp only [List.getElem_toArray, List.getElem_cons_zero, List.getElem_cons_succ, Act.put, List.setIfInBounds_toArray, List.set_cons_zero, List.set_cons_succ])
  refine wpAnyH_take (i := 4) (v := undef) rfl (by kernel_rfl) (by kernel_rfl) (by kernel_rfl) (fun _ _ _ h => h) (Or.inr ⟨by rfl, rfl⟩) hHeld ?_
  (try simp only [List.getElem_toArray, List.getElem_cons_zero, List.getElem_cons_succ, Act.put, List.setIfInBounds_toArray, List.set_cons_zero, List.set_cons_succ])
  refine wpAnyH_take (i := 5) (v := undef) rfl (by kernel_rfl) (by kernel_rfl) (by kernel_rfl) (fun _ _ _ h => h) (Or.inr ⟨by rfl, rfl⟩) hHeld ?_
  (try simp only [List.getElem_toArray, List.getElem_cons_zero, List.getElem_cons_succ, Act.put, List.setIfInBounds_toArray, List.set_cons_zero, List.set_cons_succ])
  refine wpAnyH_take (i := 6) (v := undef) rfl (by kernel_rfl) (by kernel_rfl) (by kernel_rfl) (fun _ _ _ h => h) (Or.inr ⟨by rfl, rfl⟩) hHeld ?_
  (try simp only [List.getElem_toArray, List.getElem_cons_zero, List.getElem_cons_succ, Act.put, List.setIfInBounds_toArray, List.set_cons_zero, List.set_cons_succ])
  refine wpAnyH_take (i := 7) (v := undef) rfl (by kernel_rfl) (by kernel_rfl) (by kernel_rfl) (fun _ _ _ h => h) (Or.inr ⟨by rfl, rfl⟩) hHeld ?_
  (try simp only [List.getElem_toArray, List.getElem_cons_zero, List.getElem_cons_succ, Act.put, List.setIfInBounds_toArray, List.set_cons_zero, List.set_cons_succ])
  refine wpAnyH_take (i := 8) (v := undef) rfl (by kernel_rfl) (by kernel_rfl) (by kernel_rfl) (fun _ _ _ h => h) (Or.inr ⟨by rfl, rfl⟩) hHeld ?_
  (try simp only [List.getElem_toArray, List.getElem_cons_zero, List.getElem_cons_succ, Act.put, List.setIfInBounds_toArray, List.set_cons_zero, List.set_cons_succ])
  refine wpAnyH_ready (rs := [9]) (by kernel_rfl) (by simp) ?_
  refine AllReadyH.cons rfl (fun K hK => ?_) AllReadyH.nil
  go_simp
  refine hK.out _ _ (by simp [go_sem]) (fun hHeld => ?_)
  clear hK K
  (try simp only [List.getElem_toArray, List.getElem_cons_zero, List.getElem_cons_succ, Act.put, List.setIfInBounds_toArray, List.set_cons_zero, List.set_cons_succ])
  refine wpAnyH_take (i := 10) (v := undef) rfl (by kernel_rfl) (by kernel_rfl) (by kernel_rfl) (fun _ _ _ h => h) (Or.inr ⟨by rfl, rfl⟩) hHeld ?_
  (try simp only [List.getElem_toArray, List.getElem_cons_zero, List.getElem_cons_succ, Act.put, List.setIfInBounds_toArray, List.set_cons_zero, List.set_cons_succ])
  refine wpAnyH_take (i := 11) (v := ?_) rfl (by kernel_rfl) (by kernel_rfl) (by kernel_rfl) (fun _ _ _ h => h) (Or.inl ⟨by rfl, ?_⟩) hHeld ?_
  rotate_left
  · intro w hSw
    (try dsimp only at hSw)
    go_simp
    (try with_reducible rfl)
  (try simp only [List.getElem_toArray, List.getElem_cons_zero, List.getElem_cons_succ, Act.put, List.setIfInBounds_toArray, List.set_cons_zero, List.set_cons_succ])
  refine wpAnyH_done (by kernel_rfl) ?_ _
  go_wp2
  all_goals refine bodyPost_ret (v := .tuple #[.agg #[.int .i64 0, .int .u64 0], .agg #[.int .i64 0, .int .u64 0], .bool false]) (by simp [results, Tryz.results75, go_sem, *]) rfl ?_
  all_goals exact ⟨rfl, (by repeat' (first | (with_reducible exact Below.refl _ _) | (with_reducible assumption) | (with_reducible refine below_over ?_ _ _) | (with_reducible refine Lw.below_alloc ?_ _) | (with_reducible refine Below.drew ?_) | (with_reducible refine below_drewN ?_ _) | (with_reducible refine Below.setCell ?_ ?_ _) | go_size))⟩
set_option maxRecDepth 100000 in
set_option maxHeartbeats 4000000 in
theorem chalves_n (b L i : Int) (w : World) (hb0 : -9223372036854775808 ≤ b) (hb1 : b ≤ 9223372036854775807) (hL0 : -9223372036854775808 ≤ L) (hL1 : L ≤ 9223372036854775807) (hi0 : 0 ≤ i) (hi1 : i ≤ 18446744073709551615) (hP : isP b L i = false) (hL : ¬ L = 0) :
    Calls Tryz.prog 75 #[.int .i64 b, .agg #[.int .i64 L, .int .u64 i]] w fun e w' => e = .returned (.tuple #[.agg #[.int .i64 0, .int .u64 0], .agg #[.int .i64 0, .int .u64 0], .bool false]) ∧ Below w.heap.size w w' := by
  have CC := Lib.hid (fun w => count_any b L w hb0 hb1 hL0 hL1)
  obtain ⟨X, hX⟩ : ∃ X, cntP b L = X := ⟨_, rfl⟩
  rw [isP_cnt hi0] at hP
  rw [hX] at CC hP
  have hP := of_decide_eq_false hP
  have d1 : decide (X ≤ i) = true := decide_eq_true (by omega)
  have f1 : X ≤ i := by omega
  have f2 : ¬ i < X := hP
  have l1 : (L == 0) = false := by simpa using hL
  clear hb0 hb1 hL0 hL1 hi0 hi1 hX hP
  go_enter Tryz.func75, Tryz.ntmps75
  go_upto_region 1 with fail
  go_quiet (first | (go_at_call 84; with_reducible refine Calls.quiet_of_same (CC.out _)))
  all_goals go_wp2
  all_goals refine bodyPost_ret (v := .tuple #[.agg #[.int .i64 0, .int .u64 0], .agg #[.int .i64 0, .int .u64 0], .bool false]) (by simp [results, Tryz.results75, go_sem, *]) rfl ?_
  all_goals exact ⟨rfl, (by repeat' (first | (with_reducible exact Below.refl _ _) | (with_reducible assumption) | (with_reducible refine below_over ?_ _ _) | (with_reducible refine Lw.below_alloc ?_ _) | (with_reducible refine Below.drew ?_) | (with_reducible refine below_drewN ?_ _) | (with_reducible refine Below.setCell ?_ ?_ _) | go_size))⟩
set_option maxRecDepth 100000 in
set_option maxHeartbeats 4000000 in
theorem chalves_y (b L i : Int) (w : World) (hb0 : -9223372036854775808 ≤ b) (hb1 : b ≤ 9223372036854775807) (hL0 : -9223372036854775808 ≤ L) (hL1 : L ≤ 9223372036854775807) (hi0 : 0 ≤ i) (hi1 : i ≤ 18446744073709551615) (hP : isP b L i = true) (hL : ¬ L = 0) :
    Calls Tryz.prog 75 #[.int .i64 b, .agg #[.int .i64 L, .int .u64 i]] w fun e w' => e = .returned (.tuple #[.agg #[.int .i64 (L - 1), .int .u64 (2 * i)], .agg #[.int .i64 (L - 1), .int .u64 (2 * i + 1)], .bool true]) ∧ Below w.heap.size w w' := by
  have CC := Lib.hid (fun w => count_any b L w hb0 hb1 hL0 hL1)
  obtain ⟨h1, h2, h3, h4, h5, h6, h7⟩ := isP_bd hP hi0
  have hq := p2_bd (show (b - L).toNat ≤ 60 by omega)
  have w1 : wrap64 (L - 1) = L - 1 := IntWalk.wrap64_in _ ⟨by omega, by omega⟩
  have w2 : IntKind.i64.wrap (L - 1) = L - 1 := IntWalk.i64_in _ ⟨by omega, by omega⟩
  have w3 : IntKind.u64.wrap (2 * i) = 2 * i := u64_in (by omega) (by omega)
  have w4 : IntKind.u64.wrap (2 * i + 1) = 2 * i + 1 := u64_in (by omega) (by omega)
  obtain ⟨X, hX⟩ : ∃ X, cntP b L = X := ⟨_, rfl⟩
  rw [isP_cnt hi0] at hP
  rw [hX] at CC hP
  have hP := of_decide_eq_true hP
  have d1 : decide (X ≤ i) = false := decide_eq_false (by omega)
  have f1 : ¬ X ≤ i := by omega
  have f2 : i < X := hP
  have l1 : (L == 0) = false := by simpa using hL
  clear hb0 hb1 hL0 hL1 hi0 hi1 hX hP h1 h2 h3 h4 h5 h6 h7 hq
  go_enter Tryz.func75, Tryz.ntmps75
  go_upto_region 1 with fail
  go_quiet (first | (go_at_call 84; with_reducible refine Calls.quiet_of_same (CC.out _)))
  all_goals go_upto_region 5 with fail
  all_goals go_region
  all_goals go_wp2
  all_goals refine bodyPost_ret (v := .tuple #[.agg #[.int .i64 (L - 1), .int .u64 (2 * i)], .agg #[.int .i64 (L - 1), .int .u64 (2 * i + 1)], .bool true]) (by simp [results, Tryz.results75, go_sem, *]) rfl ?_
  all_goals exact ⟨rfl, (by repeat' (first | (with_reducible exact Below.refl _ _) | (with_reducible assumption) | (with_reducible refine below_over ?_ _ _) | (with_reducible refine Lw.below_alloc ?_ _) | (with_reducible refine Below.drew ?_) | (with_reducible refine below_drewN ?_ _) | (with_reducible refine Below.setCell ?_ ?_ _) | go_size))⟩
theorem chalves_any (b L i : Int) (w : World) (hb0 : -9223372036854775808 ≤ b) (hb1 : b ≤ 9223372036854775807) (hL0 : -9223372036854775808 ≤ L) (hL1 : L ≤ 9223372036854775807) (hi0 : 0 ≤ i) (hi1 : i ≤ 18446744073709551615) :
    Calls Tryz.prog 75 #[.int .i64 b, .agg #[.int .i64 L, .int .u64 i]] w fun e w' => e = .returned (.tuple #[.agg #[.int .i64 (haL b L i), .int .u64 (haX b L i)], .agg #[.int .i64 (haL b L i), .int .u64 (haY b L i)], .bool (haB b L i)]) ∧ Below w.heap.size w w' := by
  unfold haL haX haY haB
  by_cases hL : L = 0
  · subst hL
    have e : (isP b 0 i && decide ((0 : Int) < 0)) = false := by simp
    rw [e, if_neg (by simp), if_neg (by simp), if_neg (by simp)]
    exact chalves_0 b i w
  · cases h : isP b L i with
    | false =>
      have e : (false && decide ((0 : Int) < L)) = false := rfl
      rw [e, if_neg (by simp), if_neg (by simp), if_neg (by simp)]
      exact chalves_n b L i w hb0 hb1 hL0 hL1 hi0 hi1 h hL
    | true =>
      obtain ⟨h1, h2, h3, h4, h5, h6, h7⟩ := isP_bd h hi0
      have e : (true && decide ((0 : Int) < L)) = true := by simp; omega
      rw [e, if_pos rfl, if_pos rfl, if_pos rfl]
      exact chalves_y b L i w hb0 hb1 hL0 hL1 hi0 hi1 h hL
theorem flatP_app (us vs : List (Int × Int)) : flatP (us ++ vs) = flatP us ++ flatP vs := List.flatMap_append
/-- What cut holds: the row of the left pieces in a cell, and a block for each right piece, the last one first. -/
structure CutI (w0 w : World) (N : Nat) (xs : List (Nat × Nat)) (rs : List (Nat × Nat × Nat)) (v : Value) : Prop where
  cell : w.heap[w0.heap.size]? = some (.cells #[v] 42 (0, 0))
  own : w.ownsRow w0.heap.size 61 2 v xs.length (flatP (ints xs))
  ne : ∀ k, v.ownBlock = some k → k ≠ w0.heap.size ∧ ∀ r ∈ rs, k ≠ r.1
  bx : ∀ r ∈ rs, w.heap[r.1]? = some (.cells #[.int .i64 (r.2.1 : Int), .int .u64 (r.2.2 : Int)] 61 (0, 0)) ∧ r.1 ≠ w0.heap.size ∧ w0.heap.size ≤ r.1
  below : Below w0.heap.size w0 w
  len : xs.length + rs.length ≤ N
theorem hp_lt {w : World} {b : Nat} {o : Obj} (h : w.heap[b]? = some o) : b < w.heap.size := by
  rcases Nat.lt_or_ge b w.heap.size with h1 | h1
  · exact h1
  · rw [Array.getElem?_eq_none h1] at h; cases h
theorem CutI.cl {w0 w : World} {N : Nat} {xs : List (Nat × Nat)} {rs : List (Nat × Nat × Nat)} {v : Value} (h : CutI w0 w N xs rs v) : w.cell? ⟨w0.heap.size, 0, none⟩ = some v ∧ w.frozen? ⟨w0.heap.size, 0, none⟩ = false ∧ w0.heap.size < w.heap.size := by
  have h1 := h.cell
  exact ⟨box_cell h1 rfl, by simp [World.frozen?, h1], hp_lt h1⟩
theorem ints_one (k a : Nat) : ints [(k, a)] = [((k : Int), (a : Int))] := rfl
/-- A piece put behind the row. -/
theorem CutI.app {w0 w w1 w2 : World} {N : Nat} {xs : List (Nat × Nat)} {rs : List (Nat × Nat × Nat)} {v v' : Value} {k a : Nat} (h : CutI w0 w N xs rs v) (hb : Below w.heap.size w w1) (hlt : w.heap.size < w1.heap.size)
    (ho : w2.ownsRow w0.heap.size 61 2 v' (xs.length + 1) (flatP (ints xs) ++ [.int .i64 (k : Int), .int .u64 (a : Int)])) (hg : w1.grownBy w2 v.ownBlock) (hv' : ∀ k, v'.ownBlock = some k → v.ownBlock = some k ∨ w1.heap.size ≤ k) :
    CutI w0 (w2.setCell ⟨w0.heap.size, 0, none⟩ v') (N + 1) (xs ++ [(k, a)]) rs v' := by
  have hl := h.cl.2.2
  have hnv : ∀ b, b < w.heap.size → (∀ k, v.ownBlock = some k → k ≠ b) → w2.heap[b]? = w.heap[b]? := fun b hlb hb1 => by
    rw [hg.block b (by have := hb.4; omega) (fun e => hb1 b e.symm rfl)]
    exact hb.5 b hlb
  have hs : ∀ b, b ≠ w0.heap.size → (w2.setCell ⟨w0.heap.size, 0, none⟩ v').heap[b]? = w2.heap[b]? := fun b hb1 => by
    simp only [World.setCell, Array.getElem?_modify]
    rw [if_neg (fun e => hb1 e.symm)]
  have hc2 : w2.heap[w0.heap.size]? = some (.cells #[v] 42 (0, 0)) := by
    rw [hnv _ hl (fun k hk => (h.ne k hk).1)]
    exact h.cell
  have hn' : ∀ k, v'.ownBlock = some k → k ≠ w0.heap.size ∧ ∀ r ∈ rs, k ≠ r.1 := fun k hk => by
    rcases hv' k hk with g | g
    · exact h.ne k g
    · have h4 := hb.4
      exact ⟨by omega, fun r hr => by have := hp_lt (h.bx r hr).1; omega⟩
  refine ⟨?_, ?_, hn', ?_, ?_, ?_⟩
  · simp [World.setCell, Array.getElem?_modify, hc2]
  · rw [List.length_append, ints_app, flatP_app, ints_one]
    refine ⟨ho.1, ?_⟩
    rcases ho.2 with g | ⟨g, cap, cur, e1, e2, e3, e4⟩
    · exact .inl g
    · refine .inr ⟨g, cap, cur, e1, e2, ?_, e4⟩
      rw [hs g (hn' g (by rw [e1]; rfl)).1]
      exact e3
  · intro r hr
    obtain ⟨g1, g2, g3⟩ := h.bx r hr
    refine ⟨?_, g2, g3⟩
    rw [hs _ g2, hnv _ (hp_lt g1) (fun k hk => (h.ne k hk).2 r hr)]
    exact g1
  · have hbl := h.below
    have h1 : Below w0.heap.size w0 w1 := hbl.trans (hb.mono hbl.4)
    have h2 : Kept (fun _ => False) w0 w2 := (Kept.of_below (F := fun _ => False) h1).grown hg (fun q hq => .inr (by rcases h.own.lt q hq with ⟨g, _⟩; exact g))
    exact (h2.set (.inr (Nat.le_refl _)) 0 v').below
  · rw [List.length_append]
    have := h.len
    simp
    omega
theorem CutI.st {w0 w w1 w2 : World} {N : Nat} {xs : List (Nat × Nat)} {rs : List (Nat × Nat × Nat)} {v : Value} (h : CutI w0 w N xs rs v) (hb : Below w.heap.size w w1) (hg : w1.grownBy w2 v.ownBlock) : w2.cell? ⟨w0.heap.size, 0, none⟩ = some v ∧ w2.frozen? ⟨w0.heap.size, 0, none⟩ = false := by
  have hl := h.cl.2.2
  have h1 : w2.heap[w0.heap.size]? = some (.cells #[v] 42 (0, 0)) := by
    rw [hg.block _ (by have := hb.4; omega) (fun e => (h.ne _ e.symm).1 rfl), hb.5 _ hl]
    exact h.cell
  exact ⟨box_cell h1 rfl, by simp [World.frozen?, h1]⟩
theorem own_slice {w : World} {base : Nat} {e : TypeId} {size : Nat} {v : Value} {n : Nat} {xs : List Value} (h : w.ownsRow base e size v n xs) : ∃ (A : Option Addr) (m cap : Nat), v = .slice A m cap := by
  rcases h.2 with ⟨h1, _⟩ | ⟨g, cap, cur, h1, _⟩
  · exact ⟨_, _, _, h1⟩
  · exact ⟨_, _, _, h1⟩
theorem CutI.same {w0 w : World} {N : Nat} {xs : List (Nat × Nat)} {rs : List (Nat × Nat × Nat)} {v : Value} (h : CutI w0 w N xs rs v) : w.setCell ⟨w0.heap.size, 0, none⟩ v = w := by
  have h1 := h.cell
  have h2 : (w.setCell ⟨w0.heap.size, 0, none⟩ v).heap = w.heap := by
    apply Array.ext_getElem?
    intro i
    simp only [World.setCell, Array.getElem?_modify]
    by_cases hi : w0.heap.size = i
    · subst hi
      rw [if_pos rfl, h1]
      rfl
    · rw [if_neg hi]
  have h3 : w.setCell ⟨w0.heap.size, 0, none⟩ v = { w with heap := (w.setCell ⟨w0.heap.size, 0, none⟩ v).heap } := rfl
  rw [h3, h2]
theorem CutI.mono {w0 w : World} {N M : Nat} {xs : List (Nat × Nat)} {rs : List (Nat × Nat × Nat)} {v : Value} (h : CutI w0 w N xs rs v) (hN : N ≤ M) : CutI w0 w M xs rs v :=
  ⟨h.cell, h.own, h.ne, h.bx, h.below, Nat.le_trans h.len hN⟩
/-- A block for one more right piece. -/
theorem own2_up' {w w' : World} {base : Nat} {e : TypeId} {size : Nat} {v : Value} {n : Nat} {xs : List Value} (h : w.ownsRow base e size v n xs) (hb : Below w.heap.size w w') : w'.ownsRow base e size v n xs :=
  (Kept.of_below (F := fun _ => False) hb).own h (fun _ _ h => h)
theorem CutI.right {w0 w w1 : World} {N : Nat} {xs : List (Nat × Nat)} {rs : List (Nat × Nat × Nat)} {v : Value} {k a g : Nat} (h : CutI w0 w N xs rs v) (hb : Below w.heap.size w w1) (hg : w.heap.size ≤ g) (hc : w1.heap[g]? = some (.cells #[.int .i64 (k : Int), .int .u64 (a : Int)] 61 (0, 0))) :
    CutI w0 w1 (N + 1) xs ((g, k, a) :: rs) v := by
  have hl := h.cl.2.2
  have hk : ∀ b, b < w.heap.size → w1.heap[b]? = w.heap[b]? := hb.5
  refine ⟨?_, own2_up' h.own hb, fun q hq => ?_, fun r hr => ?_, h.below.trans (hb.mono h.below.4), ?_⟩
  · rw [hk _ hl]
    exact h.cell
  · refine ⟨(h.ne q hq).1, fun r hr => ?_⟩
    rcases List.mem_cons.1 hr with rfl | hr
    · have := (h.own.lt q hq).2
      show q ≠ g
      omega
    · exact (h.ne q hq).2 r hr
  · rcases List.mem_cons.1 hr with rfl | hr
    · exact ⟨hc, by show g ≠ _; omega, by show _ ≤ g; omega⟩
    · obtain ⟨g1, g2, g3⟩ := h.bx r hr
      exact ⟨by rw [hk _ (hp_lt g1)]; exact g1, g2, g3⟩
  · have := h.len
    simp
    omega
theorem CutI.two {w0 w : World} {N : Nat} {xs : List (Nat × Nat)} {rs : List (Nat × Nat × Nat)} {v : Value} {g k a : Nat} (h : CutI w0 w N xs ((g, k, a) :: rs) v) : w.cell? ⟨g, 0, none⟩ = some (.int .i64 (k : Int)) ∧ w.cell? ⟨g, 1, none⟩ = some (.int .u64 (a : Int)) := by
  have h1 := (h.bx (g, k, a) (List.mem_cons_self ..)).1
  exact ⟨box_cell h1 rfl, box_cell h1 rfl⟩
theorem CutI.tail {w0 w : World} {N : Nat} {xs : List (Nat × Nat)} {rs : List (Nat × Nat × Nat)} {v : Value} {r : Nat × Nat × Nat} (h : CutI w0 w (N + 1) xs (r :: rs) v) : CutI w0 w N xs rs v :=
  ⟨h.cell, h.own, fun k hk => ⟨(h.ne k hk).1, fun q hq => (h.ne k hk).2 q (List.mem_cons_of_mem _ hq)⟩, fun q hq => h.bx q (List.mem_cons_of_mem _ hq), h.below, by have := h.len; simp at this; omega⟩
theorem loop_k {P : Program} {Q : Exit → Act → World → Prop} {a : Act} {w : World} {c : Code} (I : Act → World → Prop) (μ : Act → World → Nat) (h₀ : I a w)
    (round : ∀ a w, I a w → ∀ (K : Act → World → Prop), (∀ a' w', I a' w' → μ a' w' < μ a w → K a' w') → c.wp P (Exit.then K Q) a w) : (Code.loop c).wp P Q a w :=
  wp_loop I μ h₀ (fun a w h => round a w h _ (fun _ _ h1 h2 => ⟨h1, h2⟩))
/-- What the loop of cut keeps. -/
def CutL (w0 : World) (B E S : Nat) (j e L : Nat) (xs : List (Nat × Nat)) (rs : List (Nat × Nat × Nat)) (v : Value) (w : World) : Prop :=
  CutI w0 w (2 * L) xs rs v ∧ (j ≤ e ∧ L ≤ B + 1) ∧ e * 2 ^ L ≤ 2 ^ B ∧ ∀ m, Cov B (e * 2 ^ L) (j * 2 ^ L) m → Cov B E S (xs ++ m ++ rs.map (·.2))
theorem CutL.lev {w0 w : World} {B E S j e L : Nat} {xs : List (Nat × Nat)} {rs : List (Nat × Nat × Nat)} {v : Value} (h : CutL w0 B E S j e L xs rs v w) (hj : j < e) : L ≤ B := by
  rcases Nat.lt_or_ge B L with g | g
  · have h3 : 2 ^ B < 2 ^ L := Nat.pow_lt_pow_right (by omega) g
    have h4 := h.2.2.1
    have h5 : 1 * 2 ^ L ≤ e * 2 ^ L := Nat.mul_le_mul_right _ (by omega)
    omega
  · exact g
theorem half_pow {a L : Nat} (h : a % 2 = 0) : a / 2 * 2 ^ (L + 1) = a * 2 ^ L := by
  rw [Nat.pow_succ, Nat.mul_comm (2 ^ L), ← Nat.mul_assoc, Nat.div_mul_cancel (Nat.dvd_of_mod_eq_zero h)]
/-- One level up: both even. -/
theorem CutL.up {w0 w : World} {B E S j e L : Nat} {xs : List (Nat × Nat)} {rs : List (Nat × Nat × Nat)} {v : Value} (hL : L ≤ B) (h : CutI w0 w (2 * (L + 1)) xs rs v) (hj : j ≤ e) (hj2 : j % 2 = 0) (he2 : e % 2 = 0) (hb : e * 2 ^ L ≤ 2 ^ B) (hc : ∀ m, Cov B (e * 2 ^ L) (j * 2 ^ L) m → Cov B E S (xs ++ m ++ rs.map (·.2))) :
    CutL w0 B E S (j / 2) (e / 2) (L + 1) xs rs v w :=
  ⟨h, ⟨by omega, by omega⟩, by rw [half_pow he2]; exact hb, fun m hm => hc m (by rw [half_pow he2, half_pow hj2] at hm; exact hm)⟩
theorem cov_left {B E S j e L : Nat} {xs : List (Nat × Nat)} {ms : List (Nat × Nat)} (hj : j < e) (hj1 : j % 2 = 1) (hb : e * 2 ^ L ≤ 2 ^ B) (hc : ∀ m, Cov B (e * 2 ^ L) (j * 2 ^ L) m → Cov B E S (xs ++ m ++ ms)) : ∀ m, Cov B (e * 2 ^ L) ((j + 1) * 2 ^ L) m → Cov B E S ((xs ++ [(L, j)]) ++ m ++ ms) := fun m hm => by
  have h1 := hc _ (hm.left hj1 hj hb)
  rw [List.append_assoc xs, List.singleton_append]
  exact h1
theorem cov_right {B E S j e L : Nat} {xs : List (Nat × Nat)} {ms : List (Nat × Nat)} (he1 : (e + 1) % 2 = 1) (hb : (e + 1) * 2 ^ L ≤ 2 ^ B) (hc : ∀ m, Cov B ((e + 1) * 2 ^ L) (j * 2 ^ L) m → Cov B E S (xs ++ m ++ ms)) : ∀ m, Cov B (e * 2 ^ L) (j * 2 ^ L) m → Cov B E S (xs ++ m ++ (L, e) :: ms) := fun m hm => by
  have h1 := hc _ (hm.last (by omega) hb (Nat.dvd_mul_left _ _))
  rw [← List.append_assoc, List.append_assoc (xs ++ m), List.singleton_append] at h1
  exact h1
theorem okC_cnt {b lo hi : Int} (h0 : 0 ≤ hi) : okC b lo hi = (decide (lo ≤ hi) && decide (hi < cntP b 0)) := by
  unfold okC cntP
  by_cases h : 1 ≤ b ∧ b ≤ 59
  · rw [if_pos ⟨h.1, h.2, by omega, by omega⟩, show (b - 0).toNat = b.toNat by rw [Int.sub_zero], ← Bool.decide_and]
    exact decide_eq_decide.2 ⟨fun g => g.2.2, fun g => ⟨h.1, h.2, g⟩⟩
  · rw [if_neg (fun g => h ⟨g.1, g.2.1⟩), ← Bool.decide_and]
    exact decide_eq_decide.2 ⟨fun g => absurd ⟨g.1, g.2.1⟩ h, fun g => by omega⟩
end Go.Proofs.YtiblpdjehknbcaaGreat.Pcs
/- The document's sketch: a block of its config, its level and its grid; New, Update. Printed by wip/gen/skref.py. -/
namespace Go.Proofs.YtiblpdjehknbcaaGreat.Sk
open Go Go.RowKit Lw Grd Lin Con Shp
set_option linter.unusedVariables false
set_option linter.unusedSimpArgs false
/-- A sketch of the document at p, in the blocks F. -/
def DS (w : World) (p : Addr) (F : Nat → Prop) (c : Cfg) (l : Int) (L : List (List Int)) : Prop :=
  IsRight c ∧ c.Ok ∧ 0 ≤ l ∧ l ≤ c.bt ∧ ∃ (b : Nat) (gp : Addr) (G : Nat → Prop), p = ⟨b, 0, none⟩ ∧ w.heap[b]? = some (.cells #[.int .i64 c.bt, .int .i64 c.rw, .int .i64 c.wd, .int .i64 c.md, .int .u64 c.sd, .int .i64 l, .pointer (some gp)] 106 (0, 0)) ∧ DG w gp G (rws c) (wds c) L ∧ ¬ G b ∧ F = (fun k => k = b ∨ G k)
theorem DS.keep {w' : World} {H : Nat → Prop} {w : World} {p : Addr} {F : Nat → Prop} {c : Cfg} {l : Int} {L : List (List Int)} (h : DS w p F c l L) (hk : Kept H w w') (hf : ∀ k, F k → ¬ H k) : DS w' p F c l L := by
  obtain ⟨hr, hok, hl0, hl1, b, gp, G, rfl, hb, hg, hGb, rfl⟩ := h
  exact ⟨hr, hok, hl0, hl1, b, gp, G, rfl, hk.heap hb (hf b (.inl rfl)), (dgT gp G _ _ L).keep w w' H hg hk (fun k h => hf k (.inr h)), hGb, rfl⟩
theorem DS.up {w' : World} {w : World} {p : Addr} {F : Nat → Prop} {c : Cfg} {l : Int} {L : List (List Int)} (h : DS w p F c l L) (hk : Below w.heap.size w w') : DS w' p F c l L := h.keep (Kept.of_below (F := fun _ => False) hk) (fun _ _ h => h)
theorem DS.lt {w : World} {p : Addr} {F : Nat → Prop} {c : Cfg} {l : Int} {L : List (List Int)} (h : DS w p F c l L) (k : Nat) (hk : F k) : k < w.heap.size := by
  obtain ⟨hr, hok, hl0, hl1, b, gp, G, rfl, hb, hg, hGb, rfl⟩ := h
  rcases hk with rfl | hk
  · exact size_of_heap hb
  · exact (dgT gp G _ _ L).lt w hg k hk
def dsT (p : Addr) (F : Nat → Prop) (c : Cfg) (l : Int) (L : List (List Int)) : Thing where
  I := fun w => DS w p F c l L
  F := F
  keep := fun w w' H h hk hf => h.keep hk hf
  lt := fun w h k hk => h.lt k hk
theorem dsI {w : World} {p : Addr} {F : Nat → Prop} {c : Cfg} {l : Int} {L : List (List Int)} (h : (dsT p F c l L).I w) : DS w p F c l L := h
theorem ds_turn {w w' : World} {b : Nat} {gp : Addr} {G G' : Nat → Prop} {c : Cfg} {l : Int} {L : List (List Int)} (hr : IsRight c) (hok : c.Ok) (hl0 : 0 ≤ l) (hl1 : l ≤ c.bt)
    (hb : w.heap[b]? = some (.cells #[.int .i64 c.bt, .int .i64 c.rw, .int .i64 c.wd, .int .i64 c.md, .int .u64 c.sd, .int .i64 l, .pointer (some gp)] 106 (0, 0))) (hGb : ¬ G b) (g' : DG w' gp G' (rws c) (wds c) L) (hk : Kept G w w') (hG : ∀ k, G' k → G k ∨ w.heap.size ≤ k) :
    ∃ F', DS w' ⟨b, 0, none⟩ F' c l L ∧ Kept (fun k => k = b ∨ G k) w w' ∧ (∀ q, F' q → (q = b ∨ G q) ∨ w.heap.size ≤ q) := by
  have hbl := size_of_heap hb
  refine ⟨_, ⟨hr, hok, hl0, hl1, b, gp, G', rfl, hk.heap hb hGb, g', fun h => ?_, rfl⟩, hk.mono (fun k _ h => .inr h), fun q hq => ?_⟩
  · rcases hG b h with h1 | h1
    · exact hGb h1
    · omega
  · rcases hq with rfl | h1
    · exact .inl (.inl rfl)
    · rcases hG q h1 with h2 | h2
      · exact .inl (.inr h2)
      · exact .inr h2
theorem dg_alloc {w : World} {p : Addr} {F : Nat → Prop} {m n : Nat} {L : List (List Int)} (h : DG w p F m n L) (o : Obj) : DG (w.alloc o) p F m n L := dg_up h (Lw.below_alloc (Below.refl _ _) o)
set_option maxRecDepth 100000 in
theorem rsnew_any (c : Cfg) (l : Int) (w : World) (h : c.Ok) (hr : IsRight c) (l0 : 0 ≤ l) (l1 : l ≤ c.bt) :
    Calls Tryz.prog 58 #[.agg #[.int .i64 c.bt, .int .i64 c.rw, .int .i64 c.wd, .int .i64 c.md, .int .u64 c.sd], .int .i64 l] w fun e w' => ∃ (p : Addr) (F : Nat → Prop), e = .returned (.pointer (some p)) ∧ DS w' p F c l (zerosL (rws c) (wds c)) ∧ (∀ k, F k → w.heap.size ≤ k) ∧ Below w.heap.size w w' := by
  have hw1 := rws_bd hr
  have hw2 := wds_bd hr
  have N := Lib.hid (fun w => dnew_any c.rw c.wd w h.r0 h.r1 h.w0 h.w1)
  have e1 : cl c.rw 8 = rws c := cl_of (by omega) (by omega)
  have e2 : cl c.wd 128 = wds c := cl_of (by omega) (by omega)
  rw [e1, e2] at N
  have HR := Lib.hid (And.intro hr (And.intro l0 l1))
  clear hr hw1 hw2 e1 e2 l0 l1
  go_enter Tryz.func58, Tryz.ntmps58
  go_upto_region 1 with fail
  obtain ⟨w1, hw1⟩ : ∃ w1, w1 = w.alloc (.cells #[.int .i64 c.bt, .int .i64 c.rw, .int .i64 c.wd, .int .i64 c.md, .int .u64 c.sd] 24) := ⟨_, rfl⟩
  have HB1 : Hid (Below w.heap.size w w1) := Lib.hid (by rw [hw1]; (repeat' (first | (with_reducible exact Below.refl _ _) | (with_reducible assumption) | (with_reducible refine below_over ?_ _ _) | (with_reducible refine Lw.below_alloc ?_ _) | (with_reducible refine Below.drew ?_) | (with_reducible refine below_drewN ?_ _) | (with_reducible refine Below.setCell ?_ ?_ _) | go_size)))
  have x0 : w1.cell? ⟨w.heap.size, 0, none⟩ = some (.int .i64 c.bt) := by rw [hw1]; simp [go_sem]
  have x1 : w1.cell? ⟨w.heap.size, 1, none⟩ = some (.int .i64 c.rw) := by rw [hw1]; simp [go_sem]
  have x2 : w1.cell? ⟨w.heap.size, 2, none⟩ = some (.int .i64 c.wd) := by rw [hw1]; simp [go_sem]
  have x3 : w1.cell? ⟨w.heap.size, 3, none⟩ = some (.int .i64 c.md) := by rw [hw1]; simp [go_sem]
  have x4 : w1.cell? ⟨w.heap.size, 4, none⟩ = some (.int .u64 c.sd) := by rw [hw1]; simp [go_sem]
  rw [← hw1]
  clear hw1
  go_region_held3 (fun w' => w'.cell? ⟨w.heap.size, 0, none⟩ = some (.int .i64 c.bt) ∧ w'.cell? ⟨w.heap.size, 1, none⟩ = some (.int .i64 c.rw) ∧ w'.cell? ⟨w.heap.size, 2, none⟩ = some (.int .i64 c.wd) ∧ w'.cell? ⟨w.heap.size, 3, none⟩ = some (.int .i64 c.md) ∧ w'.cell? ⟨w.heap.size, 4, none⟩ = some (.int .u64 c.sd)) (first | (refine ⟨?_, ?_, ?_, ?_, ?_⟩ <;> (first | (with_reducible assumption) | (with_reducible refine cell_up x0 ?_) | (with_reducible refine cell_up x1 ?_) | (with_reducible refine cell_up x2 ?_) | (with_reducible refine cell_up x3 ?_) | (with_reducible refine cell_up x4 ?_)) <;> repeat' (first | (with_reducible exact Below.refl _ _) | (with_reducible assumption) | (with_reducible refine below_over ?_ _ _) | (with_reducible refine Lw.below_alloc ?_ _) | (with_reducible refine Below.drew ?_) | (with_reducible refine below_drewN ?_ _) | (with_reducible refine Below.setCell ?_ ?_ _) | go_size))) (first
    | (go_at_call 68; (with_reducible refine (N.out _).mono ?_); rintro e w2 ⟨gp, G, rfl, hg, hG, hb2⟩; obtain ⟨bs2, d2, rfl⟩ := below_grow hb2; have HG := Lib.hid hg; have HF := Lib.hid hG; have HB2 := Lib.hid hb2; clear hg hG hb2))
  all_goals go_wp2
  all_goals go_ret
  have hgl := fun k (hk : G k) => (dgT gp G _ _ _).lt _ HG.out k hk
  rw [size_grow] at hgl
  have hn := heap_alloc_new (grow w1 bs2 d2) (.cells #[.int .i64 c.bt, .int .i64 c.rw, .int .i64 c.wd, .int .i64 c.md, .int .u64 c.sd, .int .i64 l, .pointer (some gp)] 106)
  rw [size_grow] at hn
  have hs := HB1.out.size
  have hz : w1.drew.heap.size = w1.heap.size := rfl
  rw [hz] at hgl
  refine ⟨⟨w1.heap.size + bs2.size, 0, none⟩, fun k => k = w1.heap.size + bs2.size ∨ G k, rfl, ⟨HR.out.1, h, HR.out.2.1, HR.out.2.2, _, gp, G, rfl, hn, dg_alloc HG.out _, fun hk => by have := hgl _ hk; omega, rfl⟩, fun k hk => ?_, ?_⟩
  · rcases hk with rfl | hk
    · omega
    · have := HF.out k hk; rw [hz] at this; omega
  · exact (below_call (Below.drew HB1.out) HB2.out (Nat.le_refl _)).alloc (by rw [size_grow]; omega) _
set_option maxRecDepth 100000 in
set_option maxHeartbeats 4000000 in
theorem rsupd_any (p : Addr) (F : Nat → Prop) (c : Cfg) (l : Int) (L : List (List Int)) (k d : Int) (w : World) (h : DS w p F c l L) (k0 : 0 ≤ k) (k1 : k ≤ 18446744073709551615) (d0 : -9223372036854775808 ≤ d) (d1 : d ≤ 9223372036854775807) :
    Calls Tryz.prog 64 #[.pointer (some p), .int .u64 k, .int .i64 d] w fun e w' => e = .returned (.int .i64 (upCode c l L k d)) ∧ ∃ F', DS w' p F' c l (upRes c l L k d) ∧ Kept F w w' ∧ (∀ q, F' q → F q ∨ w.heap.size ≤ q) := by
  unfold upCode upRes
  have HS := Lib.hid h
  obtain ⟨hr, hok, hl0, hl1, b, gp, G, rfl, hb, hg, hGb, rfl⟩ := h
  have hbl := size_of_heap hb
  have c0 := grd_cell hb 0 (v := .int .i64 c.bt) rfl
  have c1 := grd_cell hb 1 (v := .int .i64 c.rw) rfl
  have c2 := grd_cell hb 2 (v := .int .i64 c.wd) rfl
  have c3 := grd_cell hb 3 (v := .int .i64 c.md) rfl
  have c4 := grd_cell hb 4 (v := .int .u64 c.sd) rfl
  have c5 := grd_cell hb 5 (v := .int .i64 l) rfl
  have c6 := grd_cell hb 6 (v := .pointer (some gp)) rfl
  have hbt := hr.2.1
  have CK := Lib.hid (fun w => rkeys_any c l w hok (by omega) (by omega))
  have CC := Lib.hid (fun w => rcols_own c l k w hok (by omega) (by omega) k0 k1)
  have HT : Hid (∀ w' G' L', DG w' gp G' (rws c) (wds c) L' → Kept G w w' → (∀ k, G' k → G k ∨ w.heap.size ≤ k) → ∃ F', DS w' ⟨b, 0, none⟩ F' c l L' ∧ Kept (fun k => k = b ∨ G k) w w' ∧ (∀ q, F' q → (q = b ∨ G q) ∨ w.heap.size ≤ q)) := Lib.hid (fun w' G' L' h1 h2 h3 => ds_turn hr hok hl0 hl1 hb hGb h1 h2 h3)
  have hrw := rws_bd hr
  by_cases hk : keys c l ≤ k
  · rw [if_pos hk, if_pos hk]
    obtain ⟨K, hK⟩ : ∃ K, keys c l = K := ⟨_, rfl⟩
    rw [hK] at hk CK
    clear hb hg hrw hK
    go_enter Tryz.func64, Tryz.ntmps64
    go_upto_region 1 with fail
    go_region_held3 (fun w' => w'.cell? ⟨b, 0, none⟩ = some (.int .i64 c.bt) ∧ w'.cell? ⟨b, 1, none⟩ = some (.int .i64 c.rw) ∧ w'.cell? ⟨b, 2, none⟩ = some (.int .i64 c.wd) ∧ w'.cell? ⟨b, 3, none⟩ = some (.int .i64 c.md) ∧ w'.cell? ⟨b, 4, none⟩ = some (.int .u64 c.sd) ∧ w'.cell? ⟨b, 5, none⟩ = some (.int .i64 l)) (first | (refine ⟨?_, ?_, ?_, ?_, ?_, ?_⟩ <;> (first | (with_reducible assumption) | (with_reducible refine cell_up c0 ?_) | (with_reducible refine cell_up c1 ?_) | (with_reducible refine cell_up c2 ?_) | (with_reducible refine cell_up c3 ?_) | (with_reducible refine cell_up c4 ?_) | (with_reducible refine cell_up c5 ?_)) <;> repeat' (first | (with_reducible exact Below.refl _ _) | (with_reducible assumption) | (with_reducible refine below_over ?_ _ _) | (with_reducible refine Lw.below_alloc ?_ _) | (with_reducible refine Below.drew ?_) | (with_reducible refine below_drewN ?_ _) | (with_reducible refine Below.setCell ?_ ?_ _) | go_size))) (first
      | (go_at_call 24; (with_reducible refine (CK.out _).mono ?_); rintro e w' ⟨rfl, hb⟩; obtain ⟨bs, dd, rfl⟩ := below_grow hb; clear hb))
    all_goals go_wp2
    all_goals go_ret
    all_goals exact ⟨rfl, _, HS.out.up (by repeat' (first | (with_reducible exact Below.refl _ _) | (with_reducible assumption) | (with_reducible refine below_over ?_ _ _) | (with_reducible refine Lw.below_alloc ?_ _) | (with_reducible refine Below.drew ?_) | (with_reducible refine below_drewN ?_ _) | (with_reducible refine Below.setCell ?_ ?_ _) | go_size)), Kept.of_below (by repeat' (first | (with_reducible exact Below.refl _ _) | (with_reducible assumption) | (with_reducible refine below_over ?_ _ _) | (with_reducible refine Lw.below_alloc ?_ _) | (with_reducible refine Below.drew ?_) | (with_reducible refine below_drewN ?_ _) | (with_reducible refine Below.setCell ?_ ?_ _) | go_size)), fun q hq => .inl hq⟩
  · rw [if_neg hk, if_neg hk]
    have hk2 : k < keys c l := by omega
    have hlen : (cols c l k).length = rws c := (cols_meet k0 hk2).2.1
    have CR := Lib.hid (fun A cap w' hd h1 hap => rraise_any gp G (rws c) (wds c) L (some A) (rws c) cap (cols c l k) d w' hd h1 hap hlen (by omega) (in64_cols c l k) d0 d1)
    have CH := Lib.hid (fun A cap w' hd h1 hap => rchange_any gp G (rws c) (wds c) L (some A) (rws c) cap (cols c l k) d w' hd h1 hap hlen (by omega) (in64_cols c l k) d0 d1)
    have GL := Lib.hid (fun q (hq : G q) => (dgT gp G _ _ L).lt w hg q hq)
    have HG := Lib.hid hg
    rw [hlen] at CC
    obtain ⟨K, hK⟩ : ∃ K, keys c l = K := ⟨_, rfl⟩
    rw [hK] at hk2 CK
    obtain ⟨n, hn⟩ : ∃ n, rws c = n := ⟨_, rfl⟩
    rw [hn] at CC CR CH HT HG ⊢
    have hkx : ¬ K ≤ k := by omega
    have hgb : decide (K ≤ k) = false := decide_eq_false hkx
    have HB := Lib.hid hb
    clear hb hg hrw hK hk hlen hn
    by_cases hm : c.md = 2
    · rw [if_pos hm, if_pos hm]
      have hmb : (c.md == 2) = true := by simp [hm]
      clear hm
      go_enter Tryz.func64, Tryz.ntmps64
      go_upto_region 1 with fail
      go_region_held3 (fun w' => w'.cell? ⟨b, 0, none⟩ = some (.int .i64 c.bt) ∧ w'.cell? ⟨b, 1, none⟩ = some (.int .i64 c.rw) ∧ w'.cell? ⟨b, 2, none⟩ = some (.int .i64 c.wd) ∧ w'.cell? ⟨b, 3, none⟩ = some (.int .i64 c.md) ∧ w'.cell? ⟨b, 4, none⟩ = some (.int .u64 c.sd) ∧ w'.cell? ⟨b, 5, none⟩ = some (.int .i64 l)) (first | (refine ⟨?_, ?_, ?_, ?_, ?_, ?_⟩ <;> (first | (with_reducible assumption) | (with_reducible refine cell_up c0 ?_) | (with_reducible refine cell_up c1 ?_) | (with_reducible refine cell_up c2 ?_) | (with_reducible refine cell_up c3 ?_) | (with_reducible refine cell_up c4 ?_) | (with_reducible refine cell_up c5 ?_)) <;> repeat' (first | (with_reducible exact Below.refl _ _) | (with_reducible assumption) | (with_reducible refine below_over ?_ _ _) | (with_reducible refine Lw.below_alloc ?_ _) | (with_reducible refine Below.drew ?_) | (with_reducible refine below_drewN ?_ _) | (with_reducible refine Below.setCell ?_ ?_ _) | go_size))) (first
        | (go_at_call 24; (with_reducible refine (CK.out _).mono ?_); rintro e w' ⟨rfl, hb⟩; obtain ⟨bs, dd, rfl⟩ := below_grow hb; clear hb))
      obtain ⟨w1, hw1⟩ : ∃ w1, w1 = (grow w.drew bs dd) := ⟨_, rfl⟩
      go_upto_region 3 with fail
      go_region_held3 (fun w' => w'.cell? ⟨b, 0, none⟩ = some (.int .i64 c.bt) ∧ w'.cell? ⟨b, 1, none⟩ = some (.int .i64 c.rw) ∧ w'.cell? ⟨b, 2, none⟩ = some (.int .i64 c.wd) ∧ w'.cell? ⟨b, 3, none⟩ = some (.int .i64 c.md) ∧ w'.cell? ⟨b, 4, none⟩ = some (.int .u64 c.sd) ∧ w'.cell? ⟨b, 5, none⟩ = some (.int .i64 l)) (first | (refine ⟨?_, ?_, ?_, ?_, ?_, ?_⟩ <;> (first | (with_reducible assumption) | (with_reducible refine cell_up c0 ?_) | (with_reducible refine cell_up c1 ?_) | (with_reducible refine cell_up c2 ?_) | (with_reducible refine cell_up c3 ?_) | (with_reducible refine cell_up c4 ?_) | (with_reducible refine cell_up c5 ?_)) <;> repeat' (first | (with_reducible exact Below.refl _ _) | (with_reducible assumption) | (with_reducible refine below_over ?_ _ _) | (with_reducible refine Lw.below_alloc ?_ _) | (with_reducible refine Below.drew ?_) | (with_reducible refine below_drewN ?_ _) | (with_reducible refine Below.setCell ?_ ?_ _) | go_size))) (first
        | (go_at_call 72; (with_reducible refine (CC.out _).mono ?_); rintro e w2 ⟨A, cap, rfl, h1, h2, h3, h4, hb⟩; have RD := Lib.hid h1; have HA : Hid (w.heap.size ≤ A.block) := Lib.hid (Nat.le_trans (Below.size (show Below w.heap.size w _ from (by repeat' (first | (with_reducible exact Below.refl _ _) | (with_reducible assumption) | (with_reducible refine below_over ?_ _ _) | (with_reducible refine Lw.below_alloc ?_ _) | (with_reducible refine Below.drew ?_) | (with_reducible refine below_drewN ?_ _) | (with_reducible refine Below.setCell ?_ ?_ _) | go_size)))) h4); have HB2 : Hid (Below w.heap.size w w2) := Lib.hid (below_call (show Below w.heap.size w _ from (by repeat' (first | (with_reducible exact Below.refl _ _) | (with_reducible assumption) | (with_reducible refine below_over ?_ _ _) | (with_reducible refine Lw.below_alloc ?_ _) | (with_reducible refine Below.drew ?_) | (with_reducible refine below_drewN ?_ _) | (with_reducible refine Below.setCell ?_ ?_ _) | go_size))) hb (Nat.le_refl _)); clear h1 h2 h3 h4 hb; have hbw2 := HB2.out))
      have s3 := cell_up c3 HB2.out
      have s6 := cell_up c6 HB2.out
      clear c0 c1 c2 c3 c4 c5 c6
      go_wp2_with (go_at_call 73; (with_reducible refine (CR.out A cap _ (dg_up HG.out (below_call HB2.out (by repeat' (first | (with_reducible exact Below.refl _ _) | (with_reducible assumption) | (with_reducible refine below_over ?_ _ _) | (with_reducible refine Lw.below_alloc ?_ _) | (with_reducible refine Below.drew ?_) | (with_reducible refine below_drewN ?_ _) | (with_reducible refine Below.setCell ?_ ?_ _) | go_size)) (Nat.le_refl _))) (RD.out.up (by repeat' (first | (with_reducible exact Below.refl _ _) | (with_reducible assumption) | (with_reducible refine below_over ?_ _ _) | (with_reducible refine Lw.below_alloc ?_ _) | (with_reducible refine Below.drew ?_) | (with_reducible refine below_drewN ?_ _) | (with_reducible refine Below.setCell ?_ ?_ _) | go_size))) (fun a ha hGa => by injection ha with ha; subst ha; have := GL.out _ hGa; have := HA.out; omega)).mono ?_); rintro e w6 ⟨rfl, G6, hp6, hk6, hf6⟩; have HK6 : Hid (Kept G w w6) := Lib.hid ((Kept.of_below (below_call HB2.out (by repeat' (first | (with_reducible exact Below.refl _ _) | (with_reducible assumption) | (with_reducible refine below_over ?_ _ _) | (with_reducible refine Lw.below_alloc ?_ _) | (with_reducible refine Below.drew ?_) | (with_reducible refine below_drewN ?_ _) | (with_reducible refine Below.setCell ?_ ?_ _) | go_size)) (Nat.le_refl _))).trans hk6 (fun q hq h => h)); have HP6 := Lib.hid hp6; have HF6 := Lib.hid hf6; clear hp6 hk6 hf6)
      all_goals go_ret
      all_goals exact ⟨rfl, HT.out _ _ _ HP6.out HK6.out (fun q hq => (HF6.out q hq).elim .inl (fun h => .inr (Nat.le_trans HB2.out.size h)))⟩
    · rw [if_neg hm, if_neg hm]
      have hmb : (c.md == 2) = false := by simpa using hm
      clear hm
      go_enter Tryz.func64, Tryz.ntmps64
      go_upto_region 1 with fail
      go_region_held3 (fun w' => w'.cell? ⟨b, 0, none⟩ = some (.int .i64 c.bt) ∧ w'.cell? ⟨b, 1, none⟩ = some (.int .i64 c.rw) ∧ w'.cell? ⟨b, 2, none⟩ = some (.int .i64 c.wd) ∧ w'.cell? ⟨b, 3, none⟩ = some (.int .i64 c.md) ∧ w'.cell? ⟨b, 4, none⟩ = some (.int .u64 c.sd) ∧ w'.cell? ⟨b, 5, none⟩ = some (.int .i64 l)) (first | (refine ⟨?_, ?_, ?_, ?_, ?_, ?_⟩ <;> (first | (with_reducible assumption) | (with_reducible refine cell_up c0 ?_) | (with_reducible refine cell_up c1 ?_) | (with_reducible refine cell_up c2 ?_) | (with_reducible refine cell_up c3 ?_) | (with_reducible refine cell_up c4 ?_) | (with_reducible refine cell_up c5 ?_)) <;> repeat' (first | (with_reducible exact Below.refl _ _) | (with_reducible assumption) | (with_reducible refine below_over ?_ _ _) | (with_reducible refine Lw.below_alloc ?_ _) | (with_reducible refine Below.drew ?_) | (with_reducible refine below_drewN ?_ _) | (with_reducible refine Below.setCell ?_ ?_ _) | go_size))) (first
        | (go_at_call 24; (with_reducible refine (CK.out _).mono ?_); rintro e w' ⟨rfl, hb⟩; obtain ⟨bs, dd, rfl⟩ := below_grow hb; clear hb))
      obtain ⟨w1, hw1⟩ : ∃ w1, w1 = (grow w.drew bs dd) := ⟨_, rfl⟩
      go_upto_region 3 with fail
      go_region_held3 (fun w' => w'.cell? ⟨b, 0, none⟩ = some (.int .i64 c.bt) ∧ w'.cell? ⟨b, 1, none⟩ = some (.int .i64 c.rw) ∧ w'.cell? ⟨b, 2, none⟩ = some (.int .i64 c.wd) ∧ w'.cell? ⟨b, 3, none⟩ = some (.int .i64 c.md) ∧ w'.cell? ⟨b, 4, none⟩ = some (.int .u64 c.sd) ∧ w'.cell? ⟨b, 5, none⟩ = some (.int .i64 l)) (first | (refine ⟨?_, ?_, ?_, ?_, ?_, ?_⟩ <;> (first | (with_reducible assumption) | (with_reducible refine cell_up c0 ?_) | (with_reducible refine cell_up c1 ?_) | (with_reducible refine cell_up c2 ?_) | (with_reducible refine cell_up c3 ?_) | (with_reducible refine cell_up c4 ?_) | (with_reducible refine cell_up c5 ?_)) <;> repeat' (first | (with_reducible exact Below.refl _ _) | (with_reducible assumption) | (with_reducible refine below_over ?_ _ _) | (with_reducible refine Lw.below_alloc ?_ _) | (with_reducible refine Below.drew ?_) | (with_reducible refine below_drewN ?_ _) | (with_reducible refine Below.setCell ?_ ?_ _) | go_size))) (first
        | (go_at_call 72; (with_reducible refine (CC.out _).mono ?_); rintro e w2 ⟨A, cap, rfl, h1, h2, h3, h4, hb⟩; have RD := Lib.hid h1; have HA : Hid (w.heap.size ≤ A.block) := Lib.hid (Nat.le_trans (Below.size (show Below w.heap.size w _ from (by repeat' (first | (with_reducible exact Below.refl _ _) | (with_reducible assumption) | (with_reducible refine below_over ?_ _ _) | (with_reducible refine Lw.below_alloc ?_ _) | (with_reducible refine Below.drew ?_) | (with_reducible refine below_drewN ?_ _) | (with_reducible refine Below.setCell ?_ ?_ _) | go_size)))) h4); have HB2 : Hid (Below w.heap.size w w2) := Lib.hid (below_call (show Below w.heap.size w _ from (by repeat' (first | (with_reducible exact Below.refl _ _) | (with_reducible assumption) | (with_reducible refine below_over ?_ _ _) | (with_reducible refine Lw.below_alloc ?_ _) | (with_reducible refine Below.drew ?_) | (with_reducible refine below_drewN ?_ _) | (with_reducible refine Below.setCell ?_ ?_ _) | go_size))) hb (Nat.le_refl _)); clear h1 h2 h3 h4 hb; have hbw2 := HB2.out))
      have s3 := cell_up c3 HB2.out
      have s6 := cell_up c6 HB2.out
      clear c0 c1 c2 c3 c4 c5 c6
      go_wp2_with (go_at_call 74; (with_reducible refine (CH.out A cap _ (dg_up HG.out (below_call HB2.out (by repeat' (first | (with_reducible exact Below.refl _ _) | (with_reducible assumption) | (with_reducible refine below_over ?_ _ _) | (with_reducible refine Lw.below_alloc ?_ _) | (with_reducible refine Below.drew ?_) | (with_reducible refine below_drewN ?_ _) | (with_reducible refine Below.setCell ?_ ?_ _) | go_size)) (Nat.le_refl _))) (RD.out.up (by repeat' (first | (with_reducible exact Below.refl _ _) | (with_reducible assumption) | (with_reducible refine below_over ?_ _ _) | (with_reducible refine Lw.below_alloc ?_ _) | (with_reducible refine Below.drew ?_) | (with_reducible refine below_drewN ?_ _) | (with_reducible refine Below.setCell ?_ ?_ _) | go_size))) (fun a ha hGa => by injection ha with ha; subst ha; have := GL.out _ hGa; have := HA.out; omega)).mono ?_); rintro e w6 ⟨rfl, G6, hp6, hk6, hf6⟩; have HK6 : Hid (Kept G w w6) := Lib.hid ((Kept.of_below (below_call HB2.out (by repeat' (first | (with_reducible exact Below.refl _ _) | (with_reducible assumption) | (with_reducible refine below_over ?_ _ _) | (with_reducible refine Lw.below_alloc ?_ _) | (with_reducible refine Below.drew ?_) | (with_reducible refine below_drewN ?_ _) | (with_reducible refine Below.setCell ?_ ?_ _) | go_size)) (Nat.le_refl _))).trans hk6 (fun q hq h => h)); have HP6 := Lib.hid hp6; have HF6 := Lib.hid hf6; clear hp6 hk6 hf6)
      all_goals go_ret
      all_goals exact ⟨rfl, HT.out _ _ _ HP6.out HK6.out (fun q hq => (HF6.out q hq).elim .inl (fun h => .inr (Nat.le_trans HB2.out.size h)))⟩
end Go.Proofs.YtiblpdjehknbcaaGreat.Sk
/- The document's sketch: Point, Join. Printed by wip/gen/skdoc.py. -/
namespace Go.Proofs.YtiblpdjehknbcaaGreat.Sk
open Go Go.RowKit Lw Grd Lin Con Shp
set_option linter.unusedVariables false
set_option linter.unusedSimpArgs false
set_option maxRecDepth 100000 in
set_option maxHeartbeats 4000000 in
theorem rspoint_any (p : Addr) (F : Nat → Prop) (c : Cfg) (l : Int) (L : List (List Int)) (k : Int) (w : World) (h : DS w p F c l L) (k0 : 0 ≤ k) (k1 : k ≤ 18446744073709551615) :
    Calls Tryz.prog 78 #[.pointer (some p), .int .u64 k] w fun e w' => e = .returned (.tuple #[.int .i64 (ptVal c l L k), .int .i64 (ptCode c l k)]) ∧ Below w.heap.size w w' := by
  have HS := Lib.hid h
  obtain ⟨hr, hok, hl0, hl1, b, gp, G, rfl, hb, hg, hGb, rfl⟩ := h
  have hbl := size_of_heap hb
  have c0 := grd_cell hb 0 (v := .int .i64 c.bt) rfl
  have c1 := grd_cell hb 1 (v := .int .i64 c.rw) rfl
  have c2 := grd_cell hb 2 (v := .int .i64 c.wd) rfl
  have c3 := grd_cell hb 3 (v := .int .i64 c.md) rfl
  have c4 := grd_cell hb 4 (v := .int .u64 c.sd) rfl
  have c5 := grd_cell hb 5 (v := .int .i64 l) rfl
  have c6 := grd_cell hb 6 (v := .pointer (some gp)) rfl
  have hbt := hr.2.1
  have CK := Lib.hid (fun w => rkeys_any c l w hok (by omega) (by omega))
  have CC := Lib.hid (fun w => rcols_own c l k w hok (by omega) (by omega) k0 k1)
  have hrw := rws_bd hr
  by_cases hk : keys c l ≤ k
  · have e1 : ptVal c l L k = 0 := if_pos hk
    have e2 : ptCode c l k = 2 := if_pos hk
    rw [e1, e2]
    obtain ⟨K, hK⟩ : ∃ K, keys c l = K := ⟨_, rfl⟩
    rw [hK] at hk CK
    clear hb hg hrw hK e1 e2
    go_enter Tryz.func78, Tryz.ntmps78
    go_upto_region 1 with fail
    go_region_held3 (fun w' => w'.cell? ⟨b, 0, none⟩ = some (.int .i64 c.bt) ∧ w'.cell? ⟨b, 1, none⟩ = some (.int .i64 c.rw) ∧ w'.cell? ⟨b, 2, none⟩ = some (.int .i64 c.wd) ∧ w'.cell? ⟨b, 3, none⟩ = some (.int .i64 c.md) ∧ w'.cell? ⟨b, 4, none⟩ = some (.int .u64 c.sd) ∧ w'.cell? ⟨b, 5, none⟩ = some (.int .i64 l)) (first | (refine ⟨?_, ?_, ?_, ?_, ?_, ?_⟩ <;> (first | (with_reducible assumption) | (with_reducible refine cell_up c0 ?_) | (with_reducible refine cell_up c1 ?_) | (with_reducible refine cell_up c2 ?_) | (with_reducible refine cell_up c3 ?_) | (with_reducible refine cell_up c4 ?_) | (with_reducible refine cell_up c5 ?_)) <;> repeat' (first | (with_reducible exact Below.refl _ _) | (with_reducible assumption) | (with_reducible refine below_over ?_ _ _) | (with_reducible refine Lw.below_alloc ?_ _) | (with_reducible refine Below.drew ?_) | (with_reducible refine below_drewN ?_ _) | (with_reducible refine Below.setCell ?_ ?_ _) | go_size))) (first
      | (go_at_call 24; (with_reducible refine (CK.out _).mono ?_); rintro e w' ⟨rfl, hb⟩; obtain ⟨bs, dd, rfl⟩ := below_grow hb; clear hb))
    all_goals go_wp2
    all_goals go_ret2
    all_goals exact ⟨rfl, (by repeat' (first | (with_reducible exact Below.refl _ _) | (with_reducible assumption) | (with_reducible refine below_over ?_ _ _) | (with_reducible refine Lw.below_alloc ?_ _) | (with_reducible refine Below.drew ?_) | (with_reducible refine below_drewN ?_ _) | (with_reducible refine Below.setCell ?_ ?_ _) | go_size))⟩
  · have hk2 : k < keys c l := by omega
    rw [pt_ok hk2]
    have hme := cols_meet k0 hk2
    have hlen : (cols c l k).length = rws c := hme.2.1
    have GL := Lib.hid (fun q (hq : G q) => (dgT gp G _ _ L).lt w hg q hq)
    have HG := Lib.hid hg
    have CM := Lib.hid (fun A cap w' hd h1 => rmiddle_any gp G (rws c) (wds c) L (some A) (rws c) cap (cols c l k) w' hd h1 hlen (by omega) (in64_cols c l k))
    have CL := Lib.hid (fun A cap w' hd h1 => rlea_any gp G (rws c) (wds c) L (some A) (rws c) cap (cols c l k) w' hd h1 hlen (by omega) (in64_cols c l k) hme)
    have er : readOf (rws c) (wds c) L (cols c l k) = named L (cols c l k) := if_pos hme
    have ec : rdCode (rws c) (wds c) (cols c l k) = 0 := if_pos hme
    rw [er, ec] at CM
    rw [hlen] at CC
    have HV : Hid (ptVal c l L k = if c.md = 3 then Ord.kv (named L (cols c l k)) ((((named L (cols c l k)).length : Int) - 1) / 2) else lea L (cols c l k)) := Lib.hid (if_neg hk)
    obtain ⟨v1, hv1⟩ : ∃ v, Ord.kv (named L (cols c l k)) ((((named L (cols c l k)).length : Int) - 1) / 2) = v := ⟨_, rfl⟩
    obtain ⟨v2, hv2⟩ : ∃ v, lea L (cols c l k) = v := ⟨_, rfl⟩
    rw [hv1] at CM HV
    rw [hv2] at CL HV
    obtain ⟨K, hK⟩ : ∃ K, keys c l = K := ⟨_, rfl⟩
    rw [hK] at hk2 CK
    obtain ⟨n, hn⟩ : ∃ n, rws c = n := ⟨_, rfl⟩
    rw [hn] at CC CM CL HG
    have hkx : ¬ K ≤ k := by omega
    have hgb : decide (K ≤ k) = false := decide_eq_false hkx
    clear hb hg hrw hK hk hlen hn hme er ec hv1 hv2
    by_cases hm : c.md = 3
    · have hv : ptVal c l L k = v1 := by rw [HV.out, if_pos hm]
      rw [hv]
      have hmb : (c.md == 3) = true := by simp [hm]
      clear hm hv
      go_enter Tryz.func78, Tryz.ntmps78
      go_upto_region 1 with fail
      go_region_held3 (fun w' => w'.cell? ⟨b, 0, none⟩ = some (.int .i64 c.bt) ∧ w'.cell? ⟨b, 1, none⟩ = some (.int .i64 c.rw) ∧ w'.cell? ⟨b, 2, none⟩ = some (.int .i64 c.wd) ∧ w'.cell? ⟨b, 3, none⟩ = some (.int .i64 c.md) ∧ w'.cell? ⟨b, 4, none⟩ = some (.int .u64 c.sd) ∧ w'.cell? ⟨b, 5, none⟩ = some (.int .i64 l)) (first | (refine ⟨?_, ?_, ?_, ?_, ?_, ?_⟩ <;> (first | (with_reducible assumption) | (with_reducible refine cell_up c0 ?_) | (with_reducible refine cell_up c1 ?_) | (with_reducible refine cell_up c2 ?_) | (with_reducible refine cell_up c3 ?_) | (with_reducible refine cell_up c4 ?_) | (with_reducible refine cell_up c5 ?_)) <;> repeat' (first | (with_reducible exact Below.refl _ _) | (with_reducible assumption) | (with_reducible refine below_over ?_ _ _) | (with_reducible refine Lw.below_alloc ?_ _) | (with_reducible refine Below.drew ?_) | (with_reducible refine below_drewN ?_ _) | (with_reducible refine Below.setCell ?_ ?_ _) | go_size))) (first
        | (go_at_call 24; (with_reducible refine (CK.out _).mono ?_); rintro e w' ⟨rfl, hb⟩; obtain ⟨bs, dd, rfl⟩ := below_grow hb; clear hb))
      go_upto_region 3 with fail
      go_region_held3 (fun w' => w'.cell? ⟨b, 0, none⟩ = some (.int .i64 c.bt) ∧ w'.cell? ⟨b, 1, none⟩ = some (.int .i64 c.rw) ∧ w'.cell? ⟨b, 2, none⟩ = some (.int .i64 c.wd) ∧ w'.cell? ⟨b, 3, none⟩ = some (.int .i64 c.md) ∧ w'.cell? ⟨b, 4, none⟩ = some (.int .u64 c.sd) ∧ w'.cell? ⟨b, 5, none⟩ = some (.int .i64 l)) (first | (refine ⟨?_, ?_, ?_, ?_, ?_, ?_⟩ <;> (first | (with_reducible assumption) | (with_reducible refine cell_up c0 ?_) | (with_reducible refine cell_up c1 ?_) | (with_reducible refine cell_up c2 ?_) | (with_reducible refine cell_up c3 ?_) | (with_reducible refine cell_up c4 ?_) | (with_reducible refine cell_up c5 ?_)) <;> repeat' (first | (with_reducible exact Below.refl _ _) | (with_reducible assumption) | (with_reducible refine below_over ?_ _ _) | (with_reducible refine Lw.below_alloc ?_ _) | (with_reducible refine Below.drew ?_) | (with_reducible refine below_drewN ?_ _) | (with_reducible refine Below.setCell ?_ ?_ _) | go_size))) (first
        | (go_at_call 72; (with_reducible refine (CC.out _).mono ?_); rintro e w2 ⟨A, cap, rfl, h1, h2, h3, h4, hb⟩; have RD := Lib.hid h1; have HB2 : Hid (Below w.heap.size w w2) := Lib.hid (below_call (show Below w.heap.size w _ from (by repeat' (first | (with_reducible exact Below.refl _ _) | (with_reducible assumption) | (with_reducible refine below_over ?_ _ _) | (with_reducible refine Lw.below_alloc ?_ _) | (with_reducible refine Below.drew ?_) | (with_reducible refine below_drewN ?_ _) | (with_reducible refine Below.setCell ?_ ?_ _) | go_size))) hb (Nat.le_refl _)); clear h1 h2 h3 h4 hb; have hbw2 := HB2.out))
      have s3 := cell_up c3 HB2.out
      have s6 := cell_up c6 HB2.out
      clear c0 c1 c2 c3 c4 c5 c6
      go_wp2_with (go_at_call 88; (with_reducible refine (CM.out A cap _ (dg_up HG.out (below_call HB2.out (by repeat' (first | (with_reducible exact Below.refl _ _) | (with_reducible assumption) | (with_reducible refine below_over ?_ _ _) | (with_reducible refine Lw.below_alloc ?_ _) | (with_reducible refine Below.drew ?_) | (with_reducible refine below_drewN ?_ _) | (with_reducible refine Below.setCell ?_ ?_ _) | go_size)) (Nat.le_refl _))) (RD.out.up (by repeat' (first | (with_reducible exact Below.refl _ _) | (with_reducible assumption) | (with_reducible refine below_over ?_ _ _) | (with_reducible refine Lw.below_alloc ?_ _) | (with_reducible refine Below.drew ?_) | (with_reducible refine below_drewN ?_ _) | (with_reducible refine Below.setCell ?_ ?_ _) | go_size)))).mono ?_); rintro e w6 ⟨rfl, hb6⟩; have HB6 := Lib.hid (below_call HB2.out (below_call (show Below w2.heap.size w2 _ from (by repeat' (first | (with_reducible exact Below.refl _ _) | (with_reducible assumption) | (with_reducible refine below_over ?_ _ _) | (with_reducible refine Lw.below_alloc ?_ _) | (with_reducible refine Below.drew ?_) | (with_reducible refine below_drewN ?_ _) | (with_reducible refine Below.setCell ?_ ?_ _) | go_size))) hb6 (Nat.le_refl _)) (Nat.le_refl _)); clear hb6)
      all_goals go_ret2
      all_goals exact ⟨rfl, HB6.out⟩
    · have hv : ptVal c l L k = v2 := by rw [HV.out, if_neg hm]
      rw [hv]
      have hmb : (c.md == 3) = false := by simpa using hm
      clear hm hv
      go_enter Tryz.func78, Tryz.ntmps78
      go_upto_region 1 with fail
      go_region_held3 (fun w' => w'.cell? ⟨b, 0, none⟩ = some (.int .i64 c.bt) ∧ w'.cell? ⟨b, 1, none⟩ = some (.int .i64 c.rw) ∧ w'.cell? ⟨b, 2, none⟩ = some (.int .i64 c.wd) ∧ w'.cell? ⟨b, 3, none⟩ = some (.int .i64 c.md) ∧ w'.cell? ⟨b, 4, none⟩ = some (.int .u64 c.sd) ∧ w'.cell? ⟨b, 5, none⟩ = some (.int .i64 l)) (first | (refine ⟨?_, ?_, ?_, ?_, ?_, ?_⟩ <;> (first | (with_reducible assumption) | (with_reducible refine cell_up c0 ?_) | (with_reducible refine cell_up c1 ?_) | (with_reducible refine cell_up c2 ?_) | (with_reducible refine cell_up c3 ?_) | (with_reducible refine cell_up c4 ?_) | (with_reducible refine cell_up c5 ?_)) <;> repeat' (first | (with_reducible exact Below.refl _ _) | (with_reducible assumption) | (with_reducible refine below_over ?_ _ _) | (with_reducible refine Lw.below_alloc ?_ _) | (with_reducible refine Below.drew ?_) | (with_reducible refine below_drewN ?_ _) | (with_reducible refine Below.setCell ?_ ?_ _) | go_size))) (first
        | (go_at_call 24; (with_reducible refine (CK.out _).mono ?_); rintro e w' ⟨rfl, hb⟩; obtain ⟨bs, dd, rfl⟩ := below_grow hb; clear hb))
      go_upto_region 3 with fail
      go_region_held3 (fun w' => w'.cell? ⟨b, 0, none⟩ = some (.int .i64 c.bt) ∧ w'.cell? ⟨b, 1, none⟩ = some (.int .i64 c.rw) ∧ w'.cell? ⟨b, 2, none⟩ = some (.int .i64 c.wd) ∧ w'.cell? ⟨b, 3, none⟩ = some (.int .i64 c.md) ∧ w'.cell? ⟨b, 4, none⟩ = some (.int .u64 c.sd) ∧ w'.cell? ⟨b, 5, none⟩ = some (.int .i64 l)) (first | (refine ⟨?_, ?_, ?_, ?_, ?_, ?_⟩ <;> (first | (with_reducible assumption) | (with_reducible refine cell_up c0 ?_) | (with_reducible refine cell_up c1 ?_) | (with_reducible refine cell_up c2 ?_) | (with_reducible refine cell_up c3 ?_) | (with_reducible refine cell_up c4 ?_) | (with_reducible refine cell_up c5 ?_)) <;> repeat' (first | (with_reducible exact Below.refl _ _) | (with_reducible assumption) | (with_reducible refine below_over ?_ _ _) | (with_reducible refine Lw.below_alloc ?_ _) | (with_reducible refine Below.drew ?_) | (with_reducible refine below_drewN ?_ _) | (with_reducible refine Below.setCell ?_ ?_ _) | go_size))) (first
        | (go_at_call 72; (with_reducible refine (CC.out _).mono ?_); rintro e w2 ⟨A, cap, rfl, h1, h2, h3, h4, hb⟩; have RD := Lib.hid h1; have HB2 : Hid (Below w.heap.size w w2) := Lib.hid (below_call (show Below w.heap.size w _ from (by repeat' (first | (with_reducible exact Below.refl _ _) | (with_reducible assumption) | (with_reducible refine below_over ?_ _ _) | (with_reducible refine Lw.below_alloc ?_ _) | (with_reducible refine Below.drew ?_) | (with_reducible refine below_drewN ?_ _) | (with_reducible refine Below.setCell ?_ ?_ _) | go_size))) hb (Nat.le_refl _)); clear h1 h2 h3 h4 hb; have hbw2 := HB2.out))
      have s3 := cell_up c3 HB2.out
      have s6 := cell_up c6 HB2.out
      clear c0 c1 c2 c3 c4 c5 c6
      go_wp2_with (go_at_call 82; (with_reducible refine (CL.out A cap _ (dg_up HG.out (below_call HB2.out (by repeat' (first | (with_reducible exact Below.refl _ _) | (with_reducible assumption) | (with_reducible refine below_over ?_ _ _) | (with_reducible refine Lw.below_alloc ?_ _) | (with_reducible refine Below.drew ?_) | (with_reducible refine below_drewN ?_ _) | (with_reducible refine Below.setCell ?_ ?_ _) | go_size)) (Nat.le_refl _))) (RD.out.up (by repeat' (first | (with_reducible exact Below.refl _ _) | (with_reducible assumption) | (with_reducible refine below_over ?_ _ _) | (with_reducible refine Lw.below_alloc ?_ _) | (with_reducible refine Below.drew ?_) | (with_reducible refine below_drewN ?_ _) | (with_reducible refine Below.setCell ?_ ?_ _) | go_size)))).mono ?_); rintro e w6 ⟨rfl, hb6⟩; have HB6 := Lib.hid (below_call HB2.out (below_call (show Below w2.heap.size w2 _ from (by repeat' (first | (with_reducible exact Below.refl _ _) | (with_reducible assumption) | (with_reducible refine below_over ?_ _ _) | (with_reducible refine Lw.below_alloc ?_ _) | (with_reducible refine Below.drew ?_) | (with_reducible refine below_drewN ?_ _) | (with_reducible refine Below.setCell ?_ ?_ _) | go_size))) hb6 (Nat.le_refl _)) (Nat.le_refl _)); clear hb6)
      all_goals go_ret2
      all_goals exact ⟨rfl, HB6.out⟩
end Go.Proofs.YtiblpdjehknbcaaGreat.Sk
/- The document's sketch: Copy. Printed by wip/gen/skdocc.py. -/
namespace Go.Proofs.YtiblpdjehknbcaaGreat.Sk
open Go Go.RowKit Lw Grd Lin Con Shp
set_option linter.unusedVariables false
set_option linter.unusedSimpArgs false
/-- A row of a grid of the document's is put in the place of another one. -/
theorem _root_.Go.Proofs.YtiblpdjehknbcaaGreat.Grd.RG.setRow {w : World} {b gh cap : Nat} {R : List Row} (h : RG w b (.slice (some ⟨gh, 0, none⟩) R.length cap) R) {K : Nat} (hK : K < R.length) (g c : Nat) (zs : List Int) (hown : w.ownsRow 0 2 1 (rowHd (g, c, zs)) zs.length (zs.map (Value.int .i64))) (hf : ¬ RF b (.slice (some ⟨gh, 0, none⟩) R.length cap) R g) :
    RG (w.setCell ⟨gh, K, none⟩ (rowHd (g, c, zs))) b (.slice (some ⟨gh, 0, none⟩) (R.set K (g, c, zs)).length cap) (R.set K (g, c, zs)) := by
  have hgh : g ≠ gh := fun e => hf (.inr (.inl (by rw [e]; rfl)))
  have hgb : g ≠ b := fun e => hf (.inl e)
  have hgr : ∀ r ∈ R, r.1 ≠ g := fun r hr e => hf (.inr (.inr ⟨r, hr, e⟩))
  have hk : Kept (fun q => q = gh) w (w.setCell ⟨gh, K, none⟩ (rowHd (g, c, zs))) := Kept.set (F := fun q => q = gh) (Kept.refl _ w) (.inl rfl) K _
  have hbg : b ≠ gh := fun e => h.apart1 (by rw [e]; rfl)
  rw [List.length_set]
  refine ⟨hk.heap h.cell hbg, ?_, ?_, h.apart1, ?_, ?_⟩
  · have hs := (h.outer.stored (g := gh) (cap := cap) K (rowHd (g, c, zs))).1
    rw [List.length_set, List.map_set]
    exact hs
  · intro x hx
    rcases List.mem_or_eq_of_mem_set hx with hx | rfl
    · exact hk.own (h.rows x hx) (fun q hq e => (h.apart2 x hx).2 (by simp [rowHd, Value.ownBlock] at hq ⊢; omega))
    · exact hk.own hown (fun q hq e => hgh (by simp [rowHd, Value.ownBlock] at hq; omega))
  · intro x hx
    rcases List.mem_or_eq_of_mem_set hx with hx | rfl
    · exact h.apart2 x hx
    · exact ⟨hgb, fun e => hgh (by simp [Value.ownBlock] at e; exact e.symm)⟩
  · rw [List.map_set]
    have hnd := h.nd
    refine List.pairwise_iff_getElem.2 fun i j hi hj hij => ?_
    have hi2 : i < (R.map (·.1)).length := by simpa using hi
    have hj2 : j < (R.map (·.1)).length := by simpa using hj
    have hne := List.pairwise_iff_getElem.1 hnd i j hi2 hj2 hij
    rw [List.getElem_set, List.getElem_set]
    by_cases h1 : K = i
    · rw [if_pos h1, if_neg (by omega)]
      intro e
      have hm := List.getElem_mem (l := R) (n := j) (by simpa using hj2)
      exact hgr _ hm (by simpa using e.symm)
    · rw [if_neg h1]
      by_cases h2 : K = j
      · rw [if_pos h2]
        intro e
        have hm := List.getElem_mem (l := R) (n := i) (by simpa using hi2)
        exact hgr _ hm (by simpa using e)
      · rw [if_neg h2]
        exact hne
theorem nums_set (R : List Row) (K : Nat) (x : Row) : nums (R.set K x) = (nums R).set K x.2.2 := by unfold nums; rw [List.map_set]
theorem take_drop_set {L Z : List (List Int)} {r : Nat} {xs : List Int} (h : L[r]? = some xs) (hl : L.length = Z.length) : (L.take r ++ Z.drop r).set r xs = L.take (r + 1) ++ Z.drop (r + 1) := by
  obtain ⟨h1, h2⟩ := List.getElem?_eq_some_iff.1 h
  apply List.ext_getElem?
  intro j
  rw [List.getElem?_set, List.getElem?_append, List.getElem?_append]
  simp only [List.length_append, List.length_take, List.length_drop]
  by_cases hj : r = j
  · subst hj
    rw [if_pos rfl, if_pos (by omega), if_pos (by omega), List.getElem?_take, if_pos (by omega), h]
  · rw [if_neg hj]
    by_cases hj2 : j < r
    · rw [if_pos (by omega), if_pos (by omega), List.getElem?_take, List.getElem?_take, if_pos hj2, if_pos (by omega)]
    · rw [if_neg (by omega), if_neg (by omega), List.getElem?_drop, List.getElem?_drop]
      congr 1
      omega
theorem own_zero {w : World} {B : Nat} {e : TypeId} {v : Value} {n : Nat} {xs : List Value} (h : w.ownsRow B e 1 v n xs) : w.ownsRow 0 e 1 v n xs := by
  refine ⟨h.1, ?_⟩
  rcases h.2 with h1 | ⟨g, cap, cur, h1, h2, h3⟩
  · exact .inl h1
  · exact .inr ⟨g, cap, cur, h1, Nat.zero_le _, h3⟩
theorem frozen_below {w w' : World} {g j : Nat} (h : Below w.heap.size w w') (hg : g < w.heap.size) : w'.frozen? ⟨g, j, none⟩ = w.frozen? ⟨g, j, none⟩ := by
  unfold World.frozen?
  rw [h.block g hg]
set_option maxRecDepth 100000 in
set_option maxHeartbeats 8000000 in
theorem rscopy_any (p : Addr) (F : Nat → Prop) (c : Cfg) (l : Int) (L : List (List Int)) (w : World) (h : DS w p F c l L) :
    Calls Tryz.prog 70 #[.pointer (some p)] w fun e w' => ∃ (q : Addr) (Q : Nat → Prop), e = .returned (.pointer (some q)) ∧ DS w' q Q c l L ∧ (∀ k, Q k → w.heap.size ≤ k) ∧ Below w.heap.size w w' := by
  obtain ⟨i0, hi, hz0, hz1, hz2⟩ := info_parts i64_info
  obtain ⟨hr, hok, hl0, hl1, b, gp, G, rfl, hb, hg, hGb, rfl⟩ := h
  have hbl := size_of_heap hb
  have c0 := grd_cell hb 0 (v := .int .i64 c.bt) rfl
  have c1 := grd_cell hb 1 (v := .int .i64 c.rw) rfl
  have c2 := grd_cell hb 2 (v := .int .i64 c.wd) rfl
  have c3 := grd_cell hb 3 (v := .int .i64 c.md) rfl
  have c4 := grd_cell hb 4 (v := .int .u64 c.sd) rfl
  have c5 := grd_cell hb 5 (v := .int .i64 l) rfl
  have c6 := grd_cell hb 6 (v := .pointer (some gp)) rfl
  have CN := Lib.hid (fun w => rsnew_any c l w hok hr hl0 hl1)
  have HR := Lib.hid (And.intro hr (And.intro hok (And.intro hl0 hl1)))
  have hd := hg.dims
  obtain ⟨gb, hdr, R, rfl, hrg, hnum, hGF, -⟩ := hg
  obtain ⟨A, cap, rfl, hcap, hA, hrow⟩ := hrg.hd
  have hlen : R.length = rws c := by have := hd.len; rw [← hnum, nums_len] at this; exact this
  have hpos := rws_bd hr
  have hwb := wds_bd hr
  cases A with
  | none => have := hA rfl; omega
  | some gh =>
    have c7w : w.cell? ⟨gb, 0, none⟩ = some (.slice (some gh) R.length cap) := grd_cell hrg.cell 0 rfl
    have RW : Hid (∀ (r : Nat) xs, L[r]? = some xs → ∃ (rb rc : Nat), w.cell? (gh.add r) = some (.slice (some ⟨rb, 0, none⟩) (wds c) rc) ∧ Rd .i64 w (some ⟨rb, 0, none⟩) xs ∧ xs.length = wds c) := Lib.hid (fun r xs hx => by
      rw [← hnum] at hx
      unfold nums at hx
      rw [List.getElem?_map] at hx
      cases hr2 : R[r]? with
      | none => rw [hr2] at hx; cases hx
      | some ro =>
        rw [hr2] at hx
        injection hx with hx
        subst hx
        have hm := List.mem_of_getElem? hr2
        obtain ⟨ad, had, hc⟩ := hrow r ro hr2
        injection had with had
        subst had
        have hdr := hd.rows ro.2.2 (by rw [← hnum]; exact nums_mem hm)
        refine ⟨ro.1, ro.2.1, ?_, fun j v hv => ⟨_, rfl, hrg.numAt hm hv⟩, hdr.1⟩
        rw [hc]
        unfold rowHd
        rw [hdr.1])
    obtain ⟨m, hmm⟩ : ∃ m, rws c = m := ⟨_, rfl⟩
    obtain ⟨n, hnn⟩ : ∃ n, wds c = n := ⟨_, rfl⟩
    rw [hlen, hmm] at c7w
    rw [hmm, hnn] at CN
    rw [hnn] at RW
    have hm8 : 1 ≤ m ∧ m ≤ 8 := by rw [← hmm]; exact ⟨hpos.1, hpos.2.1⟩
    have hn8 : 1 ≤ n ∧ n ≤ 128 := by rw [← hnn]; exact ⟨hwb.1, hwb.2.1⟩
    have HLN : Hid (L.length = m) := Lib.hid (by rw [← hmm]; exact hd.len)
    have HDD : Hid (Dims m n L) := Lib.hid (by rw [← hmm, ← hnn]; exact hd)
    have HMN := Lib.hid (And.intro hmm hnn)
    have C6 := Lib.hid c6
    have C7 := Lib.hid c7w
    clear hb hr hok hl0 hl1 hrg hnum hGF hrow hlen hpos hwb hA hcap hmm hnn hd hGb
    go_enter Tryz.func70, Tryz.ntmps70
    go_upto_region 1 with fail
    go_region_held3 (fun w' => w'.cell? ⟨b, 0, none⟩ = some (.int .i64 c.bt) ∧ w'.cell? ⟨b, 1, none⟩ = some (.int .i64 c.rw) ∧ w'.cell? ⟨b, 2, none⟩ = some (.int .i64 c.wd) ∧ w'.cell? ⟨b, 3, none⟩ = some (.int .i64 c.md) ∧ w'.cell? ⟨b, 4, none⟩ = some (.int .u64 c.sd) ∧ w'.cell? ⟨b, 5, none⟩ = some (.int .i64 l)) (first | (refine ⟨?_, ?_, ?_, ?_, ?_, ?_⟩ <;> (first | (with_reducible assumption) | (with_reducible refine cell_up c0 ?_) | (with_reducible refine cell_up c1 ?_) | (with_reducible refine cell_up c2 ?_) | (with_reducible refine cell_up c3 ?_) | (with_reducible refine cell_up c4 ?_) | (with_reducible refine cell_up c5 ?_)) <;> repeat' (first | (with_reducible exact Below.refl _ _) | (with_reducible assumption) | (with_reducible refine below_over ?_ _ _) | (with_reducible refine Lw.below_alloc ?_ _) | (with_reducible refine Below.drew ?_) | (with_reducible refine below_drewN ?_ _) | (with_reducible refine Below.setCell ?_ ?_ _) | go_size))) (first
      | (go_at_call 58; (with_reducible refine (CN.out _).mono ?_); rintro e w1 ⟨q, Q, rfl, hds, hq, hb1⟩; have HB1 : Hid (Below w.heap.size w w1) := Lib.hid (below_call (show Below w.heap.size w _ from (by repeat' (first | (with_reducible exact Below.refl _ _) | (with_reducible assumption) | (with_reducible refine below_over ?_ _ _) | (with_reducible refine Lw.below_alloc ?_ _) | (with_reducible refine Below.drew ?_) | (with_reducible refine below_drewN ?_ _) | (with_reducible refine Below.setCell ?_ ?_ _) | go_size))) hb1 (Nat.le_refl _)); have HDS := Lib.hid hds; have HQF : Hid (∀ k, Q k → w.heap.size ≤ k) := Lib.hid (fun k hk => Nat.le_trans (Below.size (show Below w.heap.size w _ from (by repeat' (first | (with_reducible exact Below.refl _ _) | (with_reducible assumption) | (with_reducible refine below_over ?_ _ _) | (with_reducible refine Lw.below_alloc ?_ _) | (with_reducible refine Below.drew ?_) | (with_reducible refine below_drewN ?_ _) | (with_reducible refine Below.setCell ?_ ?_ _) | go_size)))) (hq k hk)); have hbw1 := HB1.out; clear hds hq hb1))
    all_goals go_wp2
    clear c0 c1 c2 c3 c4 c5 c6
    have hds := HDS.out
    obtain ⟨-, -, -, -, bq, gq, Gq, rfl, hbq, ⟨gqb, hdq, R0, rfl, hrg0, hnum0, hGF0, -⟩, hGbq, rfl⟩ := hds
    (try rw [HMN.out.1, HMN.out.2] at hnum0)
    obtain ⟨Aq, capq, rfl, hcapq, hAq, -⟩ := hrg0.hd
    have hl0 : R0.length = m := by have := congrArg List.length hnum0; rw [nums_len] at this; rw [this]; simp [zerosL]
    have hAq2 : ∃ gqh, Aq = some ⟨gqh, 0, none⟩ := by
      rcases hrg0.outer.2 with ⟨h1, h2⟩ | ⟨gx, cx, cur, h1, h2, h3, h4, h5, h6, h7⟩
      · omega
      · injection h1 with h1 h2 h3
        exact ⟨gx, h1⟩
    obtain ⟨gqh, rfl⟩ := hAq2
    have hq1 := HQF.out bq (.inl rfl)
    have hq2 : w.heap.size ≤ gqb := HQF.out gqb (.inr ((hGF0 gqb).2 (.inl rfl)))
    have hq3 : w.heap.size ≤ gqh := HQF.out gqh (.inr ((hGF0 gqh).2 (.inr (.inl rfl))))
    have hb2 : bq ≠ gqh := fun e => hGbq ((hGF0 bq).2 (.inr (.inl (by rw [e]; rfl))))
    have hrows0 : ∀ r ∈ R0, w.heap.size ≤ r.1 ∧ r.1 ≠ bq := fun r hr => ⟨HQF.out r.1 (.inr ((hGF0 r.1).2 (.inr (.inr ⟨r, hr, rfl⟩)))), fun e => hGbq ((hGF0 bq).2 (.inr (.inr ⟨r, hr, e⟩)))⟩
    have hnb : gqb ≠ bq := fun e => hGbq ((hGF0 bq).2 (.inl e.symm))
    rw [hl0] at hrg0
    have HST : Hid (∃ (R' : List Row), RG w1 gqb (.slice (some ⟨gqh, 0, none⟩) m capq) R' ∧ nums R' = (L.take 0 ++ (zerosL m n).drop 0) ∧ R'.length = m ∧ (∀ r ∈ R', w.heap.size ≤ r.1 ∧ r.1 ≠ bq)) := Lib.hid ⟨R0, hrg0, by rw [hnum0]; simp, hl0, hrows0⟩
    have HBQ := Lib.hid hbq
    clear hrg0 hnum0 hGF0 hGbq hAq hl0 hrows0 HQF HDS hbq hcapq
    go_loopw [4] (fun iv wr => ∃ (r : Nat) (R' : List Row), r ≤ m ∧ iv = .int .i64 r ∧ Below w.heap.size w wr ∧ wr.heap[bq]? = some (.cells #[.int .i64 c.bt, .int .i64 c.rw, .int .i64 c.wd, .int .i64 c.md, .int .u64 c.sd, .int .i64 l, .pointer (some ⟨gqb, 0, none⟩)] 106 (0, 0)) ∧ RG wr gqb (.slice (some ⟨gqh, 0, none⟩) m capq) R' ∧ nums R' = (L.take r ++ (zerosL m n).drop r) ∧ R'.length = m ∧ (∀ x ∈ R', w.heap.size ≤ x.1 ∧ x.1 ≠ bq)) (fun iv _ => m - (intOf iv).toNat)
    case atStart =>
      obtain ⟨R', h1, h2, h3, h4⟩ := HST.out
      exact ⟨0, R', Nat.zero_le _, rfl, HB1.out, HBQ.out, h1, h2, h3, h4⟩
    case round =>
      obtain ⟨r, R', hrm, rfl, hbel, hbq, hrg, hnum, hl', hrows⟩ := hrel
      have c6 := cell_up C6.out hbel
      have c7 := cell_up C7.out hbel
      by_cases hlt : r < m
      · obtain ⟨xs, hxs⟩ : ∃ xs, L[r]? = some xs := ⟨_, List.getElem?_eq_getElem (by rw [HLN.out]; exact hlt)⟩
        obtain ⟨rb, rc, hrw, hrd, hxl⟩ := RW.out r xs hxs
        have c8 := cell_up hrw hbel
        have HXR := Lib.hid (hrd.up hbel)
        have e6 := grd_cell hbq 6 (v := .pointer (some ⟨gqb, 0, none⟩)) rfl
        have e7 : wr.cell? ⟨gqb, 0, none⟩ = some (.slice (some ⟨gqh, 0, none⟩) m capq) := grd_cell hrg.cell 0 rfl
        obtain ⟨ro, hro⟩ : ∃ ro, R'[r]? = some ro := ⟨_, List.getElem?_eq_getElem (by rw [hl']; exact hlt)⟩
        have hgql : gqh < wr.heap.size := own_lt hrg.outer rfl
        obtain ⟨aq, haq⟩ : ∃ aq : Addr, (⟨gqh, 0, none⟩ : Addr) = aq := ⟨_, rfl⟩
        have hcq : wr.cell? ⟨gqh, r, none⟩ = some (rowHd ro) := by
          have h9 := hrg.outer.cells (g := gqh) rfl r (rowHd ro) (by rw [List.getElem?_map, hro]; rfl)
          rw [Ord.add_at, Nat.zero_add] at h9
          exact h9
        have hfq : wr.frozen? ⟨gqh, r, none⟩ = false := by
          rcases hrg.outer.2 with ⟨h1, h2⟩ | ⟨gx, cx, cur, h1, h2, h3, h4, h5, h6, h7⟩
          · cases h1
          · injection h1 with h1 h2 h3
            injection h1 with h1
            injection h1 with h1
            subst h1
            simp [World.frozen?, h3]
        have FZ : Hid (∀ w', Below wr.heap.size wr w' → w'.frozen? (aq.add r) = false) := Lib.hid (fun w' hb => by
          rw [← haq, Ord.add_at, Nat.zero_add]
          rw [frozen_below hb hgql]
          exact hfq)
        have CO4 : Hid (∀ w', Below wr.heap.size wr w' → w'.cell? (aq.add r) = some (rowHd ro)) := Lib.hid (fun w' hb => by
          rw [← haq, Ord.add_at, Nat.zero_add]
          exact cell_up hcq hb)
        have HNX : Hid (∀ x : Row, x.2.2 = xs → nums (R'.set r x) = (L.take (r + 1) ++ (zerosL m n).drop (r + 1))) := Lib.hid (fun x hx => by
          rw [nums_set, hnum, hx]
          exact take_drop_set hxs (by rw [HLN.out]; simp [zerosL]))
        have HRG := Lib.hid hrg
        have HBQ2 := Lib.hid hbq
        have HRS := Lib.hid hrows
        have hszw := hbel.size
        have hr1 : (r : Int) < (m : Int) := by omega
        have HBL := Lib.hid hbel
        have SKP : Hid (∀ (w' : World) (v : Value) (a : Addr) (u : Value), w'.cell? a = some u → a.block ≠ gqh → (w'.setCell (aq.add r) v).cell? a = some u) := Lib.hid (fun w' v a u h1 h2 => by
          rw [← haq, Ord.add_at, Nat.zero_add]
          exact (Kept.set (F := fun k => k = gqh) (Kept.refl _ w') (.inl rfl) r v).cell h1 h2)
        have hne6 : b ≠ gqh := by omega
        have hne7 : gqb ≠ gqh := fun e => hrg.apart1 (by rw [e]; rfl)
        have hne8 : gb ≠ gqh := by have := cell_lt C7.out; simp only at this; omega
        have hne9 : (gh.add r).block ≠ gqh := by have := cell_lt hrw; omega
        rw [haq] at e7
        clear hxs hrw hrd hro hcq hfq hnum hbq hrows
        go_upto_region 5 with fail
        go_region_held3 (fun w' => w'.cell? ⟨bq, 6, none⟩ = some (.pointer (some ⟨gqb, 0, none⟩)) ∧ w'.cell? ⟨gqb, 0, none⟩ = some (.slice (some aq) m capq) ∧ w'.cell? ⟨b, 6, none⟩ = some (.pointer (some ⟨gb, 0, none⟩)) ∧ w'.cell? ⟨gb, 0, none⟩ = some (.slice (some gh) m cap) ∧ w'.cell? (gh.add r) = some (.slice (some ⟨rb, 0, none⟩) n rc)) (first | (refine ⟨?_, ?_, ?_, ?_, ?_⟩ <;> (first | (with_reducible assumption) | (with_reducible refine cell_up e6 ?_) | (with_reducible refine cell_up e7 ?_) | (with_reducible refine cell_up c6 ?_) | (with_reducible refine cell_up c7 ?_) | (with_reducible refine cell_up c8 ?_)) <;> (repeat' (first | (with_reducible exact Below.refl _ _) | (with_reducible assumption) | (with_reducible refine below_over ?_ _ _) | (with_reducible refine Lw.below_alloc ?_ _) | (with_reducible refine Below.drew ?_) | (with_reducible refine below_drewN ?_ _) | (with_reducible refine Below.setCell ?_ ?_ _) | go_size)))) (first
          | (refine app_step .i64 rfl _ _ 48 rfl wr.heap.size 2 i0 8 i64s_u hi hz0 hz1 hz2 (.slice (some ⟨wr.heap.size, 0, none⟩) 0 0) 0 [] rfl (own_empty wr.drew _ _ _ (Nat.le_refl _)) (fun h => by cases h) (some ⟨rb, 0, none⟩) n rc xs rfl (fun h => by cases h) hxl (HXR.out.up (by repeat' (first | (with_reducible exact Below.refl _ _) | (with_reducible assumption) | (with_reducible refine below_over ?_ _ _) | (with_reducible refine Lw.below_alloc ?_ _) | (with_reducible refine Below.drew ?_) | (with_reducible refine below_drewN ?_ _) | (with_reducible refine Below.setCell ?_ ?_ _) | go_size))) (by unfold maxLen; omega) (by omega) (by simp) ?_; intro A4 cap4 w4 hown4 hgrow4 hrd4 hcap6 hcap7; have hb4 : Below wr.heap.size wr w4 := app_below2 (by repeat' (first | (with_reducible exact Below.refl _ _) | (with_reducible assumption) | (with_reducible refine below_over ?_ _ _) | (with_reducible refine Lw.below_alloc ?_ _) | (with_reducible refine Below.drew ?_) | (with_reducible refine below_drewN ?_ _) | (with_reducible refine Below.setCell ?_ ?_ _) | go_size)) hgrow4 (Nat.le_refl _); (try simp only [Nat.zero_add, List.nil_append] at hown4 hcap6); (try simp only [Nat.zero_add]); have HO4 := Lib.hid hown4; have HB4 := Lib.hid hb4; have fz4 := FZ.out w4 hb4; have co4 := CO4.out w4 hb4; have q6 := SKP.out w4 (.slice (some A4) n cap4) _ _ (cell_up e6 hb4) hb2; have q7 := SKP.out w4 (.slice (some A4) n cap4) _ _ (cell_up e7 hb4) hne7; have q8 := SKP.out w4 (.slice (some A4) n cap4) _ _ (cell_up c6 hb4) hne6; have q9 := SKP.out w4 (.slice (some A4) n cap4) _ _ (cell_up c7 hb4) hne8; have q10 := SKP.out w4 (.slice (some A4) n cap4) _ _ (cell_up c8 hb4) hne9; clear hown4 hgrow4 hrd4))
        all_goals go_wp2
        go_roundw
        case rel =>
          obtain ⟨g4, rfl, hg4, -⟩ := Ord.mid_own HO4.out
          have hrg4 := HRG.out.keep (F := fun _ => False) (Kept.of_below HB4.out) (fun q hq h => h)
          have hnf : ¬ RF gqb (.slice (some ⟨gqh, 0, none⟩) m capq) R' g4 := fun hk => by have := HRG.out.blt hk; omega
          have hown0 : w4.ownsRow 0 2 1 (rowHd (g4, cap4, xs)) xs.length (xs.map (Value.int .i64)) := by
            have h9 := own_zero HO4.out
            unfold rowHd
            rw [hxl]
            exact h9
          have hwe : w4.setCell (aq.add r) (.slice (some ⟨g4, 0, none⟩) n cap4) = w4.setCell ⟨gqh, r, none⟩ (rowHd (g4, cap4, xs)) := by
            rw [← haq, Ord.add_at, Nat.zero_add]
            unfold rowHd
            rw [hxl]
          have hset : RG (w4.setCell ⟨gqh, r, none⟩ (rowHd (g4, cap4, xs))) gqb (.slice (some ⟨gqh, 0, none⟩) m capq) (R'.set r (g4, cap4, xs)) := by
            have h8 := RG.setRow (w := w4) (b := gqb) (gh := gqh) (cap := capq) (R := R') (by rw [hl']; exact hrg4) (K := r) (by rw [hl']; exact hlt) g4 cap4 xs hown0 (by rw [hl']; exact hnf)
            rw [List.length_set, hl'] at h8
            exact h8
          have hb4 : Below w.heap.size w w4 := below_call HBL.out HB4.out (Nat.le_refl _)
          have hbqs := size_of_heap HBQ2.out
          have hks : Kept (fun q => q = gqh) w4 (w4.setCell ⟨gqh, r, none⟩ (rowHd (g4, cap4, xs))) := Kept.set (F := fun q => q = gqh) (Kept.refl _ w4) (.inl rfl) r _
          rw [hwe]
          refine ⟨r + 1, R'.set r (g4, cap4, xs), by omega, by go_num, Below.setCell hb4 hq3 _, ?_, hset, HNX.out _ rfl, by rw [List.length_set]; exact hl', fun x hx => ?_⟩
          · refine hks.heap ?_ hb2
            rw [HB4.out.block bq hbqs]
            exact HBQ2.out
          · rcases List.mem_or_eq_of_mem_set hx with hx | rfl
            · exact HRS.out x hx
            · exact ⟨by show w.heap.size ≤ g4; omega, by show g4 ≠ bq; omega⟩
        case measure => simp [intOf]; omega
      · have e : r = m := by omega
        subst e
        have hlt3 : ¬ (r : Int) < (r : Int) := by omega
        have hnl : nums R' = L := by
          rw [hnum, List.take_of_length_le (by rw [HLN.out]; exact Nat.le_refl _), List.drop_of_length_le (by simp [zerosL]), List.append_nil]
        have HRG := Lib.hid hrg
        have HBQ2 := Lib.hid hbq
        have HRS := Lib.hid hrows
        have HBL := Lib.hid hbel
        have HNL := Lib.hid hnl
        clear hrg hbq hrows hbel hnl hnum hl'
        go_wp2
        go_ret
        refine ⟨⟨bq, 0, none⟩, rfl, fun k => k = bq ∨ RF gqb (.slice (some ⟨gqh, 0, none⟩) r capq) R' k, ⟨HR.out.1, HR.out.2.1, HR.out.2.2.1, HR.out.2.2.2, bq, ⟨gqb, 0, none⟩, RF gqb (.slice (some ⟨gqh, 0, none⟩) r capq) R', rfl, HBQ2.out, ⟨gqb, _, R', rfl, HRG.out, HNL.out, fun _ => Iff.rfl, by rw [HMN.out.1, HMN.out.2]; exact HDD.out⟩, fun hk => ?_, rfl⟩, fun k hk => ?_, HBL.out⟩
        · rcases hk with h1 | h1 | ⟨x, hx, h1⟩
          · exact hnb h1.symm
          · simp [Value.ownBlock] at h1
            exact hb2 h1.symm
          · exact (HRS.out x hx).2 h1
        · rcases hk with rfl | h1 | h1 | ⟨x, hx, h1⟩
          · exact hq1
          · rw [h1]; exact hq2
          · simp [Value.ownBlock] at h1
            rw [← h1]; exact hq3
          · rw [← h1]; exact (HRS.out x hx).1
end Go.Proofs.YtiblpdjehknbcaaGreat.Sk
/- The document's level as a thing: a block of two pointers, of which one leads to an array or a sketch. Printed by wip/gen/levref.py. -/
namespace Go.Proofs.YtiblpdjehknbcaaGreat.Lev
open Go Go.RowKit Lw Grd Lin Con Shp Sk Exa
set_option linter.unusedVariables false
set_option linter.unusedSimpArgs false
/-- A level of the document at p: its two pointers, and the thing that one of them leads to. -/
def DL (v0 v1 : Value) (t : Thing) (w : World) (p : Addr) (F : Nat → Prop) : Prop := ∃ b : Nat, p = ⟨b, 0, none⟩ ∧ w.heap[b]? = some (.cells #[v0, v1] 101 (0, 0)) ∧ t.I w ∧ ¬ t.F b ∧ F = (fun k => k = b ∨ t.F k)
theorem DL.keep {v0 v1 : Value} {t : Thing} {w w' : World} {p : Addr} {F H : Nat → Prop} (h : DL v0 v1 t w p F) (hk : Kept H w w') (hf : ∀ k, F k → ¬ H k) : DL v0 v1 t w' p F := by
  obtain ⟨b, rfl, hb, ht, hn, rfl⟩ := h
  exact ⟨b, rfl, hk.heap hb (hf b (.inl rfl)), t.keep w w' H ht hk (fun k h => hf k (.inr h)), hn, rfl⟩
theorem DL.up {v0 v1 : Value} {t : Thing} {w w' : World} {p : Addr} {F : Nat → Prop} (h : DL v0 v1 t w p F) (hk : Below w.heap.size w w') : DL v0 v1 t w' p F := h.keep (Kept.of_below (F := fun _ => False) hk) (fun _ _ h => h)
theorem DL.lt {v0 v1 : Value} {t : Thing} {w : World} {p : Addr} {F : Nat → Prop} (h : DL v0 v1 t w p F) (k : Nat) (hk : F k) : k < w.heap.size := by
  obtain ⟨b, rfl, hb, ht, hn, rfl⟩ := h
  rcases hk with rfl | hk
  · exact size_of_heap hb
  · exact t.lt w ht k hk
/-- The thing behind is turned. -/
theorem dl_turn {v0 v1 : Value} {t t' : Thing} {w w' : World} {b : Nat} (hb : w.heap[b]? = some (.cells #[v0, v1] 101 (0, 0))) (hn : ¬ t.F b) (ht : t'.I w') (hk : Kept t.F w w') (hF : ∀ k, t'.F k → t.F k ∨ w.heap.size ≤ k) :
    ∃ F', DL v0 v1 t' w' ⟨b, 0, none⟩ F' ∧ Kept (fun k => k = b ∨ t.F k) w w' ∧ (∀ q, F' q → (q = b ∨ t.F q) ∨ w.heap.size ≤ q) := by
  have hbl := size_of_heap hb
  refine ⟨_, ⟨b, rfl, hk.heap hb hn, ht, fun h => ?_, rfl⟩, hk.mono (fun k _ h => .inr h), fun q hq => ?_⟩
  · rcases hF b h with h1 | h1
    · exact hn h1
    · omega
  · rcases hq with rfl | h1
    · exact .inl (.inl rfl)
    · rcases hF q h1 with h2 | h2
      · exact .inl (.inr h2)
      · exact .inr h2
/-- A new one: the thing behind has been made since w. -/
theorem dl_new {v0 v1 : Value} {t : Thing} {w w2 : World} (hB : Below w.heap.size w w2) (ht : t.I w2) (hf : ∀ k, t.F k → w.heap.size ≤ k) :
    ∃ F', DL v0 v1 t (w2.alloc (.cells #[v0, v1] 101)) ⟨w2.heap.size, 0, none⟩ F' ∧ (∀ k, F' k → w.heap.size ≤ k) ∧ Below w.heap.size w (w2.alloc (.cells #[v0, v1] 101)) := by
  have hs := hB.size
  refine ⟨_, ⟨w2.heap.size, rfl, heap_alloc_new w2 _, t.keep w2 _ (fun _ => False) ht (Kept.of_below (Lw.below_alloc (Below.refl _ _) _)) (fun _ _ h => h), fun h => by have := t.lt w2 ht _ h; omega, rfl⟩, fun k hk => ?_, hB.alloc hs _⟩
  rcases hk with rfl | hk
  · exact hs
  · exact hf k hk
/-- An array of the document, as a level. -/
def DLA (w : World) (p : Addr) (F : Nat → Prop) (c : Cfg) (l : Int) (L : List Int) : Prop := ∃ (a : Addr) (G : Nat → Prop), DL (.pointer (some a)) (.pointer none) (daT a G c l L) w p F
/-- A sketch of the document, as a level. -/
def DLS (w : World) (p : Addr) (F : Nat → Prop) (c : Cfg) (l : Int) (L : List (List Int)) : Prop := ∃ (a : Addr) (G : Nat → Prop), DL (.pointer none) (.pointer (some a)) (dsT a G c l L) w p F
theorem DLA.up {w w' : World} {p : Addr} {F : Nat → Prop} {c : Cfg} {l : Int} {L : List Int} (h : DLA w p F c l L) (hk : Below w.heap.size w w') : DLA w' p F c l L := by
  obtain ⟨a, G, h⟩ := h
  exact ⟨a, G, h.up hk⟩
def dlAT (p : Addr) (F : Nat → Prop) (c : Cfg) (l : Int) (L : List Int) : Thing where
  I := fun w => DLA w p F c l L
  F := F
  keep := fun w w' H h hk hf => by
    obtain ⟨a, G, h⟩ := h
    exact ⟨a, G, h.keep hk hf⟩
  lt := fun w h k hk => by
    obtain ⟨a, G, h⟩ := h
    exact h.lt k hk
theorem dlAI {w : World} {p : Addr} {F : Nat → Prop} {c : Cfg} {l : Int} {L : List Int} (h : (dlAT p F c l L).I w) : DLA w p F c l L := h
theorem DLS.up {w w' : World} {p : Addr} {F : Nat → Prop} {c : Cfg} {l : Int} {L : List (List Int)} (h : DLS w p F c l L) (hk : Below w.heap.size w w') : DLS w' p F c l L := by
  obtain ⟨a, G, h⟩ := h
  exact ⟨a, G, h.up hk⟩
def dlST (p : Addr) (F : Nat → Prop) (c : Cfg) (l : Int) (L : List (List Int)) : Thing where
  I := fun w => DLS w p F c l L
  F := F
  keep := fun w w' H h hk hf => by
    obtain ⟨a, G, h⟩ := h
    exact ⟨a, G, h.keep hk hf⟩
  lt := fun w h k hk => by
    obtain ⟨a, G, h⟩ := h
    exact h.lt k hk
theorem dlSI {w : World} {p : Addr} {F : Nat → Prop} {c : Cfg} {l : Int} {L : List (List Int)} (h : (dlST p F c l L).I w) : DLS w p F c l L := h
end Go.Proofs.YtiblpdjehknbcaaGreat.Lev
/- The walks of gaugerref13 (the document's level): New, Copy, Update, Point, Cells, Join. Printed by wip/gen/levref.py. -/
namespace Go.Proofs.YtiblpdjehknbcaaGreat.Lev
open Go Go.RowKit Lw Grd Lin Con Shp Sk Exa
set_option linter.unusedVariables false
set_option linter.unusedSimpArgs false
theorem tup (t : Thing) {w w' : World} (h : t.I w) (hb : Below w.heap.size w w') : t.I w' := t.keep w w' (fun _ => False) h (Kept.of_below hb) (fun _ _ h => h)
set_option maxRecDepth 100000 in
set_option maxHeartbeats 4000000 in
theorem lnew_A (c : Cfg) (l : Int) (w : World) (h : c.Ok) (hr : IsRight c) (l0 : 0 ≤ l) (l1 : l ≤ c.bt) (hx : exactB c l = true) :
    Calls Tryz.prog 31 #[.agg #[.int .i64 c.bt, .int .i64 c.rw, .int .i64 c.wd, .int .i64 c.md, .int .u64 c.sd], .int .i64 l] w fun e w' => ∃ (p : Addr) (F : Nat → Prop), e = .returned (.pointer (some p)) ∧ DLA w' p F c l (List.replicate (keys c l).toNat 0) ∧ (∀ k, F k → w.heap.size ≤ k) ∧ Below w.heap.size w w' := by
  have hbt := hr.2.1
  have CX := Lib.hid (fun w => rexact_any c l w h (by omega) (by omega))
  rw [hx] at CX
  have CK := Lib.hid (fun w => rkeys_any c l w h (by omega) (by omega))
  have hk := of_decide_eq_true hx
  have hw := hr.2.2.2.2.2.1
  obtain ⟨n, hn⟩ : ∃ n : Nat, keys c l = (n : Int) := ⟨(keys c l).toNat, by omega⟩
  rw [hn] at CK hk
  rw [hn, Int.toNat_natCast]
  have DN := Lib.hid (fun w => anew_any c l n w h (by omega))
  clear hk hw hn
  have HBX : Hid (Have w (w.alloc (.cells #[.int .i64 c.bt, .int .i64 c.rw, .int .i64 c.wd, .int .i64 c.md, .int .u64 c.sd] 24)) [boxT w.heap.size 24 #[.int .i64 c.bt, .int .i64 c.rw, .int .i64 c.wd, .int .i64 c.md, .int .u64 c.sd]]) := Lib.hid (box_new w _ _)
  clear hx h hr
  go_enter Tryz.func31, Tryz.ntmps31
  go_upto_region 2 with (go_at_call 56; (with_reducible refine (CX.out _).mono ?_); rintro e w1 ⟨rfl, hb9⟩; have HV1 := Lib.hid (HBX.out.up hb9); obtain ⟨x0, x1, x2, x3, x4⟩ := box5 HV1.out.i0; clear hb9)
  go_region_held3 (fun w' => w'.cell? ⟨w.heap.size, 0, none⟩ = some (.int .i64 c.bt) ∧ w'.cell? ⟨w.heap.size, 1, none⟩ = some (.int .i64 c.rw) ∧ w'.cell? ⟨w.heap.size, 2, none⟩ = some (.int .i64 c.wd) ∧ w'.cell? ⟨w.heap.size, 3, none⟩ = some (.int .i64 c.md) ∧ w'.cell? ⟨w.heap.size, 4, none⟩ = some (.int .u64 c.sd)) (first | (refine ⟨?_, ?_, ?_, ?_, ?_⟩ <;> (first | (with_reducible assumption) | (with_reducible refine cell_up x0 ?_) | (with_reducible refine cell_up x1 ?_) | (with_reducible refine cell_up x2 ?_) | (with_reducible refine cell_up x3 ?_) | (with_reducible refine cell_up x4 ?_)) <;> (repeat' (first | (with_reducible exact Below.refl _ _) | (with_reducible assumption) | (with_reducible refine below_over ?_ _ _) | (with_reducible refine Lw.below_alloc ?_ _) | (with_reducible refine Below.drew ?_) | (with_reducible refine below_drewN ?_ _) | (with_reducible refine Below.setCell ?_ ?_ _) | go_size)))) (first
    | (go_at_call 24; (with_reducible refine (CK.out _).mono ?_); rintro e w' ⟨rfl, hb9⟩; obtain ⟨bs2, d2, rfl⟩ := below_grow hb9; clear hb9)
    | (go_at_call 57; (with_reducible refine (DN.out _).mono ?_); rintro e w2 ⟨a, G, rfl, h1, h2, hb9⟩; have HB2 : Hid (Below w.heap.size w w2) := Lib.hid (below_call (HV1.out.up (by repeat' (first | (with_reducible exact Below.refl _ _) | (with_reducible assumption) | (with_reducible refine below_over ?_ _ _) | (with_reducible refine Lw.below_alloc ?_ _) | (with_reducible refine Below.drew ?_) | (with_reducible refine below_drewN ?_ _) | (with_reducible refine Below.setCell ?_ ?_ _) | go_size))).below hb9 (Nat.le_refl _)); have HT : Hid ((daT a G c l (List.replicate n 0)).I w2) := Lib.hid h1; have HF : Hid (∀ k, G k → w.heap.size ≤ k) := Lib.hid (fun k hk => Nat.le_trans (Below.size (HV1.out.up (by repeat' (first | (with_reducible exact Below.refl _ _) | (with_reducible assumption) | (with_reducible refine below_over ?_ _ _) | (with_reducible refine Lw.below_alloc ?_ _) | (with_reducible refine Below.drew ?_) | (with_reducible refine below_drewN ?_ _) | (with_reducible refine Below.setCell ?_ ?_ _) | go_size))).below) (h2 k hk)); have hbw := HB2.out; have hV2 := (HV1.out.up (by repeat' (first | (with_reducible exact Below.refl _ _) | (with_reducible assumption) | (with_reducible refine below_over ?_ _ _) | (with_reducible refine Lw.below_alloc ?_ _) | (with_reducible refine Below.drew ?_) | (with_reducible refine below_drewN ?_ _) | (with_reducible refine Below.setCell ?_ ?_ _) | go_size))).up hb9; clear x0 x1 x2 x3 x4; obtain ⟨x0, x1, x2, x3, x4⟩ := box5 hV2.i0; clear h1 h2 hb9 hV2))
  all_goals go_wp2
  all_goals go_ret
  obtain ⟨F', h1, h2, h3⟩ := dl_new (v0 := .pointer (some a)) (v1 := .pointer none) HB2.out HT.out HF.out
  exact ⟨_, F', rfl, ⟨a, G, h1⟩, h2, h3⟩
set_option maxRecDepth 100000 in
set_option maxHeartbeats 4000000 in
theorem lnew_S (c : Cfg) (l : Int) (w : World) (h : c.Ok) (hr : IsRight c) (l0 : 0 ≤ l) (l1 : l ≤ c.bt) (hx : exactB c l = false) :
    Calls Tryz.prog 31 #[.agg #[.int .i64 c.bt, .int .i64 c.rw, .int .i64 c.wd, .int .i64 c.md, .int .u64 c.sd], .int .i64 l] w fun e w' => ∃ (p : Addr) (F : Nat → Prop), e = .returned (.pointer (some p)) ∧ DLS w' p F c l (zerosL (rws c) (wds c)) ∧ (∀ k, F k → w.heap.size ≤ k) ∧ Below w.heap.size w w' := by
  have hbt := hr.2.1
  have CX := Lib.hid (fun w => rexact_any c l w h (by omega) (by omega))
  rw [hx] at CX
  have DN := Lib.hid (fun w => rsnew_any c l w h hr l0 l1)
  have HBX : Hid (Have w (w.alloc (.cells #[.int .i64 c.bt, .int .i64 c.rw, .int .i64 c.wd, .int .i64 c.md, .int .u64 c.sd] 24)) [boxT w.heap.size 24 #[.int .i64 c.bt, .int .i64 c.rw, .int .i64 c.wd, .int .i64 c.md, .int .u64 c.sd]]) := Lib.hid (box_new w _ _)
  clear hx h hr
  go_enter Tryz.func31, Tryz.ntmps31
  go_wp2_with (first
    | (go_at_call 56; (with_reducible refine (CX.out _).mono ?_); rintro e w1 ⟨rfl, hb9⟩; have HV1 := Lib.hid (HBX.out.up hb9); obtain ⟨x0, x1, x2, x3, x4⟩ := box5 HV1.out.i0; clear hb9)
    | (go_at_call 58; (with_reducible refine (DN.out _).mono ?_); rintro e w2 ⟨a, G, rfl, h1, h2, hb9⟩; have HB2 : Hid (Below w.heap.size w w2) := Lib.hid (below_call HV1.out.below hb9 (Nat.le_refl _)); have HT : Hid ((dsT a G c l (zerosL (rws c) (wds c))).I w2) := Lib.hid h1; have HF : Hid (∀ k, G k → w.heap.size ≤ k) := Lib.hid (fun k hk => Nat.le_trans (Below.size HV1.out.below) (h2 k hk)); clear h1 h2 hb9))
  go_ret
  obtain ⟨F', h1, h2, h3⟩ := dl_new (v0 := .pointer none) (v1 := .pointer (some a)) HB2.out HT.out HF.out
  exact ⟨_, F', rfl, ⟨a, G, h1⟩, h2, h3⟩
set_option maxRecDepth 100000 in
set_option maxHeartbeats 4000000 in
theorem lcopy_A (p : Addr) (F : Nat → Prop) (c : Cfg) (l : Int) (L : List Int) (w : World) (h : DLA w p F c l L) :
    Calls Tryz.prog 62 #[.pointer (some p)] w fun e w' => ∃ (q : Addr) (Q : Nat → Prop), e = .returned (.pointer (some q)) ∧ DLA w' q Q c l L ∧ (∀ k, Q k → w.heap.size ≤ k) ∧ Below w.heap.size w w' := by
  obtain ⟨a, G, b, rfl, hb, ht, hn, rfl⟩ := h
  have c0 := grd_cell hb 0 (v := .pointer (some a)) rfl
  have c1 := grd_cell hb 1 (v := .pointer none) rfl
  have C := Lib.hid (acopy_any a G c l L w (daI ht))
  clear hb ht hn
  go_enter Tryz.func62, Tryz.ntmps62
  go_wp2_with (go_at_call 69; (with_reducible refine (C.out).mono ?_); rintro e w2 ⟨a2, G2, rfl, h1, h2, hb9⟩; have HT : Hid ((daT a2 G2 c l L).I w2) := Lib.hid h1; have HF := Lib.hid h2; have HB2 := Lib.hid hb9; clear h1 h2 hb9)
  go_ret
  obtain ⟨F', h1, h2, h3⟩ := dl_new (v0 := .pointer (some a2)) (v1 := .pointer none) HB2.out HT.out HF.out
  exact ⟨_, F', rfl, ⟨a2, G2, h1⟩, h2, h3⟩
set_option maxRecDepth 100000 in
set_option maxHeartbeats 4000000 in
theorem lcopy_S (p : Addr) (F : Nat → Prop) (c : Cfg) (l : Int) (L : List (List Int)) (w : World) (h : DLS w p F c l L) :
    Calls Tryz.prog 62 #[.pointer (some p)] w fun e w' => ∃ (q : Addr) (Q : Nat → Prop), e = .returned (.pointer (some q)) ∧ DLS w' q Q c l L ∧ (∀ k, Q k → w.heap.size ≤ k) ∧ Below w.heap.size w w' := by
  obtain ⟨a, G, b, rfl, hb, ht, hn, rfl⟩ := h
  have c0 := grd_cell hb 0 (v := .pointer none) rfl
  have c1 := grd_cell hb 1 (v := .pointer (some a)) rfl
  have C := Lib.hid (rscopy_any a G c l L w (dsI ht))
  clear hb ht hn
  go_enter Tryz.func62, Tryz.ntmps62
  go_wp2_with (go_at_call 70; (with_reducible refine (C.out).mono ?_); rintro e w2 ⟨a2, G2, rfl, h1, h2, hb9⟩; have HT : Hid ((dsT a2 G2 c l L).I w2) := Lib.hid h1; have HF := Lib.hid h2; have HB2 := Lib.hid hb9; clear h1 h2 hb9)
  go_ret
  obtain ⟨F', h1, h2, h3⟩ := dl_new (v0 := .pointer none) (v1 := .pointer (some a2)) HB2.out HT.out HF.out
  exact ⟨_, F', rfl, ⟨a2, G2, h1⟩, h2, h3⟩
set_option maxRecDepth 100000 in
set_option maxHeartbeats 4000000 in
theorem lupd_A (p : Addr) (F : Nat → Prop) (c : Cfg) (l : Int) (L : List Int) (k d : Int) (w : World) (h : DLA w p F c l L) (k0 : 0 ≤ k) (k1 : k ≤ 18446744073709551615) (d0 : -9223372036854775808 ≤ d) (d1 : d ≤ 9223372036854775807) :
    Calls Tryz.prog 38 #[.pointer (some p), .int .u64 k, .int .i64 d] w fun e w' => e = .returned (.int .i64 (exCode c.md L k d)) ∧ ∃ F', DLA w' p F' c l (exRes c.md L k d) ∧ Kept F w w' ∧ (∀ q, F' q → F q ∨ w.heap.size ≤ q) := by
  obtain ⟨a, G, b, rfl, hb, ht, hn, rfl⟩ := h
  have c0 := grd_cell hb 0 (v := .pointer (some a)) rfl
  have c1 := grd_cell hb 1 (v := .pointer none) rfl
  have C := Lib.hid (aupd_any a G c l L k d w (daI ht) k0 k1 d0 d1)
  have HT : Hid (∀ w' G', (daT a G' c l (exRes c.md L k d)).I w' → Kept G w w' → (∀ k, G' k → G k ∨ w.heap.size ≤ k) → ∃ F', DLA w' ⟨b, 0, none⟩ F' c l (exRes c.md L k d) ∧ Kept (fun k => k = b ∨ G k) w w' ∧ (∀ q, F' q → (q = b ∨ G q) ∨ w.heap.size ≤ q)) := Lib.hid (fun w' G' h1 h2 h3 => by
    obtain ⟨F', g1, g2, g3⟩ := dl_turn (t := daT a G c l L) (t' := daT a G' c l (exRes c.md L k d)) hb hn h1 h2 h3
    exact ⟨F', ⟨a, G', g1⟩, g2, g3⟩)
  obtain ⟨V, hV⟩ : ∃ V, exCode c.md L k d = V := ⟨_, rfl⟩
  obtain ⟨N, hN⟩ : ∃ N, exRes c.md L k d = N := ⟨_, rfl⟩
  rw [hV, hN] at C
  rw [hN] at HT
  rw [hV, hN]
  clear hb ht hn hV hN
  go_enter Tryz.func38, Tryz.ntmps38
  go_wp2_with (go_at_call 63; (with_reducible refine (C.out).mono ?_); rintro e w2 ⟨rfl, G2, h1, h2, h3⟩; have H1 := Lib.hid h1; have H2 := Lib.hid h2; have H3 := Lib.hid h3; clear h1 h2 h3)
  go_ret
  exact ⟨rfl, HT.out _ _ H1.out H2.out H3.out⟩
set_option maxRecDepth 100000 in
set_option maxHeartbeats 4000000 in
theorem lupd_S (p : Addr) (F : Nat → Prop) (c : Cfg) (l : Int) (L : List (List Int)) (k d : Int) (w : World) (h : DLS w p F c l L) (k0 : 0 ≤ k) (k1 : k ≤ 18446744073709551615) (d0 : -9223372036854775808 ≤ d) (d1 : d ≤ 9223372036854775807) :
    Calls Tryz.prog 38 #[.pointer (some p), .int .u64 k, .int .i64 d] w fun e w' => e = .returned (.int .i64 (upCode c l L k d)) ∧ ∃ F', DLS w' p F' c l (upRes c l L k d) ∧ Kept F w w' ∧ (∀ q, F' q → F q ∨ w.heap.size ≤ q) := by
  obtain ⟨a, G, b, rfl, hb, ht, hn, rfl⟩ := h
  have c0 := grd_cell hb 0 (v := .pointer none) rfl
  have c1 := grd_cell hb 1 (v := .pointer (some a)) rfl
  have C := Lib.hid (rsupd_any a G c l L k d w (dsI ht) k0 k1 d0 d1)
  have HT : Hid (∀ w' G', (dsT a G' c l (upRes c l L k d)).I w' → Kept G w w' → (∀ k, G' k → G k ∨ w.heap.size ≤ k) → ∃ F', DLS w' ⟨b, 0, none⟩ F' c l (upRes c l L k d) ∧ Kept (fun k => k = b ∨ G k) w w' ∧ (∀ q, F' q → (q = b ∨ G q) ∨ w.heap.size ≤ q)) := Lib.hid (fun w' G' h1 h2 h3 => by
    obtain ⟨F', g1, g2, g3⟩ := dl_turn (t := dsT a G c l L) (t' := dsT a G' c l (upRes c l L k d)) hb hn h1 h2 h3
    exact ⟨F', ⟨a, G', g1⟩, g2, g3⟩)
  obtain ⟨V, hV⟩ : ∃ V, upCode c l L k d = V := ⟨_, rfl⟩
  obtain ⟨N, hN⟩ : ∃ N, upRes c l L k d = N := ⟨_, rfl⟩
  rw [hV, hN] at C
  rw [hN] at HT
  rw [hV, hN]
  clear hb ht hn hV hN
  go_enter Tryz.func38, Tryz.ntmps38
  go_wp2_with (go_at_call 64; (with_reducible refine (C.out).mono ?_); rintro e w2 ⟨rfl, G2, h1, h2, h3⟩; have H1 := Lib.hid h1; have H2 := Lib.hid h2; have H3 := Lib.hid h3; clear h1 h2 h3)
  go_ret
  exact ⟨rfl, HT.out _ _ H1.out H2.out H3.out⟩
set_option maxRecDepth 100000 in
set_option maxHeartbeats 4000000 in
theorem lpoint_A (p : Addr) (F : Nat → Prop) (c : Cfg) (l : Int) (L : List Int) (k : Int) (w : World) (h : DLA w p F c l L) (k0 : 0 ≤ k) (k1 : k ≤ 18446744073709551615) :
    Calls Tryz.prog 66 #[.pointer (some p), .int .u64 k] w fun e w' => e = .returned (.tuple #[.int .i64 (Exa.ptV L k), .int .i64 (Exa.ptC L k)]) ∧ Below w.heap.size w w' := by
  obtain ⟨a, G, b, rfl, hb, ht, hn, rfl⟩ := h
  have c0 := grd_cell hb 0 (v := .pointer (some a)) rfl
  have c1 := grd_cell hb 1 (v := .pointer none) rfl
  have C := Lib.hid (Exa.apoint_any a G c l L k w (daI ht) k0 k1)
  clear hb ht hn
  go_enter Tryz.func66, Tryz.ntmps66
  go_wp2_with (go_at_call 77; (with_reducible refine (C.out).mono ?_); rintro e w2 ⟨rfl, hb9⟩; have HB2 := Lib.hid hb9; clear hb9)
  go_ret2
  exact ⟨rfl, HB2.out⟩
set_option maxRecDepth 100000 in
set_option maxHeartbeats 4000000 in
theorem lpoint_S (p : Addr) (F : Nat → Prop) (c : Cfg) (l : Int) (L : List (List Int)) (k : Int) (w : World) (h : DLS w p F c l L) (k0 : 0 ≤ k) (k1 : k ≤ 18446744073709551615) :
    Calls Tryz.prog 66 #[.pointer (some p), .int .u64 k] w fun e w' => e = .returned (.tuple #[.int .i64 (ptVal c l L k), .int .i64 (ptCode c l k)]) ∧ Below w.heap.size w w' := by
  obtain ⟨a, G, b, rfl, hb, ht, hn, rfl⟩ := h
  have c0 := grd_cell hb 0 (v := .pointer none) rfl
  have c1 := grd_cell hb 1 (v := .pointer (some a)) rfl
  have C := Lib.hid (rspoint_any a G c l L k w (dsI ht) k0 k1)
  clear hb ht hn
  go_enter Tryz.func66, Tryz.ntmps66
  go_wp2_with (go_at_call 78; (with_reducible refine (C.out).mono ?_); rintro e w2 ⟨rfl, hb9⟩; have HB2 := Lib.hid hb9; clear hb9)
  go_ret2
  exact ⟨rfl, HB2.out⟩
set_option maxRecDepth 100000 in
set_option maxHeartbeats 4000000 in
theorem lcells_A (p : Addr) (F : Nat → Prop) (c : Cfg) (l : Int) (L : List Int) (w : World) (h : DLA w p F c l L) :
    Calls Tryz.prog 18 #[.pointer (some p)] w fun e w' => ∃ (g cap : Nat), e = .returned (.slice (some ⟨g, 0, none⟩) L.length cap) ∧ Ord.Mid w' g 0 L ∧ w.heap.size ≤ g ∧ L.length ≤ cap ∧ cap ≤ maxLen ∧ Below w.heap.size w w' := by
  obtain ⟨i0, hi, hz0, hz1, hz2⟩ := info_parts Exa.i64_info
  obtain ⟨a, G, b, rfl, hb, ht, hn, rfl⟩ := h
  have c0 := grd_cell hb 0 (v := .pointer (some a)) rfl
  have c1 := grd_cell hb 1 (v := .pointer none) rfl
  obtain ⟨h1, h2, h3, ba, g, cap, rfl, hba, hm, h4, h5, h6, rfl⟩ := daI ht
  have e6 := grd_cell hba 6 (v := .slice (some ⟨g, 0, none⟩) L.length cap) rfl
  have hbl := size_of_heap hba
  have hbl2 := size_of_heap hb
  have HM := Lib.hid hm
  unfold maxLen at h5
  clear hb ht hn hba hm h1 h3
  go_enter Tryz.func18, Tryz.ntmps18
  go_wp2_with (at_builtin; go_must (refine app_any .i64 rfl _ _ 48 rfl w.heap.size 2 i0 8 Exa.i64s_u hi hz0 hz1 hz2 (.slice (some ⟨w.heap.size, 0, none⟩) 0 0) 0 [] rfl (own_empty w _ _ _ (Nat.le_refl _)) (fun h => by cases h) (some ⟨g, 0, none⟩) L.length cap L rfl (fun h => by cases h) rfl (HM.out.rd.up (by repeat' (first | (with_reducible exact Below.refl _ _) | (with_reducible assumption) | (with_reducible refine below_over ?_ _ _) | (with_reducible refine Lw.below_alloc ?_ _) | (with_reducible refine Below.drew ?_) | (with_reducible refine below_drewN ?_ _) | (with_reducible refine Below.setCell ?_ ?_ _) | go_size))) (by unfold maxLen; omega) (by omega) (by simp) ?_); intro A2 cap2 w6 hown2 hgrow2 rd2 hc2 hc3; have hb6 := app_below hgrow2 (Nat.le_refl _); rw [List.nil_append] at hown2; (try simp only [Nat.zero_add] at hown2 hc2); (try simp only [Nat.zero_add]); obtain ⟨g2, hA9, hg2, hm2⟩ := Ord.mid_own hown2; subst hA9; have HM2 := Lib.hid hm2; have H2 := Lib.hid (And.intro hc2 (And.intro hc3 hg2)); have HB6 := Lib.hid hb6; clear hown2 hgrow2 rd2 hc2 hc3 hb6 hg2 hm2)
  go_ret
  exact ⟨g2, cap2, rfl, HM2.out, H2.out.2.2, H2.out.1, H2.out.2.1, HB6.out⟩
set_option maxRecDepth 100000 in
set_option maxHeartbeats 4000000 in
theorem lcells_S (p : Addr) (F : Nat → Prop) (c : Cfg) (l : Int) (L : List (List Int)) (w : World) (h : DLS w p F c l L) :
    Calls Tryz.prog 18 #[.pointer (some p)] w fun e w' => ∃ (A : Addr) (cap : Nat), e = .returned (.slice (some A) (rws c * wds c) cap) ∧ Rd .i64 w' (some A) L.flatten ∧ rws c * wds c ≤ cap ∧ cap ≤ maxLen ∧ w.heap.size ≤ A.block ∧ Below w.heap.size w w' := by
  obtain ⟨a, G, b, rfl, hb, ht, hn, rfl⟩ := h
  have c0 := grd_cell hb 0 (v := .pointer none) rfl
  have c1 := grd_cell hb 1 (v := .pointer (some a)) rfl
  obtain ⟨hr, hok, hl0, hl1, bs, gp, G0, rfl, hbs, hg, hGb, rfl⟩ := dsI ht
  have e6 := grd_cell hbs 6 (v := .pointer (some gp)) rfl
  have C := Lib.hid (dcells_any gp G0 _ _ L w hg)
  clear hb ht hn hbs hg
  go_enter Tryz.func18, Tryz.ntmps18
  go_wp2_with (go_at_call 48; (with_reducible refine (C.out).mono ?_); rintro e w2 ⟨A, cap, rfl, h1, h2, h3, h4, hb9⟩; have H1 := Lib.hid h1; have H2 := Lib.hid (And.intro h2 (And.intro h3 h4)); have HB2 := Lib.hid hb9; clear h1 h2 h3 h4 hb9)
  go_ret
  exact ⟨A, cap, rfl, H1.out, H2.out.1, H2.out.2.1, H2.out.2.2, HB2.out⟩
end Go.Proofs.YtiblpdjehknbcaaGreat.Lev
