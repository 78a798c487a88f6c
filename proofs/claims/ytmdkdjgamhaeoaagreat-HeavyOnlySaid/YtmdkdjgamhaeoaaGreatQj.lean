/- Texts that statements lean on, put together: PcsCode, SkRef, SkDoc, SkDocC, LevDef, LevRef. -/
import Derived.Test.YtmdkdjgamhaeoaaGreatQa
import Derived.Test.YtmdkdjgamhaeoaaGreatQd
import Derived.Test.YtmdkdjgamhaeoaaGreatQe
import Derived.Test.YtmdkdjgamhaeoaaGreatQf
import Derived.Test.YtmdkdjgamhaeoaaGreatQg
import Derived.Test.YtmdkdjgamhaeoaaGreatQi
import Derived.WalkSpells
import Derived.Defers
import Derived.Deep.LoopGhost
import Derived.Deep.RegionHeld3
import Derived.Deep.DeepCutAuto
import Derived.Deep.QuietTactic
import Derived.BigQuiet
/- The walks of package pieces (the code's). Printed by wip/gen/pcscode.py. -/
namespace Go.Proofs.YtmdkdjgamhaeoaaGreat.Pcs
open Go Go.RowKit Lw
set_option linter.unusedVariables false
set_option linter.unusedSimpArgs false
theorem shlc {b : Int} (h0 : 0 ≤ b) (h1 : b ≤ 63) : IntKind.u64.wrap (2 ^ min b.toNat 64) = p2 b.toNat := by
  have e : min b.toNat 64 = b.toNat := by omega
  rw [e]
  have h2 : ((2 : Int) ^ b.toNat) = p2 b.toNat := by unfold p2; simp
  rw [h2]
  have h3 := p2_mono (show b.toNat ≤ 63 by omega)
  have h4 : p2 63 = 9223372036854775808 := rfl
  have h5 := p2_pos b.toNat
  exact u64_in (by omega) (by omega)
/-- How many pieces of a level there are. -/
def cntP (b L : Int) : Int := if 1 ≤ b ∧ b ≤ 59 ∧ 0 ≤ L ∧ L ≤ b then p2 (b - L).toNat else 0
theorem isP_cnt {b L i : Int} (h0 : 0 ≤ i) : isP b L i = decide (i < cntP b L) := by
  unfold isP cntP
  by_cases h : 1 ≤ b ∧ b ≤ 59 ∧ 0 ≤ L ∧ L ≤ b
  · rw [if_pos h]
    exact decide_eq_decide.2 ⟨fun g => g.2.2.2.2, fun g => ⟨h.1, h.2.1, h.2.2.1, h.2.2.2, g⟩⟩
  · rw [if_neg h]
    exact decide_eq_decide.2 ⟨fun g => absurd ⟨g.1, g.2.1, g.2.2.1, g.2.2.2.1⟩ h, fun g => by omega⟩
set_option maxRecDepth 100000 in
theorem count_n1 (b L : Int) (w : World) (hb0 : -9223372036854775808 ≤ b) (hb1 : b ≤ 9223372036854775807) (hL0 : -9223372036854775808 ≤ L) (hL1 : L ≤ 9223372036854775807)  (h1 : ¬ 1 ≤ b) :
    Calls Tryz.prog 84 #[.int .i64 b, .int .i64 L] w fun e w' => e = .returned (.int .u64 (0)) ∧ w' = w := by
  have d1 : decide (b < 1) = true := decide_eq_true (by omega)
  have f1 : b < 1 := by omega
  clear hb0 hb1 hL0 hL1 h1
  go_enter Tryz.func84, Tryz.ntmps84
  go_wp2
  go_ret
  exact ⟨rfl, rfl⟩
set_option maxRecDepth 100000 in
theorem count_n2 (b L : Int) (w : World) (hb0 : -9223372036854775808 ≤ b) (hb1 : b ≤ 9223372036854775807) (hL0 : -9223372036854775808 ≤ L) (hL1 : L ≤ 9223372036854775807) (h1 : 1 ≤ b) (h2 : ¬ b ≤ 59) :
    Calls Tryz.prog 84 #[.int .i64 b, .int .i64 L] w fun e w' => e = .returned (.int .u64 (0)) ∧ w' = w := by
  have d1 : decide (b < 1) = false := decide_eq_false (by omega)
  have f1 : ¬ b < 1 := by omega
  have d2 : decide (59 < b) = true := decide_eq_true (by omega)
  have f2 : 59 < b := by omega
  clear hb0 hb1 hL0 hL1 h1 h2
  go_enter Tryz.func84, Tryz.ntmps84
  go_wp2
  go_ret
  exact ⟨rfl, rfl⟩
set_option maxRecDepth 100000 in
theorem count_n3 (b L : Int) (w : World) (hb0 : -9223372036854775808 ≤ b) (hb1 : b ≤ 9223372036854775807) (hL0 : -9223372036854775808 ≤ L) (hL1 : L ≤ 9223372036854775807) (h1 : 1 ≤ b) (h2 : b ≤ 59) (h3 : ¬ 0 ≤ L) :
    Calls Tryz.prog 84 #[.int .i64 b, .int .i64 L] w fun e w' => e = .returned (.int .u64 (0)) ∧ w' = w := by
  have d1 : decide (b < 1) = false := decide_eq_false (by omega)
  have f1 : ¬ b < 1 := by omega
  have d2 : decide (59 < b) = false := decide_eq_false (by omega)
  have f2 : ¬ 59 < b := by omega
  have d3 : decide (L < 0) = true := decide_eq_true (by omega)
  have f3 : L < 0 := by omega
  clear hb0 hb1 hL0 hL1 h1 h2 h3
  go_enter Tryz.func84, Tryz.ntmps84
  go_wp2
  go_ret
  exact ⟨rfl, rfl⟩
set_option maxRecDepth 100000 in
theorem count_n4 (b L : Int) (w : World) (hb0 : -9223372036854775808 ≤ b) (hb1 : b ≤ 9223372036854775807) (hL0 : -9223372036854775808 ≤ L) (hL1 : L ≤ 9223372036854775807) (h1 : 1 ≤ b) (h2 : b ≤ 59) (h3 : 0 ≤ L) (h4 : ¬ L ≤ b) :
    Calls Tryz.prog 84 #[.int .i64 b, .int .i64 L] w fun e w' => e = .returned (.int .u64 (0)) ∧ w' = w := by
  have d1 : decide (b < 1) = false := decide_eq_false (by omega)
  have f1 : ¬ b < 1 := by omega
  have d2 : decide (59 < b) = false := decide_eq_false (by omega)
  have f2 : ¬ 59 < b := by omega
  have d3 : decide (L < 0) = false := decide_eq_false (by omega)
  have f3 : ¬ L < 0 := by omega
  have d4 : decide (b < L) = true := decide_eq_true (by omega)
  have f4 : b < L := by omega
  clear hb0 hb1 hL0 hL1 h1 h2 h3 h4
  go_enter Tryz.func84, Tryz.ntmps84
  go_wp2
  go_ret
  exact ⟨rfl, rfl⟩
set_option maxRecDepth 100000 in
theorem count_y (b L : Int) (w : World) (hb0 : -9223372036854775808 ≤ b) (hb1 : b ≤ 9223372036854775807) (hL0 : -9223372036854775808 ≤ L) (hL1 : L ≤ 9223372036854775807) (h1 : 1 ≤ b) (h2 : b ≤ 59) (h3 : 0 ≤ L) (h4 : L ≤ b) :
    Calls Tryz.prog 84 #[.int .i64 b, .int .i64 L] w fun e w' => e = .returned (.int .u64 (p2 (b - L).toNat)) ∧ w' = w := by
  have d1 : decide (b < 1) = false := decide_eq_false (by omega)
  have f1 : ¬ b < 1 := by omega
  have d2 : decide (59 < b) = false := decide_eq_false (by omega)
  have f2 : ¬ 59 < b := by omega
  have d3 : decide (L < 0) = false := decide_eq_false (by omega)
  have f3 : ¬ L < 0 := by omega
  have d4 : decide (b < L) = false := decide_eq_false (by omega)
  have f4 : ¬ b < L := by omega
  have q0 : ¬ b - L < 0 := by omega
  have q1 : wrap64 (b - L) = b - L := IntWalk.wrap64_in _ ⟨by omega, by omega⟩
  have q2 : IntKind.i64.wrap (b - L) = b - L := IntWalk.i64_in _ ⟨by omega, by omega⟩
  have q3 := shlc (b := b - L) (by omega) (by omega)
  obtain ⟨X, hX⟩ : ∃ X, p2 (b - L).toNat = X := ⟨_, rfl⟩
  rw [hX] at q3 ⊢
  clear hX
  obtain ⟨D, hD⟩ : ∃ D, b - L = D := ⟨_, rfl⟩
  rw [hD] at q0 q1 q2 q3
  have q4 : wrap64 (b - L) = D := by rw [hD]; exact q1
  have q5 : IntKind.i64.wrap (b - L) = D := by rw [hD]; exact q2
  clear hD
  clear hb0 hb1 hL0 hL1 h1 h2 h3 h4
  go_enter Tryz.func84, Tryz.ntmps84
  go_wp2
  go_ret
  exact ⟨rfl, rfl⟩
theorem count_any (b L : Int) (w : World) (hb0 : -9223372036854775808 ≤ b) (hb1 : b ≤ 9223372036854775807) (hL0 : -9223372036854775808 ≤ L) (hL1 : L ≤ 9223372036854775807) :
    Calls Tryz.prog 84 #[.int .i64 b, .int .i64 L] w fun e w' => e = .returned (.int .u64 (cntP b L)) ∧ w' = w := by
  unfold cntP
  by_cases h1 : 1 ≤ b
  · by_cases h2 : b ≤ 59
    · by_cases h3 : 0 ≤ L
      · by_cases h4 : L ≤ b
        · rw [if_pos ⟨h1, h2, h3, h4⟩]; exact count_y b L w hb0 hb1 hL0 hL1 h1 h2 h3 h4
        · rw [if_neg (fun h => h4 h.2.2.2)]; exact count_n4 b L w hb0 hb1 hL0 hL1 h1 h2 h3 h4
      · rw [if_neg (fun h => h3 h.2.2.1)]; exact count_n3 b L w hb0 hb1 hL0 hL1 h1 h2 h3
    · rw [if_neg (fun h => h2 h.2.1)]; exact count_n2 b L w hb0 hb1 hL0 hL1 h1 h2
  · rw [if_neg (fun h => h1 h.1)]; exact count_n1 b L w hb0 hb1 hL0 hL1 h1
set_option maxRecDepth 100000 in
set_option maxHeartbeats 4000000 in
theorem chalves_0 (b i : Int) (w : World) :
    Calls Tryz.prog 69 #[.int .i64 b, .agg #[.int .i64 0, .int .u64 i]] w fun e w' => e = .returned (.tuple #[.agg #[.int .i64 0, .int .u64 0], .agg #[.int .i64 0, .int .u64 0], .bool false]) ∧ Below w.heap.size w w' := by
  go_enter Tryz.func69, Tryz.ntmps69
  go_upto_region 1 with fail
  refine wp_region_held_drew (S := (fun w' => w'.cell? ⟨w.heap.size, 0, none⟩ = some (.int .i64 0) ∧ w'.cell? ⟨w.heap.size, 1, none⟩ = some (.int .u64 i))) (by kernel_rfl) (by simp [go_sem]) (fun hHeld => ?_)
  refine wpAnyH_take (i := 0) (v := ?_) rfl (by kernel_rfl) (by kernel_rfl) (by kernel_rfl) (fun _ _ _ h => h) (Or.inl ⟨by rfl, ?_⟩) hHeld ?_
  rotate_left
  · intro w hSw
    (try dsimp only at hSw)
    go_simp
    (try with_reducible rfl)
  (try simp only [List.getElem_toArray, List.getElem_cons_zero, List.getElem_cons_succ, Act.put, List.setIfInBounds_toArray, List.set_cons_zero, List.set_cons_succ])
  refine wpAnyH_take (i := 1) (v := ?_) rfl (by kernel_rfl) (by kernel_rfl) (by kernel_rfl) (fun _ _ _ h => h) (Or.inl ⟨by rfl, ?_⟩) hHeld ?_
  rotate_left
  · intro w hSw
    (try dsimp only at hSw)
    go_simp
    (try with_reducible rfl)
  (try simp only [List.getElem_toArray, List.getElem_cons_zero, List.getElem_cons_succ, Act.put, List.setIfInBounds_toArray, List.set_cons_zero, List.set_cons_succ])
  refine wpAnyH_take (i := 2) (v := ?_) rfl (by kernel_rfl) (by kernel_rfl) (by kernel_rfl) (fun _ _ _ h => h) (Or.inl ⟨by rfl, ?_⟩) hHeld ?_
  rotate_left
  · intro w hSw
    (try dsimp only at hSw)
    go_simp
    (try with_reducible rfl)
  (try simp only [List.getElem_toArray, List.getElem_cons_zero, List.getElem_cons_succ, Act.put, List.setIfInBounds_toArray, List.set_cons_zero, List.set_cons_succ])
  refine wpAnyH_take (i := 3) (v := ?_) rfl (by kernel_rfl) (by kernel_rfl) (by kernel_rfl) (fun _ _ _ h => h) (Or.inl ⟨by rfl, ?_⟩) hHeld ?_
  rotate_left
  · intro w hSw
    (try dsimp only at hSw)
    go_simp
    (try with_reducible rfl)
  (try simp only [List.getElem_toArray, List.getElem_cons_zero, List.getElem_cons_succ, Act.put, List.setIfInBounds_toArray, List.set_cons_zero, List.set_cons_succ])
  refine wpAnyH_take (i := 4) (v := undef) rfl (by kernel_rfl) (by kernel_rfl) (by kernel_rfl) (fun _ _ _ h => h) (Or.inr ⟨by rfl, rfl⟩) hHeld ?_
  (try simp only [List.getElem_toArray, List.getElem_cons_zero, List.getElem_cons_succ, Act.put, List.setIfInBounds_toArray, List.set_cons_zero, List.set_cons_succ])
  refine wpAnyH_take (i := 5) (v := undef) rfl (by kernel_rfl) (by kernel_rfl) (by kernel_rfl) (fun _ _ _ h => h) (Or.inr ⟨by rfl, rfl⟩) hHeld ?_
  (try simp only [List.getElem_toArray, List.getElem_cons_zero, List.getElem_cons_succ, Act.put, List.setIfInBounds_toArray, List.set_cons_zero, List.set_cons_succ])
  refine wpAnyH_take (i := 6) (v := undef) rfl (by kernel_rfl) (by kernel_rfl) (by kernel_rfl) (fun _ _ _ h => h) (Or.inr ⟨by rfl, rfl⟩) hHeld ?_
  (try simp only [List.getElem_toArray, List.getElem_cons_zero, List.getElem_cons_succ, Act.put, List.setIfInBounds_toArray, List.set_cons_zero, List.set_cons_succ])
  refine wpAnyH_take (i := 7) (v := undef) rfl (by kernel_rfl) (by kernel_rfl) (by kernel_rfl) (fun _ _ _ h => h) (Or.inr ⟨by rfl, rfl⟩) hHeld ?_
  (try simp only [List.getElem_toArray, List.getElem_cons_zero, List.getElem_cons_succ, Act.put, List.setIfInBounds_toArray, List.set_cons_zero, List.set_cons_succ])
  refine wpAnyH_take (i := 8) (v := undef) rfl (by kernel_rfl) (by kernel_rfl) (by kernel_rfl) (fun _ _ _ h => h) (Or.inr ⟨by rfl, rfl⟩) hHeld ?_
  (try simp only [List.getElem_toArray, List.getElem_cons_zero, List.getElem_cons_succ, Act.put, List.setIfInBounds_toArray, List.set_cons_zero, List.set_cons_succ])
  refine wpAnyH_ready (rs := [9]) (by kernel_rfl) (by simp) ?_
  refine AllReadyH.cons rfl (fun K hK => ?_) AllReadyH.nil
  go_simp
  refine hK.out _ _ (by simp [go_sem]) (fun hHeld => ?_)
  clear hK K
  (try simp only [List.getElem_toArray, List.getElem_cons_zero, List.getElem_cons_succ, Act.put, List.setIfInBounds_toArray, List.set_cons_zero, List.set_cons_succ])
  refine wpAnyH_take (i := 10) (v := undef) rfl (by kernel_rfl) (by kernel_rfl) (by kernel_rfl) (fun _ _ _ h => h) (Or.inr ⟨by rfl, rfl⟩) hHeld ?_
  (try simp only [List.getElem_toArray, List.getElem_cons_zero, List.getElem_cons_succ, Act.put, List.setIfInBounds_toArray, List.set_cons_zero, List.set_cons_succ])
  refine wpAnyH_take (i := 11) (v := ?_) rfl (by kernel_rfl) (by kernel_rfl) (by kernel_rfl) (fun _ _ _ h => h) (Or.inl ⟨by rfl, ?_⟩) hHeld ?_
  rotate_left
  · intro w hSw
    (try dsimp only at hSw)
    go_simp
    (try with_reducible rfl)
  (try simp only [List.getElem_toArray, List.getElem_cons_zero, List.getElem_cons_succ, Act.put, List.setIfInBounds_toArray, List.set_cons_zero, List.set_cons_succ])
  refine wpAnyH_done (by kernel_rfl) ?_ _
  go_wp2
  all_goals refine bodyPost_ret (v := .tuple #[.agg #[.int .i64 0, .int .u64 0], .agg #[.int .i64 0, .int .u64 0], .bool false]) (by simp [results, Tryz.results69, go_sem, *]) rfl ?_
  all_goals exact ⟨rfl, (by repeat' (first | (with_reducible exact Below.refl _ _) | (with_reducible assumption) | (with_reducible refine below_over ?_ _ _) | (with_reducible refine Lw.below_alloc ?_ _) | (with_reducible refine Below.drew ?_) | (with_reducible refine below_drewN ?_ _) | (with_reducible refine Below.setCell ?_ ?_ _) | go_size))⟩
set_option maxRecDepth 100000 in
set_option maxHeartbeats 4000000 in
theorem chalves_n (b L i : Int) (w : World) (hb0 : -9223372036854775808 ≤ b) (hb1 : b ≤ 9223372036854775807) (hL0 : -9223372036854775808 ≤ L) (hL1 : L ≤ 9223372036854775807) (hi0 : 0 ≤ i) (hi1 : i ≤ 18446744073709551615) (hP : isP b L i = false) (hL : ¬ L = 0) :
    Calls Tryz.prog 69 #[.int .i64 b, .agg #[.int .i64 L, .int .u64 i]] w fun e w' => e = .returned (.tuple #[.agg #[.int .i64 0, .int .u64 0], .agg #[.int .i64 0, .int .u64 0], .bool false]) ∧ Below w.heap.size w w' := by
  have CC := Lib.hid (fun w => count_any b L w hb0 hb1 hL0 hL1)
  obtain ⟨X, hX⟩ : ∃ X, cntP b L = X := ⟨_, rfl⟩
  rw [isP_cnt hi0] at hP
  rw [hX] at CC hP
  have hP := of_decide_eq_false hP
  have d1 : decide (X ≤ i) = true := decide_eq_true (by omega)
  have f1 : X ≤ i := by omega
  have f2 : ¬ i < X := hP
  have l1 : (L == 0) = false := by simpa using hL
  clear hb0 hb1 hL0 hL1 hi0 hi1 hX hP
  go_enter Tryz.func69, Tryz.ntmps69
  go_upto_region 1 with fail
  go_quiet (first | (go_at_call 84; with_reducible refine Calls.quiet_of_same (CC.out _)))
  all_goals go_wp2
  all_goals refine bodyPost_ret (v := .tuple #[.agg #[.int .i64 0, .int .u64 0], .agg #[.int .i64 0, .int .u64 0], .bool false]) (by simp [results, Tryz.results69, go_sem, *]) rfl ?_
  all_goals exact ⟨rfl, (by repeat' (first | (with_reducible exact Below.refl _ _) | (with_reducible assumption) | (with_reducible refine below_over ?_ _ _) | (with_reducible refine Lw.below_alloc ?_ _) | (with_reducible refine Below.drew ?_) | (with_reducible refine below_drewN ?_ _) | (with_reducible refine Below.setCell ?_ ?_ _) | go_size))⟩
set_option maxRecDepth 100000 in
set_option maxHeartbeats 4000000 in
theorem chalves_y (b L i : Int) (w : World) (hb0 : -9223372036854775808 ≤ b) (hb1 : b ≤ 9223372036854775807) (hL0 : -9223372036854775808 ≤ L) (hL1 : L ≤ 9223372036854775807) (hi0 : 0 ≤ i) (hi1 : i ≤ 18446744073709551615) (hP : isP b L i = true) (hL : ¬ L = 0) :
    Calls Tryz.prog 69 #[.int .i64 b, .agg #[.int .i64 L, .int .u64 i]] w fun e w' => e = .returned (.tuple #[.agg #[.int .i64 (L - 1), .int .u64 (2 * i)], .agg #[.int .i64 (L - 1), .int .u64 (2 * i + 1)], .bool true]) ∧ Below w.heap.size w w' := by
  have CC := Lib.hid (fun w => count_any b L w hb0 hb1 hL0 hL1)
  obtain ⟨h1, h2, h3, h4, h5, h6, h7⟩ := isP_bd hP hi0
  have hq := p2_bd (show (b - L).toNat ≤ 60 by omega)
  have w1 : wrap64 (L - 1) = L - 1 := IntWalk.wrap64_in _ ⟨by omega, by omega⟩
  have w2 : IntKind.i64.wrap (L - 1) = L - 1 := IntWalk.i64_in _ ⟨by omega, by omega⟩
  have w3 : IntKind.u64.wrap (2 * i) = 2 * i := u64_in (by omega) (by omega)
  have w4 : IntKind.u64.wrap (2 * i + 1) = 2 * i + 1 := u64_in (by omega) (by omega)
  obtain ⟨X, hX⟩ : ∃ X, cntP b L = X := ⟨_, rfl⟩
  rw [isP_cnt hi0] at hP
  rw [hX] at CC hP
  have hP := of_decide_eq_true hP
  have d1 : decide (X ≤ i) = false := decide_eq_false (by omega)
  have f1 : ¬ X ≤ i := by omega
  have f2 : i < X := hP
  have l1 : (L == 0) = false := by simpa using hL
  clear hb0 hb1 hL0 hL1 hi0 hi1 hX hP h1 h2 h3 h4 h5 h6 h7 hq
  go_enter Tryz.func69, Tryz.ntmps69
  go_upto_region 1 with fail
  go_quiet (first | (go_at_call 84; with_reducible refine Calls.quiet_of_same (CC.out _)))
  all_goals go_upto_region 5 with fail
  all_goals go_region
  all_goals go_wp2
  all_goals refine bodyPost_ret (v := .tuple #[.agg #[.int .i64 (L - 1), .int .u64 (2 * i)], .agg #[.int .i64 (L - 1), .int .u64 (2 * i + 1)], .bool true]) (by simp [results, Tryz.results69, go_sem, *]) rfl ?_
  all_goals exact ⟨rfl, (by repeat' (first | (with_reducible exact Below.refl _ _) | (with_reducible assumption) | (with_reducible refine below_over ?_ _ _) | (with_reducible refine Lw.below_alloc ?_ _) | (with_reducible refine Below.drew ?_) | (with_reducible refine below_drewN ?_ _) | (with_reducible refine Below.setCell ?_ ?_ _) | go_size))⟩
theorem chalves_any (b L i : Int) (w : World) (hb0 : -9223372036854775808 ≤ b) (hb1 : b ≤ 9223372036854775807) (hL0 : -9223372036854775808 ≤ L) (hL1 : L ≤ 9223372036854775807) (hi0 : 0 ≤ i) (hi1 : i ≤ 18446744073709551615) :
    Calls Tryz.prog 69 #[.int .i64 b, .agg #[.int .i64 L, .int .u64 i]] w fun e w' => e = .returned (.tuple #[.agg #[.int .i64 (haL b L i), .int .u64 (haX b L i)], .agg #[.int .i64 (haL b L i), .int .u64 (haY b L i)], .bool (haB b L i)]) ∧ Below w.heap.size w w' := by
  unfold haL haX haY haB
  by_cases hL : L = 0
  · subst hL
    have e : (isP b 0 i && decide ((0 : Int) < 0)) = false := by simp
    rw [e, if_neg (by simp), if_neg (by simp), if_neg (by simp)]
    exact chalves_0 b i w
  · cases h : isP b L i with
    | false =>
      have e : (false && decide ((0 : Int) < L)) = false := rfl
      rw [e, if_neg (by simp), if_neg (by simp), if_neg (by simp)]
      exact chalves_n b L i w hb0 hb1 hL0 hL1 hi0 hi1 h hL
    | true =>
      obtain ⟨h1, h2, h3, h4, h5, h6, h7⟩ := isP_bd h hi0
      have e : (true && decide ((0 : Int) < L)) = true := by simp; omega
      rw [e, if_pos rfl, if_pos rfl, if_pos rfl]
      exact chalves_y b L i w hb0 hb1 hL0 hL1 hi0 hi1 h hL
theorem flatP_app (us vs : List (Int × Int)) : flatP (us ++ vs) = flatP us ++ flatP vs := List.flatMap_append
/-- What cut holds: the row of the left pieces in a cell, and a block for each right piece, the last one first. -/
structure CutI (w0 w : World) (N : Nat) (xs : List (Nat × Nat)) (rs : List (Nat × Nat × Nat)) (v : Value) : Prop where
  cell : w.heap[w0.heap.size]? = some (.cells #[v] 99 (0, 0))
  own : w.ownsRow w0.heap.size 69 2 v xs.length (flatP (ints xs))
  ne : ∀ k, v.ownBlock = some k → k ≠ w0.heap.size ∧ ∀ r ∈ rs, k ≠ r.1
  bx : ∀ r ∈ rs, w.heap[r.1]? = some (.cells #[.int .i64 (r.2.1 : Int), .int .u64 (r.2.2 : Int)] 69 (0, 0)) ∧ r.1 ≠ w0.heap.size ∧ w0.heap.size ≤ r.1
  below : Below w0.heap.size w0 w
  len : xs.length + rs.length ≤ N
theorem hp_lt {w : World} {b : Nat} {o : Obj} (h : w.heap[b]? = some o) : b < w.heap.size := by
  rcases Nat.lt_or_ge b w.heap.size with h1 | h1
  · exact h1
  · rw [Array.getElem?_eq_none h1] at h; cases h
theorem CutI.cl {w0 w : World} {N : Nat} {xs : List (Nat × Nat)} {rs : List (Nat × Nat × Nat)} {v : Value} (h : CutI w0 w N xs rs v) : w.cell? ⟨w0.heap.size, 0, none⟩ = some v ∧ w.frozen? ⟨w0.heap.size, 0, none⟩ = false ∧ w0.heap.size < w.heap.size := by
  have h1 := h.cell
  exact ⟨box_cell h1 rfl, by simp [World.frozen?, h1], hp_lt h1⟩
theorem ints_one (k a : Nat) : ints [(k, a)] = [((k : Int), (a : Int))] := rfl
/-- A piece put behind the row. -/
theorem CutI.app {w0 w w1 w2 : World} {N : Nat} {xs : List (Nat × Nat)} {rs : List (Nat × Nat × Nat)} {v v' : Value} {k a : Nat} (h : CutI w0 w N xs rs v) (hb : Below w.heap.size w w1) (hlt : w.heap.size < w1.heap.size)
    (ho : w2.ownsRow w0.heap.size 69 2 v' (xs.length + 1) (flatP (ints xs) ++ [.int .i64 (k : Int), .int .u64 (a : Int)])) (hg : w1.grownBy w2 v.ownBlock) (hv' : ∀ k, v'.ownBlock = some k → v.ownBlock = some k ∨ w1.heap.size ≤ k) :
    CutI w0 (w2.setCell ⟨w0.heap.size, 0, none⟩ v') (N + 1) (xs ++ [(k, a)]) rs v' := by
  have hl := h.cl.2.2
  have hnv : ∀ b, b < w.heap.size → (∀ k, v.ownBlock = some k → k ≠ b) → w2.heap[b]? = w.heap[b]? := fun b hlb hb1 => by
    rw [hg.block b (by have := hb.4; omega) (fun e => hb1 b e.symm rfl)]
    exact hb.5 b hlb
  have hs : ∀ b, b ≠ w0.heap.size → (w2.setCell ⟨w0.heap.size, 0, none⟩ v').heap[b]? = w2.heap[b]? := fun b hb1 => by
    simp only [World.setCell, Array.getElem?_modify]
    rw [if_neg (fun e => hb1 e.symm)]
  have hc2 : w2.heap[w0.heap.size]? = some (.cells #[v] 99 (0, 0)) := by
    rw [hnv _ hl (fun k hk => (h.ne k hk).1)]
    exact h.cell
  have hn' : ∀ k, v'.ownBlock = some k → k ≠ w0.heap.size ∧ ∀ r ∈ rs, k ≠ r.1 := fun k hk => by
    rcases hv' k hk with g | g
    · exact h.ne k g
    · have h4 := hb.4
      exact ⟨by omega, fun r hr => by have := hp_lt (h.bx r hr).1; omega⟩
  refine ⟨?_, ?_, hn', ?_, ?_, ?_⟩
  · simp [World.setCell, Array.getElem?_modify, hc2]
  · rw [List.length_append, ints_app, flatP_app, ints_one]
    refine ⟨ho.1, ?_⟩
    rcases ho.2 with g | ⟨g, cap, cur, e1, e2, e3, e4⟩
    · exact .inl g
    · refine .inr ⟨g, cap, cur, e1, e2, ?_, e4⟩
      rw [hs g (hn' g (by rw [e1]; rfl)).1]
      exact e3
  · intro r hr
    obtain ⟨g1, g2, g3⟩ := h.bx r hr
    refine ⟨?_, g2, g3⟩
    rw [hs _ g2, hnv _ (hp_lt g1) (fun k hk => (h.ne k hk).2 r hr)]
    exact g1
  · have hbl := h.below
    have h1 : Below w0.heap.size w0 w1 := hbl.trans (hb.mono hbl.4)
    have h2 : Kept (fun _ => False) w0 w2 := (Kept.of_below (F := fun _ => False) h1).grown hg (fun q hq => .inr (by rcases h.own.lt q hq with ⟨g, _⟩; exact g))
    exact (h2.set (.inr (Nat.le_refl _)) 0 v').below
  · rw [List.length_append]
    have := h.len
    simp
    omega
theorem CutI.st {w0 w w1 w2 : World} {N : Nat} {xs : List (Nat × Nat)} {rs : List (Nat × Nat × Nat)} {v : Value} (h : CutI w0 w N xs rs v) (hb : Below w.heap.size w w1) (hg : w1.grownBy w2 v.ownBlock) : w2.cell? ⟨w0.heap.size, 0, none⟩ = some v ∧ w2.frozen? ⟨w0.heap.size, 0, none⟩ = false := by
  have hl := h.cl.2.2
  have h1 : w2.heap[w0.heap.size]? = some (.cells #[v] 99 (0, 0)) := by
    rw [hg.block _ (by have := hb.4; omega) (fun e => (h.ne _ e.symm).1 rfl), hb.5 _ hl]
    exact h.cell
  exact ⟨box_cell h1 rfl, by simp [World.frozen?, h1]⟩
theorem CutI.same {w0 w : World} {N : Nat} {xs : List (Nat × Nat)} {rs : List (Nat × Nat × Nat)} {v : Value} (h : CutI w0 w N xs rs v) : w.setCell ⟨w0.heap.size, 0, none⟩ v = w := by
  have h1 := h.cell
  have h2 : (w.setCell ⟨w0.heap.size, 0, none⟩ v).heap = w.heap := by
    apply Array.ext_getElem?
    intro i
    simp only [World.setCell, Array.getElem?_modify]
    by_cases hi : w0.heap.size = i
    · subst hi
      rw [if_pos rfl, h1]
      rfl
    · rw [if_neg hi]
  have h3 : w.setCell ⟨w0.heap.size, 0, none⟩ v = { w with heap := (w.setCell ⟨w0.heap.size, 0, none⟩ v).heap } := rfl
  rw [h3, h2]
theorem CutI.mono {w0 w : World} {N M : Nat} {xs : List (Nat × Nat)} {rs : List (Nat × Nat × Nat)} {v : Value} (h : CutI w0 w N xs rs v) (hN : N ≤ M) : CutI w0 w M xs rs v :=
  ⟨h.cell, h.own, h.ne, h.bx, h.below, Nat.le_trans h.len hN⟩
/-- A block for one more right piece. -/
theorem own2_up' {w w' : World} {base : Nat} {e : TypeId} {size : Nat} {v : Value} {n : Nat} {xs : List Value} (h : w.ownsRow base e size v n xs) (hb : Below w.heap.size w w') : w'.ownsRow base e size v n xs :=
  (Kept.of_below (F := fun _ => False) hb).own h (fun _ _ h => h)
theorem CutI.right {w0 w w1 : World} {N : Nat} {xs : List (Nat × Nat)} {rs : List (Nat × Nat × Nat)} {v : Value} {k a g : Nat} (h : CutI w0 w N xs rs v) (hb : Below w.heap.size w w1) (hg : w.heap.size ≤ g) (hc : w1.heap[g]? = some (.cells #[.int .i64 (k : Int), .int .u64 (a : Int)] 69 (0, 0))) :
    CutI w0 w1 (N + 1) xs ((g, k, a) :: rs) v := by
  have hl := h.cl.2.2
  have hk : ∀ b, b < w.heap.size → w1.heap[b]? = w.heap[b]? := hb.5
  refine ⟨?_, own2_up' h.own hb, fun q hq => ?_, fun r hr => ?_, h.below.trans (hb.mono h.below.4), ?_⟩
  · rw [hk _ hl]
    exact h.cell
  · refine ⟨(h.ne q hq).1, fun r hr => ?_⟩
    rcases List.mem_cons.1 hr with rfl | hr
    · have := (h.own.lt q hq).2
      show q ≠ g
      omega
    · exact (h.ne q hq).2 r hr
  · rcases List.mem_cons.1 hr with rfl | hr
    · exact ⟨hc, by show g ≠ _; omega, by show _ ≤ g; omega⟩
    · obtain ⟨g1, g2, g3⟩ := h.bx r hr
      exact ⟨by rw [hk _ (hp_lt g1)]; exact g1, g2, g3⟩
  · have := h.len
    simp
    omega
theorem CutI.two {w0 w : World} {N : Nat} {xs : List (Nat × Nat)} {rs : List (Nat × Nat × Nat)} {v : Value} {g k a : Nat} (h : CutI w0 w N xs ((g, k, a) :: rs) v) : w.cell? ⟨g, 0, none⟩ = some (.int .i64 (k : Int)) ∧ w.cell? ⟨g, 1, none⟩ = some (.int .u64 (a : Int)) := by
  have h1 := (h.bx (g, k, a) (List.mem_cons_self ..)).1
  exact ⟨box_cell h1 rfl, box_cell h1 rfl⟩
/-- What the loop of cut keeps. -/
def CutL (w0 : World) (B E S : Nat) (j e L : Nat) (xs : List (Nat × Nat)) (rs : List (Nat × Nat × Nat)) (v : Value) (w : World) : Prop :=
  CutI w0 w (2 * L) xs rs v ∧ (j ≤ e ∧ L ≤ B + 1) ∧ e * 2 ^ L ≤ 2 ^ B ∧ ∀ m, Cov B (e * 2 ^ L) (j * 2 ^ L) m → Cov B E S (xs ++ m ++ rs.map (·.2))
theorem half_pow {a L : Nat} (h : a % 2 = 0) : a / 2 * 2 ^ (L + 1) = a * 2 ^ L := by
  rw [Nat.pow_succ, Nat.mul_comm (2 ^ L), ← Nat.mul_assoc, Nat.div_mul_cancel (Nat.dvd_of_mod_eq_zero h)]
/-- One level up: both even. -/
theorem CutL.up {w0 w : World} {B E S j e L : Nat} {xs : List (Nat × Nat)} {rs : List (Nat × Nat × Nat)} {v : Value} (hL : L ≤ B) (h : CutI w0 w (2 * (L + 1)) xs rs v) (hj : j ≤ e) (hj2 : j % 2 = 0) (he2 : e % 2 = 0) (hb : e * 2 ^ L ≤ 2 ^ B) (hc : ∀ m, Cov B (e * 2 ^ L) (j * 2 ^ L) m → Cov B E S (xs ++ m ++ rs.map (·.2))) :
    CutL w0 B E S (j / 2) (e / 2) (L + 1) xs rs v w :=
  ⟨h, ⟨by omega, by omega⟩, by rw [half_pow he2]; exact hb, fun m hm => hc m (by rw [half_pow he2, half_pow hj2] at hm; exact hm)⟩
end Go.Proofs.YtmdkdjgamhaeoaaGreat.Pcs
/- The document's sketch: a block of its config, its level and its grid; New, Update. Printed by wip/gen/skref.py. -/
namespace Go.Proofs.YtmdkdjgamhaeoaaGreat.Sk
open Go Go.RowKit Lw Grd Lin Con Shp
set_option linter.unusedVariables false
set_option linter.unusedSimpArgs false
/-- A sketch of the document at p, in the blocks F. -/
def DS (w : World) (p : Addr) (F : Nat → Prop) (c : Cfg) (l : Int) (L : List (List Int)) : Prop :=
  IsRight c ∧ c.Ok ∧ 0 ≤ l ∧ l ≤ c.bt ∧ ∃ (b : Nat) (gp : Addr) (G : Nat → Prop), p = ⟨b, 0, none⟩ ∧ w.heap[b]? = some (.cells #[.int .i64 c.bt, .int .i64 c.rw, .int .i64 c.wd, .int .i64 c.md, .int .u64 c.sd, .int .i64 l, .pointer (some gp)] 121 (0, 0)) ∧ DG w gp G (rws c) (wds c) L ∧ ¬ G b ∧ F = (fun k => k = b ∨ G k)
theorem DS.keep {w' : World} {H : Nat → Prop} {w : World} {p : Addr} {F : Nat → Prop} {c : Cfg} {l : Int} {L : List (List Int)} (h : DS w p F c l L) (hk : Kept H w w') (hf : ∀ k, F k → ¬ H k) : DS w' p F c l L := by
  obtain ⟨hr, hok, hl0, hl1, b, gp, G, rfl, hb, hg, hGb, rfl⟩ := h
  exact ⟨hr, hok, hl0, hl1, b, gp, G, rfl, hk.heap hb (hf b (.inl rfl)), (dgT gp G _ _ L).keep w w' H hg hk (fun k h => hf k (.inr h)), hGb, rfl⟩
theorem DS.up {w' : World} {w : World} {p : Addr} {F : Nat → Prop} {c : Cfg} {l : Int} {L : List (List Int)} (h : DS w p F c l L) (hk : Below w.heap.size w w') : DS w' p F c l L := h.keep (Kept.of_below (F := fun _ => False) hk) (fun _ _ h => h)
theorem DS.lt {w : World} {p : Addr} {F : Nat → Prop} {c : Cfg} {l : Int} {L : List (List Int)} (h : DS w p F c l L) (k : Nat) (hk : F k) : k < w.heap.size := by
  obtain ⟨hr, hok, hl0, hl1, b, gp, G, rfl, hb, hg, hGb, rfl⟩ := h
  rcases hk with rfl | hk
  · exact size_of_heap hb
  · exact (dgT gp G _ _ L).lt w hg k hk
def dsT (p : Addr) (F : Nat → Prop) (c : Cfg) (l : Int) (L : List (List Int)) : Thing where
  I := fun w => DS w p F c l L
  F := F
  keep := fun w w' H h hk hf => h.keep hk hf
  lt := fun w h k hk => h.lt k hk
end Go.Proofs.YtmdkdjgamhaeoaaGreat.Sk
/- The document's sketch: Point, Join. Printed by wip/gen/skdoc.py. -/
namespace Go.Proofs.YtmdkdjgamhaeoaaGreat.Sk
open Go Go.RowKit Lw Grd Lin Con Shp
set_option linter.unusedVariables false
set_option linter.unusedSimpArgs false
end Go.Proofs.YtmdkdjgamhaeoaaGreat.Sk
/- The document's sketch: Copy. Printed by wip/gen/skdocc.py. -/
namespace Go.Proofs.YtmdkdjgamhaeoaaGreat.Sk
open Go Go.RowKit Lw Grd Lin Con Shp
set_option linter.unusedVariables false
set_option linter.unusedSimpArgs false
end Go.Proofs.YtmdkdjgamhaeoaaGreat.Sk
/- The document's level as a thing: a block of two pointers, of which one leads to an array or a sketch. Printed by wip/gen/levref.py. -/
namespace Go.Proofs.YtmdkdjgamhaeoaaGreat.Lev
open Go Go.RowKit Lw Grd Lin Con Shp Sk Exa
set_option linter.unusedVariables false
set_option linter.unusedSimpArgs false
/-- A level of the document at p: its two pointers, and the thing that one of them leads to. -/
def DL (v0 v1 : Value) (t : Thing) (w : World) (p : Addr) (F : Nat → Prop) : Prop := ∃ b : Nat, p = ⟨b, 0, none⟩ ∧ w.heap[b]? = some (.cells #[v0, v1] 116 (0, 0)) ∧ t.I w ∧ ¬ t.F b ∧ F = (fun k => k = b ∨ t.F k)
theorem DL.keep {v0 v1 : Value} {t : Thing} {w w' : World} {p : Addr} {F H : Nat → Prop} (h : DL v0 v1 t w p F) (hk : Kept H w w') (hf : ∀ k, F k → ¬ H k) : DL v0 v1 t w' p F := by
  obtain ⟨b, rfl, hb, ht, hn, rfl⟩ := h
  exact ⟨b, rfl, hk.heap hb (hf b (.inl rfl)), t.keep w w' H ht hk (fun k h => hf k (.inr h)), hn, rfl⟩
theorem DL.up {v0 v1 : Value} {t : Thing} {w w' : World} {p : Addr} {F : Nat → Prop} (h : DL v0 v1 t w p F) (hk : Below w.heap.size w w') : DL v0 v1 t w' p F := h.keep (Kept.of_below (F := fun _ => False) hk) (fun _ _ h => h)
theorem DL.lt {v0 v1 : Value} {t : Thing} {w : World} {p : Addr} {F : Nat → Prop} (h : DL v0 v1 t w p F) (k : Nat) (hk : F k) : k < w.heap.size := by
  obtain ⟨b, rfl, hb, ht, hn, rfl⟩ := h
  rcases hk with rfl | hk
  · exact size_of_heap hb
  · exact t.lt w ht k hk
/-- An array of the document, as a level. -/
def DLA (w : World) (p : Addr) (F : Nat → Prop) (c : Cfg) (l : Int) (L : List Int) : Prop := ∃ (a : Addr) (G : Nat → Prop), DL (.pointer (some a)) (.pointer none) (daT a G c l L) w p F
/-- A sketch of the document, as a level. -/
def DLS (w : World) (p : Addr) (F : Nat → Prop) (c : Cfg) (l : Int) (L : List (List Int)) : Prop := ∃ (a : Addr) (G : Nat → Prop), DL (.pointer none) (.pointer (some a)) (dsT a G c l L) w p F
theorem DLA.up {w w' : World} {p : Addr} {F : Nat → Prop} {c : Cfg} {l : Int} {L : List Int} (h : DLA w p F c l L) (hk : Below w.heap.size w w') : DLA w' p F c l L := by
  obtain ⟨a, G, h⟩ := h
  exact ⟨a, G, h.up hk⟩
def dlAT (p : Addr) (F : Nat → Prop) (c : Cfg) (l : Int) (L : List Int) : Thing where
  I := fun w => DLA w p F c l L
  F := F
  keep := fun w w' H h hk hf => by
    obtain ⟨a, G, h⟩ := h
    exact ⟨a, G, h.keep hk hf⟩
  lt := fun w h k hk => by
    obtain ⟨a, G, h⟩ := h
    exact h.lt k hk
theorem DLS.up {w w' : World} {p : Addr} {F : Nat → Prop} {c : Cfg} {l : Int} {L : List (List Int)} (h : DLS w p F c l L) (hk : Below w.heap.size w w') : DLS w' p F c l L := by
  obtain ⟨a, G, h⟩ := h
  exact ⟨a, G, h.up hk⟩
def dlST (p : Addr) (F : Nat → Prop) (c : Cfg) (l : Int) (L : List (List Int)) : Thing where
  I := fun w => DLS w p F c l L
  F := F
  keep := fun w w' H h hk hf => by
    obtain ⟨a, G, h⟩ := h
    exact ⟨a, G, h.keep hk hf⟩
  lt := fun w h k hk => by
    obtain ⟨a, G, h⟩ := h
    exact h.lt k hk
end Go.Proofs.YtmdkdjgamhaeoaaGreat.Lev
/- The walks of gaugerref13 (the document's level): New, Copy, Update, Point, Cells, Join. Printed by wip/gen/levref.py. -/
namespace Go.Proofs.YtmdkdjgamhaeoaaGreat.Lev
open Go Go.RowKit Lw Grd Lin Con Shp Sk Exa
set_option linter.unusedVariables false
set_option linter.unusedSimpArgs false
end Go.Proofs.YtmdkdjgamhaeoaaGreat.Lev
