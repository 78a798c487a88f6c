/- Texts that statements lean on, put together: PcsCode, PcsLawA, PcsAt, PcsCnt, SkRef, SkDocC, LevDef, Lvl, Lrow, Cel, StkDef, SpnMath, QntMath, HvyMath, HvyHier, HvyDef, HvyAsk, HvyGat, HvyOrd. -/
import Derived.Test.YtkflggojiiebeaaGreatVae
import Derived.RangeFuncNested
import Derived.RangeFuncBound
namespace Go.Proofs.YtkflggojiiebeaaGreat.Pcs
open Go Go.RowKit Lw
set_option linter.unusedVariables false
set_option linter.unusedSimpArgs false
theorem shlc {b : Int} (h0 : 0 ≤ b) (h1 : b ≤ 63) : IntKind.u64.wrap (2 ^ min b.toNat 64) = p2 b.toNat := by
  have e : min b.toNat 64 = b.toNat := by omega
  rw [e]
  have h2 : ((2 : Int) ^ b.toNat) = p2 b.toNat := by unfold p2; simp
  rw [h2]
  have h3 := p2_mono (show b.toNat ≤ 63 by omega)
  have h4 : p2 63 = 9223372036854775808 := rfl
  have h5 := p2_pos b.toNat
  exact u64_in (by omega) (by omega)
/-- How many pieces of a level there are. -/
def cntP (b L : Int) : Int := if 1 ≤ b ∧ b ≤ 59 ∧ 0 ≤ L ∧ L ≤ b then p2 (b - L).toNat else 0
theorem isP_cnt {b L i : Int} (h0 : 0 ≤ i) : isP b L i = decide (i < cntP b L) := by
  unfold isP cntP
  by_cases h : 1 ≤ b ∧ b ≤ 59 ∧ 0 ≤ L ∧ L ≤ b
  · rw [if_pos h]
    exact decide_eq_decide.2 ⟨fun g => g.2.2.2.2, fun g => ⟨h.1, h.2.1, h.2.2.1, h.2.2.2, g⟩⟩
  · rw [if_neg h]
    exact decide_eq_decide.2 ⟨fun g => absurd ⟨g.1, g.2.1, g.2.2.1, g.2.2.2.1⟩ h, fun g => by omega⟩
set_option maxRecDepth 100000 in
theorem count_n1 (b L : Int) (w : World) (hb0 : -9223372036854775808 ≤ b) (hb1 : b ≤ 9223372036854775807) (hL0 : -9223372036854775808 ≤ L) (hL1 : L ≤ 9223372036854775807)  (h1 : ¬ 1 ≤ b) :
    Calls Tryz.prog 125 #[.int .i64 b, .int .i64 L] w fun e w' => e = .returned (.int .u64 (0)) ∧ w' = w := by
  have d1 : decide (b < 1) = true := decide_eq_true (by omega)
  have f1 : b < 1 := by omega
  clear hb0 hb1 hL0 hL1 h1
  go_enter Tryz.func125, Tryz.ntmps125
  go_wp2
  go_ret
  exact ⟨rfl, rfl⟩
set_option maxRecDepth 100000 in
theorem count_n2 (b L : Int) (w : World) (hb0 : -9223372036854775808 ≤ b) (hb1 : b ≤ 9223372036854775807) (hL0 : -9223372036854775808 ≤ L) (hL1 : L ≤ 9223372036854775807) (h1 : 1 ≤ b) (h2 : ¬ b ≤ 59) :
    Calls Tryz.prog 125 #[.int .i64 b, .int .i64 L] w fun e w' => e = .returned (.int .u64 (0)) ∧ w' = w := by
  have d1 : decide (b < 1) = false := decide_eq_false (by omega)
  have f1 : ¬ b < 1 := by omega
  have d2 : decide (59 < b) = true := decide_eq_true (by omega)
  have f2 : 59 < b := by omega
  clear hb0 hb1 hL0 hL1 h1 h2
  go_enter Tryz.func125, Tryz.ntmps125
  go_wp2
  go_ret
  exact ⟨rfl, rfl⟩
set_option maxRecDepth 100000 in
theorem count_n3 (b L : Int) (w : World) (hb0 : -9223372036854775808 ≤ b) (hb1 : b ≤ 9223372036854775807) (hL0 : -9223372036854775808 ≤ L) (hL1 : L ≤ 9223372036854775807) (h1 : 1 ≤ b) (h2 : b ≤ 59) (h3 : ¬ 0 ≤ L) :
    Calls Tryz.prog 125 #[.int .i64 b, .int .i64 L] w fun e w' => e = .returned (.int .u64 (0)) ∧ w' = w := by
  have d1 : decide (b < 1) = false := decide_eq_false (by omega)
  have f1 : ¬ b < 1 := by omega
  have d2 : decide (59 < b) = false := decide_eq_false (by omega)
  have f2 : ¬ 59 < b := by omega
  have d3 : decide (L < 0) = true := decide_eq_true (by omega)
  have f3 : L < 0 := by omega
  clear hb0 hb1 hL0 hL1 h1 h2 h3
  go_enter Tryz.func125, Tryz.ntmps125
  go_wp2
  go_ret
  exact ⟨rfl, rfl⟩
set_option maxRecDepth 100000 in
theorem count_n4 (b L : Int) (w : World) (hb0 : -9223372036854775808 ≤ b) (hb1 : b ≤ 9223372036854775807) (hL0 : -9223372036854775808 ≤ L) (hL1 : L ≤ 9223372036854775807) (h1 : 1 ≤ b) (h2 : b ≤ 59) (h3 : 0 ≤ L) (h4 : ¬ L ≤ b) :
    Calls Tryz.prog 125 #[.int .i64 b, .int .i64 L] w fun e w' => e = .returned (.int .u64 (0)) ∧ w' = w := by
  have d1 : decide (b < 1) = false := decide_eq_false (by omega)
  have f1 : ¬ b < 1 := by omega
  have d2 : decide (59 < b) = false := decide_eq_false (by omega)
  have f2 : ¬ 59 < b := by omega
  have d3 : decide (L < 0) = false := decide_eq_false (by omega)
  have f3 : ¬ L < 0 := by omega
  have d4 : decide (b < L) = true := decide_eq_true (by omega)
  have f4 : b < L := by omega
  clear hb0 hb1 hL0 hL1 h1 h2 h3 h4
  go_enter Tryz.func125, Tryz.ntmps125
  go_wp2
  go_ret
  exact ⟨rfl, rfl⟩
set_option maxRecDepth 100000 in
theorem count_y (b L : Int) (w : World) (hb0 : -9223372036854775808 ≤ b) (hb1 : b ≤ 9223372036854775807) (hL0 : -9223372036854775808 ≤ L) (hL1 : L ≤ 9223372036854775807) (h1 : 1 ≤ b) (h2 : b ≤ 59) (h3 : 0 ≤ L) (h4 : L ≤ b) :
    Calls Tryz.prog 125 #[.int .i64 b, .int .i64 L] w fun e w' => e = .returned (.int .u64 (p2 (b - L).toNat)) ∧ w' = w := by
  have d1 : decide (b < 1) = false := decide_eq_false (by omega)
  have f1 : ¬ b < 1 := by omega
  have d2 : decide (59 < b) = false := decide_eq_false (by omega)
  have f2 : ¬ 59 < b := by omega
  have d3 : decide (L < 0) = false := decide_eq_false (by omega)
  have f3 : ¬ L < 0 := by omega
  have d4 : decide (b < L) = false := decide_eq_false (by omega)
  have f4 : ¬ b < L := by omega
  have q0 : ¬ b - L < 0 := by omega
  have q1 : wrap64 (b - L) = b - L := IntWalk.wrap64_in _ ⟨by omega, by omega⟩
  have q2 : IntKind.i64.wrap (b - L) = b - L := IntWalk.i64_in _ ⟨by omega, by omega⟩
  have q3 := shlc (b := b - L) (by omega) (by omega)
  obtain ⟨X, hX⟩ : ∃ X, p2 (b - L).toNat = X := ⟨_, rfl⟩
  rw [hX] at q3 ⊢
  clear hX
  obtain ⟨D, hD⟩ : ∃ D, b - L = D := ⟨_, rfl⟩
  rw [hD] at q0 q1 q2 q3
  have q4 : wrap64 (b - L) = D := by rw [hD]; exact q1
  have q5 : IntKind.i64.wrap (b - L) = D := by rw [hD]; exact q2
  clear hD
  clear hb0 hb1 hL0 hL1 h1 h2 h3 h4
  go_enter Tryz.func125, Tryz.ntmps125
  go_wp2
  go_ret
  exact ⟨rfl, rfl⟩
theorem count_any (b L : Int) (w : World) (hb0 : -9223372036854775808 ≤ b) (hb1 : b ≤ 9223372036854775807) (hL0 : -9223372036854775808 ≤ L) (hL1 : L ≤ 9223372036854775807) :
    Calls Tryz.prog 125 #[.int .i64 b, .int .i64 L] w fun e w' => e = .returned (.int .u64 (cntP b L)) ∧ w' = w := by
  unfold cntP
  by_cases h1 : 1 ≤ b
  · by_cases h2 : b ≤ 59
    · by_cases h3 : 0 ≤ L
      · by_cases h4 : L ≤ b
        · rw [if_pos ⟨h1, h2, h3, h4⟩]; exact count_y b L w hb0 hb1 hL0 hL1 h1 h2 h3 h4
        · rw [if_neg (fun h => h4 h.2.2.2)]; exact count_n4 b L w hb0 hb1 hL0 hL1 h1 h2 h3 h4
      · rw [if_neg (fun h => h3 h.2.2.1)]; exact count_n3 b L w hb0 hb1 hL0 hL1 h1 h2 h3
    · rw [if_neg (fun h => h2 h.2.1)]; exact count_n2 b L w hb0 hb1 hL0 hL1 h1 h2
  · rw [if_neg (fun h => h1 h.1)]; exact count_n1 b L w hb0 hb1 hL0 hL1 h1
set_option maxRecDepth 100000 in
set_option maxHeartbeats 4000000 in
theorem chalves_0 (b i : Int) (w : World) :
    Calls Tryz.prog 95 #[.int .i64 b, .agg #[.int .i64 0, .int .u64 i]] w fun e w' => e = .returned (.tuple #[.agg #[.int .i64 0, .int .u64 0], .agg #[.int .i64 0, .int .u64 0], .bool false]) ∧ Below w.heap.size w w' := by
  go_enter Tryz.func95, Tryz.ntmps95
  go_upto_region 1 with fail
  refine wp_region_held_drew (S := (fun w' => w'.cell? ⟨w.heap.size, 0, none⟩ = some (.int .i64 0) ∧ w'.cell? ⟨w.heap.size, 1, none⟩ = some (.int .u64 i))) (by kernel_rfl) (by simp [go_sem]) (fun hHeld => ?_)
  refine wpAnyH_take (i := 0) (v := ?_) rfl (by kernel_rfl) (by kernel_rfl) (by kernel_rfl) (fun _ _ _ h => h) (Or.inl ⟨by rfl, ?_⟩) hHeld ?_
  rotate_left
  · intro w hSw
    (try dsimp only at hSw)
    go_simp
    (try with_reducible rfl)
  (try simp only [List.getElem_toArray, List.getElem_cons_zero, List.getElem_cons_succ, Act.put, List.setIfInBounds_toArray, List.set_cons_zero, List.set_cons_succ])
  refine wpAnyH_take (i := 1) (v := ?_) rfl (by kernel_rfl) (by kernel_rfl) (by kernel_rfl) (fun _ _ _ h => h) (Or.inl ⟨by rfl, ?_⟩) hHeld ?_
  rotate_left
  · intro w hSw
    (try dsimp only at hSw)
    go_simp
    (try with_reducible rfl)
  (try simp only [List.getElem_toArray, List.getElem_cons_zero, List.getElem_cons_succ, Act.put, List.setIfInBounds_toArray, List.set_cons_zero, List.set_cons_succ])
  refine wpAnyH_take (i := 2) (v := ?_) rfl (by kernel_rfl) (by kernel_rfl) (by kernel_rfl) (fun _ _ _ h => h) (Or.inl ⟨by rfl, ?_⟩) hHeld ?_
  rotate_left
  · intro w hSw
    (try dsimp only at hSw)
    go_simp
    (try with_reducible rfl)
  (try simp only [List.getElem_toArray, List.getElem_cons_zero, List.getElem_cons_succ, Act.put, List.setIfInBounds_toArray, List.set_cons_zero, List.set_cons_succ])
  refine wpAnyH_take (i := 3) (v := ?_) rfl (by kernel_rfl) (by kernel_rfl) (by kernel_rfl) (fun _ _ _ h => h) (Or.inl ⟨by rfl, ?_⟩) hHeld ?_
  rotate_left
  · intro w hSw
    (try dsimp only at hSw)
    go_simp
    (try with_reducible rfl)
  (try simp only [List.getElem_toArray, List.getElem_cons_zero, List.getElem_cons_succ, Act.put, List.setIfInBounds_toArray, List.set_cons_zero, List.set_cons_succ])
  refine wpAnyH_take (i := 4) (v := undef) rfl (by kernel_rfl) (by kernel_rfl) (by kernel_rfl) (fun _ _ _ h => h) (Or.inr ⟨by rfl, rfl⟩) hHeld ?_
  (try simp only [List.getElem_toArray, List.getElem_cons_zero, List.getElem_cons_succ, Act.put, List.setIfInBounds_toArray, List.set_cons_zero, List.set_cons_succ])
  refine wpAnyH_take (i := 5) (v := undef) rfl (by kernel_rfl) (by kernel_rfl) (by kernel_rfl) (fun _ _ _ h => h) (Or.inr ⟨by rfl, rfl⟩) hHeld ?_
  (try simp only [List.getElem_toArray, List.getElem_cons_zero, List.getElem_cons_succ, Act.put, List.setIfInBounds_toArray, List.set_cons_zero, List.set_cons_succ])
  refine wpAnyH_take (i := 6) (v := undef) rfl (by kernel_rfl) (by kernel_rfl) (by kernel_rfl) (fun _ _ _ h => h) (Or.inr ⟨by rfl, rfl⟩) hHeld ?_
  (try simp only [List.getElem_toArray, List.getElem_cons_zero, List.getElem_cons_succ, Act.put, List.setIfInBounds_toArray, List.set_cons_zero, List.set_cons_succ])
  refine wpAnyH_take (i := 7) (v := undef) rfl (by kernel_rfl) (by kernel_rfl) (by kernel_rfl) (fun _ _ _ h => h) (Or.inr ⟨by rfl, rfl⟩) hHeld ?_
  (try simp only [List.getElem_toArray, List.getElem_cons_zero, List.getElem_cons_succ, Act.put, List.setIfInBounds_toArray, List.set_cons_zero, List.set_cons_succ])
  refine wpAnyH_take (i := 8) (v := undef) rfl (by kernel_rfl) (by kernel_rfl) (by kernel_rfl) (fun _ _ _ h => h) (Or.inr ⟨by rfl, rfl⟩) hHeld ?_
  (try simp only [List.getElem_toArray, List.getElem_cons_zero, List.getElem_cons_succ, Act.put, List.setIfInBounds_toArray, List.set_cons_zero, List.set_cons_succ])
  refine wpAnyH_ready (rs := [9]) (by kernel_rfl) (by simp) ?_
  refine AllReadyH.cons rfl (fun K hK => ?_) AllReadyH.nil
  go_simp
  refine hK.out _ _ (by simp [go_sem]) (fun hHeld => ?_)
  clear hK K
  (try simp only [List.getElem_toArray, List.getElem_cons_zero, List.getElem_cons_succ, Act.put, List.setIfInBounds_toArray, List.set_cons_zero, List.set_cons_succ])
  refine wpAnyH_take (i := 10) (v := undef) rfl (by kernel_rfl) (by kernel_rfl) (by kernel_rfl) (fun _ _ _ h => h) (Or.inr ⟨by rfl, rfl⟩) hHeld ?_
  (try simp only [List.getElem_toArray, List.getElem_cons_zero, List.getElem_cons_succ, Act.put, List.setIfInBounds_toArray, List.set_cons_zero, List.set_cons_succ])
  refine wpAnyH_take (i := 11) (v := ?_) rfl (by kernel_rfl) (by kernel_rfl) (by kernel_rfl) (fun _ _ _ h => h) (Or.inl ⟨by rfl, ?_⟩) hHeld ?_
  rotate_left
  · intro w hSw
    (try dsimp only at hSw)
    go_simp
    (try with_reducible rfl)
  (try simp only [List.getElem_toArray, List.getElem_cons_zero, List.getElem_cons_succ, Act.put, List.setIfInBounds_toArray, List.set_cons_zero, List.set_cons_succ])
  refine wpAnyH_done (by kernel_rfl) ?_ _
  go_wp2
  all_goals refine bodyPost_ret (v := .tuple #[.agg #[.int .i64 0, .int .u64 0], .agg #[.int .i64 0, .int .u64 0], .bool false]) (by simp [results, Tryz.results95, go_sem, *]) rfl ?_
  all_goals exact ⟨rfl, (by repeat' (first | (with_reducible first | exact Below.refl _ _ | assumption | refine below_over ?_ _ _ | refine Lw.below_alloc ?_ _ | refine Below.drew ?_ | refine below_drewN ?_ _ | refine Below.setCell ?_ ?_ _) | go_size))⟩
set_option maxRecDepth 100000 in
set_option maxHeartbeats 4000000 in
theorem chalves_n (b L i : Int) (w : World) (hb0 : -9223372036854775808 ≤ b) (hb1 : b ≤ 9223372036854775807) (hL0 : -9223372036854775808 ≤ L) (hL1 : L ≤ 9223372036854775807) (hi0 : 0 ≤ i) (hi1 : i ≤ 18446744073709551615) (hP : isP b L i = false) (hL : ¬ L = 0) :
    Calls Tryz.prog 95 #[.int .i64 b, .agg #[.int .i64 L, .int .u64 i]] w fun e w' => e = .returned (.tuple #[.agg #[.int .i64 0, .int .u64 0], .agg #[.int .i64 0, .int .u64 0], .bool false]) ∧ Below w.heap.size w w' := by
  have CC := Lib.hid (fun w => count_any b L w hb0 hb1 hL0 hL1)
  obtain ⟨X, hX⟩ : ∃ X, cntP b L = X := ⟨_, rfl⟩
  rw [isP_cnt hi0] at hP
  rw [hX] at CC hP
  have hP := of_decide_eq_false hP
  have d1 : decide (X ≤ i) = true := decide_eq_true (by omega)
  have f1 : X ≤ i := by omega
  have f2 : ¬ i < X := hP
  have l1 : (L == 0) = false := by simpa using hL
  clear hb0 hb1 hL0 hL1 hi0 hi1 hX hP
  go_enter Tryz.func95, Tryz.ntmps95
  go_upto_region 1 with fail
  go_quiet (first | (go_at_call 125; with_reducible refine Calls.quiet_of_same (CC.out _)))
  all_goals go_wp2
  all_goals refine bodyPost_ret (v := .tuple #[.agg #[.int .i64 0, .int .u64 0], .agg #[.int .i64 0, .int .u64 0], .bool false]) (by simp [results, Tryz.results95, go_sem, *]) rfl ?_
  all_goals exact ⟨rfl, (by repeat' (first | (with_reducible first | exact Below.refl _ _ | assumption | refine below_over ?_ _ _ | refine Lw.below_alloc ?_ _ | refine Below.drew ?_ | refine below_drewN ?_ _ | refine Below.setCell ?_ ?_ _) | go_size))⟩
set_option maxRecDepth 100000 in
set_option maxHeartbeats 4000000 in
theorem chalves_y (b L i : Int) (w : World) (hb0 : -9223372036854775808 ≤ b) (hb1 : b ≤ 9223372036854775807) (hL0 : -9223372036854775808 ≤ L) (hL1 : L ≤ 9223372036854775807) (hi0 : 0 ≤ i) (hi1 : i ≤ 18446744073709551615) (hP : isP b L i = true) (hL : ¬ L = 0) :
    Calls Tryz.prog 95 #[.int .i64 b, .agg #[.int .i64 L, .int .u64 i]] w fun e w' => e = .returned (.tuple #[.agg #[.int .i64 (L - 1), .int .u64 (2 * i)], .agg #[.int .i64 (L - 1), .int .u64 (2 * i + 1)], .bool true]) ∧ Below w.heap.size w w' := by
  have CC := Lib.hid (fun w => count_any b L w hb0 hb1 hL0 hL1)
  obtain ⟨h1, h2, h3, h4, h5, h6, h7⟩ := isP_bd hP hi0
  have hq := p2_bd (show (b - L).toNat ≤ 60 by omega)
  have w1 : wrap64 (L - 1) = L - 1 := IntWalk.wrap64_in _ ⟨by omega, by omega⟩
  have w2 : IntKind.i64.wrap (L - 1) = L - 1 := IntWalk.i64_in _ ⟨by omega, by omega⟩
  have w3 : IntKind.u64.wrap (2 * i) = 2 * i := u64_in (by omega) (by omega)
  have w4 : IntKind.u64.wrap (2 * i + 1) = 2 * i + 1 := u64_in (by omega) (by omega)
  obtain ⟨X, hX⟩ : ∃ X, cntP b L = X := ⟨_, rfl⟩
  rw [isP_cnt hi0] at hP
  rw [hX] at CC hP
  have hP := of_decide_eq_true hP
  have d1 : decide (X ≤ i) = false := decide_eq_false (by omega)
  have f1 : ¬ X ≤ i := by omega
  have f2 : i < X := hP
  have l1 : (L == 0) = false := by simpa using hL
  clear hb0 hb1 hL0 hL1 hi0 hi1 hX hP h1 h2 h3 h4 h5 h6 h7 hq
  go_enter Tryz.func95, Tryz.ntmps95
  go_upto_region 1 with fail
  go_quiet (first | (go_at_call 125; with_reducible refine Calls.quiet_of_same (CC.out _)))
  all_goals go_upto_region 5 with fail
  all_goals go_region
  all_goals go_wp2
  all_goals refine bodyPost_ret (v := .tuple #[.agg #[.int .i64 (L - 1), .int .u64 (2 * i)], .agg #[.int .i64 (L - 1), .int .u64 (2 * i + 1)], .bool true]) (by simp [results, Tryz.results95, go_sem, *]) rfl ?_
  all_goals exact ⟨rfl, (by repeat' (first | (with_reducible first | exact Below.refl _ _ | assumption | refine below_over ?_ _ _ | refine Lw.below_alloc ?_ _ | refine Below.drew ?_ | refine below_drewN ?_ _ | refine Below.setCell ?_ ?_ _) | go_size))⟩
theorem chalves_any (b L i : Int) (w : World) (hb0 : -9223372036854775808 ≤ b) (hb1 : b ≤ 9223372036854775807) (hL0 : -9223372036854775808 ≤ L) (hL1 : L ≤ 9223372036854775807) (hi0 : 0 ≤ i) (hi1 : i ≤ 18446744073709551615) :
    Calls Tryz.prog 95 #[.int .i64 b, .agg #[.int .i64 L, .int .u64 i]] w fun e w' => e = .returned (.tuple #[.agg #[.int .i64 (haL b L i), .int .u64 (haX b L i)], .agg #[.int .i64 (haL b L i), .int .u64 (haY b L i)], .bool (haB b L i)]) ∧ Below w.heap.size w w' := by
  unfold haL haX haY haB
  by_cases hL : L = 0
  · subst hL
    have e : (isP b 0 i && decide ((0 : Int) < 0)) = false := by simp
    rw [e, if_neg (by simp), if_neg (by simp), if_neg (by simp)]
    exact chalves_0 b i w
  · cases h : isP b L i with
    | false =>
      have e : (false && decide ((0 : Int) < L)) = false := rfl
      rw [e, if_neg (by simp), if_neg (by simp), if_neg (by simp)]
      exact chalves_n b L i w hb0 hb1 hL0 hL1 hi0 hi1 h hL
    | true =>
      obtain ⟨h1, h2, h3, h4, h5, h6, h7⟩ := isP_bd h hi0
      have e : (true && decide ((0 : Int) < L)) = true := by simp; omega
      rw [e, if_pos rfl, if_pos rfl, if_pos rfl]
      exact chalves_y b L i w hb0 hb1 hL0 hL1 hi0 hi1 h hL
theorem flatP_app (us vs : List (Int × Int)) : flatP (us ++ vs) = flatP us ++ flatP vs := List.flatMap_append
/-- What cut holds: the row of the left pieces in a cell, and a block for each right piece, the last one first. -/
structure CutI (w0 w : World) (N : Nat) (xs : List (Nat × Nat)) (rs : List (Nat × Nat × Nat)) (v : Value) : Prop where
  cell : w.heap[w0.heap.size]? = some (.cells #[v] 118 (0, 0))
  own : w.ownsRow w0.heap.size 82 2 v xs.length (flatP (ints xs))
  ne : ∀ k, v.ownBlock = some k → k ≠ w0.heap.size ∧ ∀ r ∈ rs, k ≠ r.1
  bx : ∀ r ∈ rs, w.heap[r.1]? = some (.cells #[.int .i64 (r.2.1 : Int), .int .u64 (r.2.2 : Int)] 82 (0, 0)) ∧ r.1 ≠ w0.heap.size ∧ w0.heap.size ≤ r.1
  below : Below w0.heap.size w0 w
  len : xs.length + rs.length ≤ N
theorem hp_lt {w : World} {b : Nat} {o : Obj} (h : w.heap[b]? = some o) : b < w.heap.size := by
  rcases Nat.lt_or_ge b w.heap.size with h1 | h1
  · exact h1
  · rw [Array.getElem?_eq_none h1] at h; cases h
theorem CutI.cl {w0 w : World} {N : Nat} {xs : List (Nat × Nat)} {rs : List (Nat × Nat × Nat)} {v : Value} (h : CutI w0 w N xs rs v) : w.cell? ⟨w0.heap.size, 0, none⟩ = some v ∧ w.frozen? ⟨w0.heap.size, 0, none⟩ = false ∧ w0.heap.size < w.heap.size := by
  have h1 := h.cell
  exact ⟨box_cell h1 rfl, by simp [World.frozen?, h1], hp_lt h1⟩
theorem ints_one (k a : Nat) : ints [(k, a)] = [((k : Int), (a : Int))] := rfl
/-- A piece put behind the row. -/
theorem CutI.app {w0 w w1 w2 : World} {N : Nat} {xs : List (Nat × Nat)} {rs : List (Nat × Nat × Nat)} {v v' : Value} {k a : Nat} (h : CutI w0 w N xs rs v) (hb : Below w.heap.size w w1) (hlt : w.heap.size < w1.heap.size)
    (ho : w2.ownsRow w0.heap.size 82 2 v' (xs.length + 1) (flatP (ints xs) ++ [.int .i64 (k : Int), .int .u64 (a : Int)])) (hg : w1.grownBy w2 v.ownBlock) (hv' : ∀ k, v'.ownBlock = some k → v.ownBlock = some k ∨ w1.heap.size ≤ k) :
    CutI w0 (w2.setCell ⟨w0.heap.size, 0, none⟩ v') (N + 1) (xs ++ [(k, a)]) rs v' := by
  have hl := h.cl.2.2
  have hnv : ∀ b, b < w.heap.size → (∀ k, v.ownBlock = some k → k ≠ b) → w2.heap[b]? = w.heap[b]? := fun b hlb hb1 => by
    rw [hg.block b (by have := hb.4; omega) (fun e => hb1 b e.symm rfl)]
    exact hb.5 b hlb
  have hs : ∀ b, b ≠ w0.heap.size → (w2.setCell ⟨w0.heap.size, 0, none⟩ v').heap[b]? = w2.heap[b]? := fun b hb1 => by
    simp only [World.setCell, Array.getElem?_modify]
    rw [if_neg (fun e => hb1 e.symm)]
  have hc2 : w2.heap[w0.heap.size]? = some (.cells #[v] 118 (0, 0)) := by
    rw [hnv _ hl (fun k hk => (h.ne k hk).1)]
    exact h.cell
  have hn' : ∀ k, v'.ownBlock = some k → k ≠ w0.heap.size ∧ ∀ r ∈ rs, k ≠ r.1 := fun k hk => by
    rcases hv' k hk with g | g
    · exact h.ne k g
    · have h4 := hb.4
      exact ⟨by omega, fun r hr => by have := hp_lt (h.bx r hr).1; omega⟩
  refine ⟨?_, ?_, hn', ?_, ?_, ?_⟩
  · simp [World.setCell, Array.getElem?_modify, hc2]
  · rw [List.length_append, ints_app, flatP_app, ints_one]
    refine ⟨ho.1, ?_⟩
    rcases ho.2 with g | ⟨g, cap, cur, e1, e2, e3, e4⟩
    · exact .inl g
    · refine .inr ⟨g, cap, cur, e1, e2, ?_, e4⟩
      rw [hs g (hn' g (by rw [e1]; rfl)).1]
      exact e3
  · intro r hr
    obtain ⟨g1, g2, g3⟩ := h.bx r hr
    refine ⟨?_, g2, g3⟩
    rw [hs _ g2, hnv _ (hp_lt g1) (fun k hk => (h.ne k hk).2 r hr)]
    exact g1
  · have hbl := h.below
    have h1 : Below w0.heap.size w0 w1 := hbl.trans (hb.mono hbl.4)
    have h2 : Kept (fun _ => False) w0 w2 := (Kept.of_below (F := fun _ => False) h1).grown hg (fun q hq => .inr (by rcases h.own.lt q hq with ⟨g, _⟩; exact g))
    exact (h2.set (.inr (Nat.le_refl _)) 0 v').below
  · rw [List.length_append]
    have := h.len
    simp
    omega
theorem CutI.st {w0 w w1 w2 : World} {N : Nat} {xs : List (Nat × Nat)} {rs : List (Nat × Nat × Nat)} {v : Value} (h : CutI w0 w N xs rs v) (hb : Below w.heap.size w w1) (hg : w1.grownBy w2 v.ownBlock) : w2.cell? ⟨w0.heap.size, 0, none⟩ = some v ∧ w2.frozen? ⟨w0.heap.size, 0, none⟩ = false := by
  have hl := h.cl.2.2
  have h1 : w2.heap[w0.heap.size]? = some (.cells #[v] 118 (0, 0)) := by
    rw [hg.block _ (by have := hb.4; omega) (fun e => (h.ne _ e.symm).1 rfl), hb.5 _ hl]
    exact h.cell
  exact ⟨box_cell h1 rfl, by simp [World.frozen?, h1]⟩
theorem own_slice {w : World} {base : Nat} {e : TypeId} {size : Nat} {v : Value} {n : Nat} {xs : List Value} (h : w.ownsRow base e size v n xs) : ∃ (A : Option Addr) (m cap : Nat), v = .slice A m cap := by
  rcases h.2 with ⟨h1, _⟩ | ⟨g, cap, cur, h1, _⟩
  · exact ⟨_, _, _, h1⟩
  · exact ⟨_, _, _, h1⟩
theorem CutI.same {w0 w : World} {N : Nat} {xs : List (Nat × Nat)} {rs : List (Nat × Nat × Nat)} {v : Value} (h : CutI w0 w N xs rs v) : w.setCell ⟨w0.heap.size, 0, none⟩ v = w := by
  have h1 := h.cell
  have h2 : (w.setCell ⟨w0.heap.size, 0, none⟩ v).heap = w.heap := by
    apply Array.ext_getElem?
    intro i
    simp only [World.setCell, Array.getElem?_modify]
    by_cases hi : w0.heap.size = i
    · subst hi
      rw [if_pos rfl, h1]
      rfl
    · rw [if_neg hi]
  have h3 : w.setCell ⟨w0.heap.size, 0, none⟩ v = { w with heap := (w.setCell ⟨w0.heap.size, 0, none⟩ v).heap } := rfl
  rw [h3, h2]
theorem CutI.mono {w0 w : World} {N M : Nat} {xs : List (Nat × Nat)} {rs : List (Nat × Nat × Nat)} {v : Value} (h : CutI w0 w N xs rs v) (hN : N ≤ M) : CutI w0 w M xs rs v :=
  ⟨h.cell, h.own, h.ne, h.bx, h.below, Nat.le_trans h.len hN⟩
/-- A block for one more right piece. -/
theorem own2_up' {w w' : World} {base : Nat} {e : TypeId} {size : Nat} {v : Value} {n : Nat} {xs : List Value} (h : w.ownsRow base e size v n xs) (hb : Below w.heap.size w w') : w'.ownsRow base e size v n xs :=
  (Kept.of_below (F := fun _ => False) hb).own h (fun _ _ h => h)
theorem CutI.right {w0 w w1 : World} {N : Nat} {xs : List (Nat × Nat)} {rs : List (Nat × Nat × Nat)} {v : Value} {k a g : Nat} (h : CutI w0 w N xs rs v) (hb : Below w.heap.size w w1) (hg : w.heap.size ≤ g) (hc : w1.heap[g]? = some (.cells #[.int .i64 (k : Int), .int .u64 (a : Int)] 82 (0, 0))) :
    CutI w0 w1 (N + 1) xs ((g, k, a) :: rs) v := by
  have hl := h.cl.2.2
  have hk : ∀ b, b < w.heap.size → w1.heap[b]? = w.heap[b]? := hb.5
  refine ⟨?_, own2_up' h.own hb, fun q hq => ?_, fun r hr => ?_, h.below.trans (hb.mono h.below.4), ?_⟩
  · rw [hk _ hl]
    exact h.cell
  · refine ⟨(h.ne q hq).1, fun r hr => ?_⟩
    rcases List.mem_cons.1 hr with rfl | hr
    · have := (h.own.lt q hq).2
      show q ≠ g
      omega
    · exact (h.ne q hq).2 r hr
  · rcases List.mem_cons.1 hr with rfl | hr
    · exact ⟨hc, by show g ≠ _; omega, by show _ ≤ g; omega⟩
    · obtain ⟨g1, g2, g3⟩ := h.bx r hr
      exact ⟨by rw [hk _ (hp_lt g1)]; exact g1, g2, g3⟩
  · have := h.len
    simp
    omega
theorem CutI.two {w0 w : World} {N : Nat} {xs : List (Nat × Nat)} {rs : List (Nat × Nat × Nat)} {v : Value} {g k a : Nat} (h : CutI w0 w N xs ((g, k, a) :: rs) v) : w.cell? ⟨g, 0, none⟩ = some (.int .i64 (k : Int)) ∧ w.cell? ⟨g, 1, none⟩ = some (.int .u64 (a : Int)) := by
  have h1 := (h.bx (g, k, a) (List.mem_cons_self ..)).1
  exact ⟨box_cell h1 rfl, box_cell h1 rfl⟩
theorem CutI.tail {w0 w : World} {N : Nat} {xs : List (Nat × Nat)} {rs : List (Nat × Nat × Nat)} {v : Value} {r : Nat × Nat × Nat} (h : CutI w0 w (N + 1) xs (r :: rs) v) : CutI w0 w N xs rs v :=
  ⟨h.cell, h.own, fun k hk => ⟨(h.ne k hk).1, fun q hq => (h.ne k hk).2 q (List.mem_cons_of_mem _ hq)⟩, fun q hq => h.bx q (List.mem_cons_of_mem _ hq), h.below, by have := h.len; simp at this; omega⟩
set_option maxRecDepth 100000 in
set_option maxHeartbeats 4000000 in
theorem clo_any (w0 w : World) (N : Nat) (hN : N ≤ 200) (xs : List (Nat × Nat)) (rs : List (Nat × Nat × Nat)) (g k a : Nat) (v : Value) (u : FrameMode) (h : CutI w0 w (N + 1) xs ((g, k, a) :: rs) v) :
    CallsD Tryz.prog 161 #[.pointer (some ⟨w0.heap.size, 0, none⟩), .pointer (some ⟨g, 0, none⟩)] u w fun e u' w' => u' = u ∧ e = .returned (.tuple #[]) ∧ ∃ v', CutI w0 w' (N + 1) (xs ++ [(k, a)]) rs v' := by
  obtain ⟨i0, hi_, hz0, hz1, hz2⟩ := info_parts pc_info
  obtain ⟨c0, c1, hlt⟩ := h.cl
  obtain ⟨b0, b1⟩ := h.two
  have HC := Lib.hid h
  have hlen : xs.length + 1 ≤ 201 := by have := h.len; simp at this; omega
  clear h
  go_enter_d Tryz.func161, Tryz.ntmps161
  go_wp2_with (at_builtin; go_must (refine wpList_append_lies _ rfl _ _ 118 rfl w0.heap.size 82 i0 (.agg #[.int .i64 0, .int .u64 0]) 2 16 pcs_u hi_ hz0 hz1 hz2 rfl (by decide) _ _ _ rfl (HC.out.own.alloc _) ⟨_, 0, none⟩ 1 1 [.int .i64 (k : Int), .int .u64 (a : Int)] rfl rfl (pc_news (pc_alloc (by simp))) (pc_one _ _) (by decide) (by unfold maxLen; omega) (by omega) (by simp; omega) _ rfl ?_); intro g7 cap7 w7 hown7 hgrow7 hat7 hlt7; obtain ⟨s7, z7⟩ := HC.out.tail.st (Lw.below_alloc (Below.refl _ _) _) hgrow7; have H7 := Lib.hid (HC.out.tail.app (k := k) (a := a) (Lw.below_alloc (Below.refl _ _) _) (by simp) hown7 hgrow7 (fun q hq => by injection hq with hq; subst hq; rcases hat7 with g | g; exact .inl g; exact .inr (Nat.le_of_eq g.symm))); clear hown7 hgrow7 hat7 hlt7)
  go_end0
  exact ⟨rfl, _, H7.out⟩
/-- What is deferred, for one right piece. -/
def clo (b : Nat) (r : Nat × Nat × Nat) : Deferred := { target := .fn (.func 161) #[.pointer (some ⟨b, 0, none⟩), .pointer (some ⟨r.1, 0, none⟩)], args := #[] }
theorem leaves_clo {fn : Func} {tmps : Array Value} {R : Ending → World → Prop} (w0 : World) (N : Nat) (hN : N ≤ 200) : ∀ (rs : List (Nat × Nat × Nat)) (xs : List (Nat × Nat)) (v : Value) (w : World), CutI w0 w (N + 1) xs rs v →
    (∀ v' w', CutI w0 w' (N + 1) (xs ++ rs.map (·.2)) [] v' → ∃ u, (results fn tmps).run Tryz.prog w' = .ok u w' ∧ R (.returned u) w') →
    Leaves Tryz.prog fn tmps R (rs.map (clo w0.heap.size)) .returning w
  | [], xs, v, w, h, hR => by
    obtain ⟨u, h1, h2⟩ := hR v w (by rw [List.map_nil, List.append_nil]; exact h)
    exact ⟨u, h1, h2⟩
  | (g, k, a) :: rs, xs, v, w, h, hR => by
    refine leaves_cons (f := 161) (args := #[.pointer (some ⟨w0.heap.size, 0, none⟩), .pointer (some ⟨g, 0, none⟩)]) (by simp) (by simp [go_sem]) ?_
    refine (clo_any w0 w N hN xs rs g k a v .returning h).mono ?_
    rintro e u' w' ⟨rfl, rfl, v', h'⟩
    exact leaves_clo w0 N hN rs _ v' w' h' (fun v2 w2 h2 => hR v2 w2 (by
      rw [List.append_assoc] at h2
      exact h2))
theorem loop_k {P : Program} {Q : Exit → Act → World → Prop} {a : Act} {w : World} {c : Code} (I : Act → World → Prop) (μ : Act → World → Nat) (h₀ : I a w)
    (round : ∀ a w, I a w → ∀ (K : Act → World → Prop), (∀ a' w', I a' w' → μ a' w' < μ a w → K a' w') → c.wp P (Exit.then K Q) a w) : (Code.loop c).wp P Q a w :=
  wp_loop I μ h₀ (fun a w h => round a w h _ (fun _ _ h1 h2 => ⟨h1, h2⟩))
/-- What the loop of cut keeps. -/
def CutL (w0 : World) (B E S : Nat) (j e L : Nat) (xs : List (Nat × Nat)) (rs : List (Nat × Nat × Nat)) (v : Value) (w : World) : Prop :=
  CutI w0 w (2 * L) xs rs v ∧ (j ≤ e ∧ L ≤ B + 1) ∧ e * 2 ^ L ≤ 2 ^ B ∧ ∀ m, Cov B (e * 2 ^ L) (j * 2 ^ L) m → Cov B E S (xs ++ m ++ rs.map (·.2))
theorem CutL.lev {w0 w : World} {B E S j e L : Nat} {xs : List (Nat × Nat)} {rs : List (Nat × Nat × Nat)} {v : Value} (h : CutL w0 B E S j e L xs rs v w) (hj : j < e) : L ≤ B := by
  rcases Nat.lt_or_ge B L with g | g
  · have h3 : 2 ^ B < 2 ^ L := Nat.pow_lt_pow_right (by omega) g
    have h4 := h.2.2.1
    have h5 : 1 * 2 ^ L ≤ e * 2 ^ L := Nat.mul_le_mul_right _ (by omega)
    omega
  · exact g
theorem half_pow {a L : Nat} (h : a % 2 = 0) : a / 2 * 2 ^ (L + 1) = a * 2 ^ L := by
  rw [Nat.pow_succ, Nat.mul_comm (2 ^ L), ← Nat.mul_assoc, Nat.div_mul_cancel (Nat.dvd_of_mod_eq_zero h)]
/-- One level up: both even. -/
theorem CutL.up {w0 w : World} {B E S j e L : Nat} {xs : List (Nat × Nat)} {rs : List (Nat × Nat × Nat)} {v : Value} (hL : L ≤ B) (h : CutI w0 w (2 * (L + 1)) xs rs v) (hj : j ≤ e) (hj2 : j % 2 = 0) (he2 : e % 2 = 0) (hb : e * 2 ^ L ≤ 2 ^ B) (hc : ∀ m, Cov B (e * 2 ^ L) (j * 2 ^ L) m → Cov B E S (xs ++ m ++ rs.map (·.2))) :
    CutL w0 B E S (j / 2) (e / 2) (L + 1) xs rs v w :=
  ⟨h, ⟨by omega, by omega⟩, by rw [half_pow he2]; exact hb, fun m hm => hc m (by rw [half_pow he2, half_pow hj2] at hm; exact hm)⟩
theorem cov_left {B E S j e L : Nat} {xs : List (Nat × Nat)} {ms : List (Nat × Nat)} (hj : j < e) (hj1 : j % 2 = 1) (hb : e * 2 ^ L ≤ 2 ^ B) (hc : ∀ m, Cov B (e * 2 ^ L) (j * 2 ^ L) m → Cov B E S (xs ++ m ++ ms)) : ∀ m, Cov B (e * 2 ^ L) ((j + 1) * 2 ^ L) m → Cov B E S ((xs ++ [(L, j)]) ++ m ++ ms) := fun m hm => by
  have h1 := hc _ (hm.left hj1 hj hb)
  rw [List.append_assoc xs, List.singleton_append]
  exact h1
theorem cov_right {B E S j e L : Nat} {xs : List (Nat × Nat)} {ms : List (Nat × Nat)} (he1 : (e + 1) % 2 = 1) (hb : (e + 1) * 2 ^ L ≤ 2 ^ B) (hc : ∀ m, Cov B ((e + 1) * 2 ^ L) (j * 2 ^ L) m → Cov B E S (xs ++ m ++ ms)) : ∀ m, Cov B (e * 2 ^ L) (j * 2 ^ L) m → Cov B E S (xs ++ m ++ (L, e) :: ms) := fun m hm => by
  have h1 := hc _ (hm.last (by omega) hb (Nat.dvd_mul_left _ _))
  rw [← List.append_assoc, List.append_assoc (xs ++ m), List.singleton_append] at h1
  exact h1
def CutA (w0 : World) (B E S : Nat) (a : Act) (w : World) : Prop :=
  ∃ (j e L : Nat) (xs : List (Nat × Nat)) (rs : List (Nat × Nat × Nat)) (v : Value) (u2 u3 u6 u7 u8 u9 u10 u11 u12 u13 u14 u15 u16 u17 u18 u19 u20 u21 u22 u23 u24 u25 u26 u27 u28 u29 u30 u31 u32 u33 u34 u35 u36 : Value), CutL w0 B E S j e L xs rs v w ∧ a = { tmps := #[.int .u64 j, .int .u64 e, u2, u3, .pointer (some ⟨w0.heap.size, 0, none⟩), .int .i64 L, u6, u7, u8, u9, u10, u11, u12, u13, u14, u15, u16, u17, u18, u19, u20, u21, u22, u23, u24, u25, u26, u27, u28, u29, u30, u31, u32, u33, u34, u35, u36], defers := rs.map (clo w0.heap.size) }
set_option maxRecDepth 100000 in
set_option maxHeartbeats 4000000 in
theorem cut_any (B S E : Nat) (w0 : World) (hB : B ≤ 59) (hS : S ≤ E) (hE : E ≤ 2 ^ B) :
    Calls Tryz.prog 146 #[.int .u64 S, .int .u64 E] w0 fun e w' => ∃ (l : List (Nat × Nat)) (v : Value), e = .returned v ∧ Cov B E S l ∧ w'.ownsRow w0.heap.size 82 2 v l.length (flatP (ints l)) ∧ Below w0.heap.size w0 w' := by
  obtain ⟨i0, hi_, hz0, hz1, hz2⟩ := info_parts pc_info
  have hmf : ∀ (fn : Fn) (first cap : Array Value) (w : World), (Instr.makeFunc fn first cap).run Tryz.prog w = .ok (.func fn first cap) w := fun _ _ _ _ => rfl
  have HE := Lib.hid hE
  have HS := Lib.hid hS
  clear hE hS
  go_enter_defers Tryz.func146, Tryz.ntmps146
  go_wp2
  refine loop_k (CutA w0 B E S) (fun a _ => (intOf (a.tmps.getD 1 undef)).toNat) ?_ ?_
  · refine ⟨S, E, 0, [], [], .slice none 0 0, _, _, _, _, _, _, _, _, _, _, _, _, _, _, _, _, _, _, _, _, _, _, _, _, _, _, _, _, _, _, _, _, _, ⟨⟨heap_alloc_new w0 _, ⟨rfl, .inl ⟨rfl, rfl⟩⟩, fun k hk => (by cases hk), fun r hr => (by cases hr), Lw.below_alloc (Below.refl _ _) _, Nat.le_refl _⟩, ⟨HS.out, by omega⟩, by simpa using HE.out, fun m hm => by simpa using hm⟩, rfl⟩
  · rintro a wr ⟨j, e, L, xs, rs, v, u2, u3, u6, u7, u8, u9, u10, u11, u12, u13, u14, u15, u16, u17, u18, u19, u20, u21, u22, u23, u24, u25, u26, u27, u28, u29, u30, u31, u32, u33, u34, u35, u36, hrel, rfl⟩ K hK
    have HK := Lib.hid hK
    have HR := Lib.hid hrel
    clear hK hrel
    by_cases hlt : j < e
    · have hL := HR.out.lev hlt
      have hL1 : ∃ L1, L1 = L + 1 := ⟨_, rfl⟩
      obtain ⟨L1, hL1⟩ := hL1
      have HL1 := Lib.hid hL1
      have wL : wrap64 ((L : Int) + 1) = (L1 : Int) := by rw [hL1]; exact IntWalk.wrap64_in _ ⟨by omega, by omega⟩
      have wL2 : IntKind.i64.wrap ((L : Int) + 1) = (L1 : Int) := by rw [hL1]; exact IntWalk.i64_in _ ⟨by omega, by omega⟩
      have hle : (e : Int) ≤ 1152921504606846976 := by
        have h1 := HR.out.2.2.1
        have h2 := pow_pos L
        have h3 : e * 1 ≤ e * 2 ^ L := Nat.mul_le_mul_left _ h2
        have h4 := pow_le hB
        have h5 : (2 : Nat) ^ 59 = 576460752303423488 := rfl
        omega
      have hlj : (j : Int) ≤ 1152921504606846976 := by omega
      have hlen : xs.length ≤ 118 := by
        have := HR.out.1.len
        omega
      have dlt : decide ((j : Int) < (e : Int)) = true := decide_eq_true (by omega)
      have glt : (j : Int) < (e : Int) := by omega
      obtain ⟨c0, c1, hltw⟩ := HR.out.1.cl
      clear hL1
      rcases Nat.mod_two_eq_zero_or_one j with hj2 | hj2 <;> rcases Nat.mod_two_eq_zero_or_one e with he2 | he2
      · skip
        have tj : Int.tmod (j : Int) 2 = 0 := by rw [Int.tmod_eq_emod_of_nonneg (by omega)]; omega
        have te : Int.tmod (e : Int) 2 = 0 := by rw [Int.tmod_eq_emod_of_nonneg (by omega)]; omega
        obtain ⟨J2, hJ2⟩ : ∃ J2, j / 2 = J2 := ⟨_, rfl⟩
        obtain ⟨E2, hE2⟩ : ∃ E2, e / 2 = E2 := ⟨_, rfl⟩
        have qj : Int.tdiv (j : Int) 2 = (J2 : Int) := by rw [Int.tdiv_eq_ediv_of_nonneg (by omega)]; omega
        have qe : Int.tdiv (e : Int) 2 = (E2 : Int) := by rw [Int.tdiv_eq_ediv_of_nonneg (by omega)]; omega
        have qj2 : IntKind.u64.wrap (J2 : Int) = (J2 : Int) := u64_in (by omega) (by omega)
        have qe2 : IntKind.u64.wrap (E2 : Int) = (E2 : Int) := u64_in (by omega) (by omega)
        have hb9 := HR.out.2.2.1
        have HM : Hid (∀ m, Cov B (e * 2 ^ L) (j * 2 ^ L) m → Cov B E S (xs ++ m ++ rs.map (·.2))) := Lib.hid (fun m hm => HR.out.2.2.2 m hm)
        have HB9 : Hid (e * 2 ^ L ≤ 2 ^ B) := Lib.hid hb9
        have HN : Hid (j ≤ e ∧ j % 2 = 0 ∧ e % 2 = 0 ∧ j / 2 = J2 ∧ e / 2 = E2 ∧ (e : Int) = e ∧ E2 < e) := Lib.hid ⟨by omega, by omega, by omega, hJ2, hE2, rfl, by omega⟩
        clear hJ2 hE2 hb9 hj2 he2 hlt hlj hle
        go_wp2
        obtain ⟨n1, n2, n3, n4, n5, _, n6⟩ := HN.out
        have hl1 := HL1.out
        subst hl1
        refine HK.out _ _ ?_ (by simp [intOf]; omega)
        refine ⟨J2, E2, L + 1, xs, rs, v, _, _, _, _, _, _, _, _, _, _, _, _, _, _, _, _, _, _, _, _, _, _, _, _, _, _, _, _, _, _, _, _, _, ?_, rfl⟩
        rw [← n4, ← n5]
        exact CutL.up hL ((HR.out.1).mono (by omega)) n1 n2 n3 HB9.out HM.out
      · skip
        have tj : Int.tmod (j : Int) 2 = 0 := by rw [Int.tmod_eq_emod_of_nonneg (by omega)]; omega
        have te : Int.tmod (e : Int) 2 = 1 := by rw [Int.tmod_eq_emod_of_nonneg (by omega)]; omega
        obtain ⟨E1, hE1⟩ : ∃ E1, e = E1 + 1 := ⟨e - 1, by omega⟩
        have ae : IntKind.u64.wrap ((e : Int) - 1) = (E1 : Int) := by rw [hE1]; rw [u64_in (by omega) (by omega)]; omega
        obtain ⟨J2, hJ2⟩ : ∃ J2, j / 2 = J2 := ⟨_, rfl⟩
        obtain ⟨E2, hE2⟩ : ∃ E2, E1 / 2 = E2 := ⟨_, rfl⟩
        have qj : Int.tdiv (j : Int) 2 = (J2 : Int) := by rw [Int.tdiv_eq_ediv_of_nonneg (by omega)]; omega
        have qe : Int.tdiv (E1 : Int) 2 = (E2 : Int) := by rw [Int.tdiv_eq_ediv_of_nonneg (by omega)]; omega
        have qj2 : IntKind.u64.wrap (J2 : Int) = (J2 : Int) := u64_in (by omega) (by omega)
        have qe2 : IntKind.u64.wrap (E2 : Int) = (E2 : Int) := u64_in (by omega) (by omega)
        have hb9 := HR.out.2.2.1
        have HM : Hid (∀ m, Cov B (E1 * 2 ^ L) (j * 2 ^ L) m → Cov B E S (xs ++ m ++ (L, E1) :: rs.map (·.2))) := Lib.hid (by subst hE1; exact cov_right he2 hb9 (fun m hm => HR.out.2.2.2 m hm))
        have HB9 : Hid (E1 * 2 ^ L ≤ 2 ^ B) := Lib.hid (by subst hE1; exact Nat.le_trans (Nat.mul_le_mul_right _ (by omega)) hb9)
        have HN : Hid (j ≤ E1 ∧ j % 2 = 0 ∧ E1 % 2 = 0 ∧ j / 2 = J2 ∧ E1 / 2 = E2 ∧ (e : Int) = e ∧ E2 < e) := Lib.hid ⟨by omega, by omega, by omega, hJ2, hE2, rfl, by omega⟩
        clear hJ2 hE2 hb9 hE1 hj2 he2 hlt hlj hle
        go_wp2
        obtain ⟨n1, n2, n3, n4, n5, _, n6⟩ := HN.out
        have hl1 := HL1.out
        subst hl1
        refine HK.out _ _ ?_ (by simp [intOf]; omega)
        refine ⟨J2, E2, L + 1, xs, ((wr.heap.size, L, E1) :: rs), v, _, _, _, _, _, _, _, _, _, _, _, _, _, _, _, _, _, _, _, _, _, _, _, _, _, _, _, _, _, _, _, _, _, ?_, rfl⟩
        rw [← n4, ← n5]
        exact CutL.up hL (((HR.out.1.right (g := wr.heap.size) (k := L) (a := E1) (Lw.below_alloc (Below.refl _ _) _) (by simp) (pc_alloc (by simp)))).mono (by omega)) n1 n2 n3 HB9.out HM.out
      · skip
        have tj : Int.tmod (j : Int) 2 = 1 := by rw [Int.tmod_eq_emod_of_nonneg (by omega)]; omega
        have te : Int.tmod (e : Int) 2 = 0 := by rw [Int.tmod_eq_emod_of_nonneg (by omega)]; omega
        obtain ⟨J1, hJ1⟩ : ∃ J1, J1 = j + 1 := ⟨_, rfl⟩
        have aj : IntKind.u64.wrap ((j : Int) + 1) = (J1 : Int) := by rw [hJ1]; exact u64_in (by omega) (by omega)
        obtain ⟨J2, hJ2⟩ : ∃ J2, J1 / 2 = J2 := ⟨_, rfl⟩
        obtain ⟨E2, hE2⟩ : ∃ E2, e / 2 = E2 := ⟨_, rfl⟩
        have qj : Int.tdiv (J1 : Int) 2 = (J2 : Int) := by rw [Int.tdiv_eq_ediv_of_nonneg (by omega)]; omega
        have qe : Int.tdiv (e : Int) 2 = (E2 : Int) := by rw [Int.tdiv_eq_ediv_of_nonneg (by omega)]; omega
        have qj2 : IntKind.u64.wrap (J2 : Int) = (J2 : Int) := u64_in (by omega) (by omega)
        have qe2 : IntKind.u64.wrap (E2 : Int) = (E2 : Int) := u64_in (by omega) (by omega)
        have hb9 := HR.out.2.2.1
        have HM : Hid (∀ m, Cov B (e * 2 ^ L) ((j + 1) * 2 ^ L) m → Cov B E S ((xs ++ [(L, j)]) ++ m ++ rs.map (·.2))) := Lib.hid (cov_left hlt hj2 HR.out.2.2.1 (fun m hm => HR.out.2.2.2 m hm))
        have HB9 : Hid (e * 2 ^ L ≤ 2 ^ B) := Lib.hid hb9
        rw [← hJ1] at HM
        have HN : Hid (J1 ≤ e ∧ J1 % 2 = 0 ∧ e % 2 = 0 ∧ J1 / 2 = J2 ∧ e / 2 = E2 ∧ (e : Int) = e ∧ E2 < e) := Lib.hid ⟨by omega, by omega, by omega, hJ2, hE2, rfl, by omega⟩
        clear hJ2 hE2 hb9 hJ1 hj2 he2 hlt hlj hle
        go_wp2_with (at_builtin; go_must (refine wpList_append_lies _ rfl _ _ 118 rfl w0.heap.size 82 i0 (.agg #[.int .i64 0, .int .u64 0]) 2 16 pcs_u hi_ hz0 hz1 hz2 rfl (by decide) _ _ _ rfl (HR.out.1.own.alloc _) ⟨_, 0, none⟩ 1 1 [.int .i64 (L : Int), .int .u64 (j : Int)] rfl rfl (pc_news (pc_alloc (by simp))) (pc_one _ _) (by decide) (by unfold maxLen; omega) (by omega) (by simp; omega) _ rfl ?_); intro g7 cap7 w7 hown7 hgrow7 hat7 hlt7; obtain ⟨s7, z7⟩ := HR.out.1.st (Lw.below_alloc (Below.refl _ _) _) hgrow7; have H7 := Lib.hid (HR.out.1.app (k := L) (a := j) (Lw.below_alloc (Below.refl _ _) _) (by simp) hown7 hgrow7 (fun q hq => by injection hq with hq; subst hq; rcases hat7 with g | g; exact .inl g; exact .inr (Nat.le_of_eq g.symm))); clear hown7 hgrow7 hat7 hlt7)
        obtain ⟨n1, n2, n3, n4, n5, _, n6⟩ := HN.out
        have hl1 := HL1.out
        subst hl1
        refine HK.out _ _ ?_ (by simp [intOf]; omega)
        refine ⟨J2, E2, L + 1, (xs ++ [(L, j)]), rs, (.slice (some ⟨g7, 0, none⟩) (xs.length + 1) cap7), _, _, _, _, _, _, _, _, _, _, _, _, _, _, _, _, _, _, _, _, _, _, _, _, _, _, _, _, _, _, _, _, _, ?_, rfl⟩
        rw [← n4, ← n5]
        exact CutL.up hL ((H7.out).mono (by omega)) n1 n2 n3 HB9.out HM.out
      · skip
        have tj : Int.tmod (j : Int) 2 = 1 := by rw [Int.tmod_eq_emod_of_nonneg (by omega)]; omega
        have te : Int.tmod (e : Int) 2 = 1 := by rw [Int.tmod_eq_emod_of_nonneg (by omega)]; omega
        obtain ⟨J1, hJ1⟩ : ∃ J1, J1 = j + 1 := ⟨_, rfl⟩
        have aj : IntKind.u64.wrap ((j : Int) + 1) = (J1 : Int) := by rw [hJ1]; exact u64_in (by omega) (by omega)
        obtain ⟨E1, hE1⟩ : ∃ E1, e = E1 + 1 := ⟨e - 1, by omega⟩
        have ae : IntKind.u64.wrap ((e : Int) - 1) = (E1 : Int) := by rw [hE1]; rw [u64_in (by omega) (by omega)]; omega
        obtain ⟨J2, hJ2⟩ : ∃ J2, J1 / 2 = J2 := ⟨_, rfl⟩
        obtain ⟨E2, hE2⟩ : ∃ E2, E1 / 2 = E2 := ⟨_, rfl⟩
        have qj : Int.tdiv (J1 : Int) 2 = (J2 : Int) := by rw [Int.tdiv_eq_ediv_of_nonneg (by omega)]; omega
        have qe : Int.tdiv (E1 : Int) 2 = (E2 : Int) := by rw [Int.tdiv_eq_ediv_of_nonneg (by omega)]; omega
        have qj2 : IntKind.u64.wrap (J2 : Int) = (J2 : Int) := u64_in (by omega) (by omega)
        have qe2 : IntKind.u64.wrap (E2 : Int) = (E2 : Int) := u64_in (by omega) (by omega)
        have hb9 := HR.out.2.2.1
        have HM : Hid (∀ m, Cov B (E1 * 2 ^ L) ((j + 1) * 2 ^ L) m → Cov B E S ((xs ++ [(L, j)]) ++ m ++ (L, E1) :: rs.map (·.2))) := Lib.hid (by subst hE1; exact cov_right he2 hb9 (cov_left hlt hj2 HR.out.2.2.1 (fun m hm => HR.out.2.2.2 m hm)))
        have HB9 : Hid (E1 * 2 ^ L ≤ 2 ^ B) := Lib.hid (by subst hE1; exact Nat.le_trans (Nat.mul_le_mul_right _ (by omega)) hb9)
        rw [← hJ1] at HM
        have HN : Hid (J1 ≤ E1 ∧ J1 % 2 = 0 ∧ E1 % 2 = 0 ∧ J1 / 2 = J2 ∧ E1 / 2 = E2 ∧ (e : Int) = e ∧ E2 < e) := Lib.hid ⟨by omega, by omega, by omega, hJ2, hE2, rfl, by omega⟩
        clear hJ2 hE2 hb9 hJ1 hE1 hj2 he2 hlt hlj hle
        go_wp2_with (at_builtin; go_must (refine wpList_append_lies _ rfl _ _ 118 rfl w0.heap.size 82 i0 (.agg #[.int .i64 0, .int .u64 0]) 2 16 pcs_u hi_ hz0 hz1 hz2 rfl (by decide) _ _ _ rfl (HR.out.1.own.alloc _) ⟨_, 0, none⟩ 1 1 [.int .i64 (L : Int), .int .u64 (j : Int)] rfl rfl (pc_news (pc_alloc (by simp))) (pc_one _ _) (by decide) (by unfold maxLen; omega) (by omega) (by simp; omega) _ rfl ?_); intro g7 cap7 w7 hown7 hgrow7 hat7 hlt7; obtain ⟨s7, z7⟩ := HR.out.1.st (Lw.below_alloc (Below.refl _ _) _) hgrow7; have H7 := Lib.hid (HR.out.1.app (k := L) (a := j) (Lw.below_alloc (Below.refl _ _) _) (by simp) hown7 hgrow7 (fun q hq => by injection hq with hq; subst hq; rcases hat7 with g | g; exact .inl g; exact .inr (Nat.le_of_eq g.symm))); clear hown7 hgrow7 hat7 hlt7)
        obtain ⟨n1, n2, n3, n4, n5, _, n6⟩ := HN.out
        have hl1 := HL1.out
        subst hl1
        refine HK.out _ _ ?_ (by simp [intOf]; omega)
        refine ⟨J2, E2, L + 1, (xs ++ [(L, j)]), ((w7.heap.size, L, E1) :: rs), (.slice (some ⟨g7, 0, none⟩) (xs.length + 1) cap7), _, _, _, _, _, _, _, _, _, _, _, _, _, _, _, _, _, _, _, _, _, _, _, _, _, _, _, _, _, _, _, _, _, ?_, rfl⟩
        rw [← n4, ← n5]
        exact CutL.up hL (((H7.out.right (g := w7.heap.size) (k := L) (a := E1) (Lw.below_alloc (Below.refl _ _) _) (by simp) (pc_alloc (by simp)))).mono (by omega)) n1 n2 n3 HB9.out HM.out
    · have hje : j = e := by have := HR.out.2.1; omega
      have HJE := Lib.hid hje
      have dlt : decide ((j : Int) < (e : Int)) = false := decide_eq_false (by omega)
      have glt : ¬ (j : Int) < (e : Int) := by omega
      obtain ⟨c0, c1, hltw⟩ := HR.out.1.cl
      obtain ⟨A, n, cap, rfl⟩ := own_slice HR.out.1.own
      clear hlt hje
      go_wp2
      rw [HR.out.1.same]
      have hL60 : L ≤ B + 1 := HR.out.2.1.2
      refine leaves_clo w0 (2 * L) (by omega) rs xs _ wr (HR.out.1.mono (by omega)) (fun v' w' h' => ?_)
      obtain ⟨A2, n2, cap2, rfl⟩ := own_slice h'.own
      obtain ⟨x0, x1, x2⟩ := h'.cl
      have hcv := HR.out.2.2.2 [] (by rw [HJE.out]; exact Cov.nil)
      rw [List.append_nil] at hcv
      exact ⟨.slice A2 n2 cap2, by simp [results, Tryz.results146, go_sem, x0], _, _, rfl, hcv, h'.own, h'.below⟩
theorem okC_cnt {b lo hi : Int} (h0 : 0 ≤ hi) : okC b lo hi = (decide (lo ≤ hi) && decide (hi < cntP b 0)) := by
  unfold okC cntP
  by_cases h : 1 ≤ b ∧ b ≤ 59
  · rw [if_pos ⟨h.1, h.2, by omega, by omega⟩, show (b - 0).toNat = b.toNat by rw [Int.sub_zero], ← Bool.decide_and]
    exact decide_eq_decide.2 ⟨fun g => g.2.2, fun g => ⟨h.1, h.2, g⟩⟩
  · rw [if_neg (fun g => h ⟨g.1, g.2.1⟩), ← Bool.decide_and]
    exact decide_eq_decide.2 ⟨fun g => absurd ⟨g.1, g.2.1⟩ h, fun g => by omega⟩
set_option maxRecDepth 100000 in
set_option maxHeartbeats 4000000 in
theorem ccover_n1 (b lo hi : Int) (w : World) (hb0 : -9223372036854775808 ≤ b) (hb1 : b ≤ 9223372036854775807) (lo0 : 0 ≤ lo) (lo1 : lo ≤ 18446744073709551615) (hi0 : 0 ≤ hi) (hi1 : hi ≤ 18446744073709551615) (h1 : ¬ lo ≤ hi) :
    Calls Tryz.prog 113 #[.int .i64 b, .int .u64 lo, .int .u64 hi] w fun e w' => CovR w w' e b lo hi := by
  have HOK : Hid (okC b lo hi = false) := Lib.hid (decide_eq_false (fun h => h1 h.2.2.1))
  have d1 : decide (hi < lo) = true := decide_eq_true (by omega)
  have f1 : hi < lo := by omega
  clear hb0 hb1 lo0 lo1 hi0 hi1 h1
  go_enter Tryz.func113, Tryz.ntmps113
  go_wp2
  refine bodyPost_ret (v := .tuple #[.slice none 0 0, .bool false]) (by simp [results, Tryz.results113, go_sem]) rfl ?_
  unfold CovR
  rw [HOK.out]
  exact ⟨none, 0, 0, [], rfl, pcT_nil _ _ (fun a e => by cases e), fun k hk => (by obtain ⟨a, e, _⟩ := hk; cases e), (by repeat' (first | (with_reducible first | exact Below.refl _ _ | assumption | refine below_over ?_ _ _ | refine Lw.below_alloc ?_ _ | refine Below.drew ?_ | refine below_drewN ?_ _ | refine Below.setCell ?_ ?_ _) | go_size)), fun h => by simp at h, fun _ => rfl⟩
set_option maxRecDepth 100000 in
set_option maxHeartbeats 4000000 in
theorem ccover_n2 (b lo hi : Int) (w : World) (hb0 : -9223372036854775808 ≤ b) (hb1 : b ≤ 9223372036854775807) (lo0 : 0 ≤ lo) (lo1 : lo ≤ 18446744073709551615) (hi0 : 0 ≤ hi) (hi1 : hi ≤ 18446744073709551615) (h1 : lo ≤ hi) (h2 : ¬ hi < cntP b 0) :
    Calls Tryz.prog 113 #[.int .i64 b, .int .u64 lo, .int .u64 hi] w fun e w' => CovR w w' e b lo hi := by
  have HOK : Hid (okC b lo hi = false) := Lib.hid (by rw [okC_cnt hi0, decide_eq_false h2, Bool.and_false])
  have CC := Lib.hid (fun w => count_any b 0 w hb0 hb1 (by omega) (by omega))
  obtain ⟨X, hX⟩ : ∃ X, cntP b 0 = X := ⟨_, rfl⟩
  rw [hX] at CC h2
  have d1 : decide (hi < lo) = false := decide_eq_false (by omega)
  have f1 : ¬ hi < lo := by omega
  have d2 : decide (X ≤ hi) = true := decide_eq_true (by omega)
  have f2 : X ≤ hi := by omega
  clear hb0 hb1 lo0 lo1 hi0 hi1 h1 h2 hX
  go_enter Tryz.func113, Tryz.ntmps113
  go_wp2_with ((go_at_call 125; (with_reducible refine (CC.out _).mono ?_); rintro e w1 ⟨rfl, rfl⟩; skip))
  refine bodyPost_ret (v := .tuple #[.slice none 0 0, .bool false]) (by simp [results, Tryz.results113, go_sem]) rfl ?_
  unfold CovR
  rw [HOK.out]
  exact ⟨none, 0, 0, [], rfl, pcT_nil _ _ (fun a e => by cases e), fun k hk => (by obtain ⟨a, e, _⟩ := hk; cases e), (by repeat' (first | (with_reducible first | exact Below.refl _ _ | assumption | refine below_over ?_ _ _ | refine Lw.below_alloc ?_ _ | refine Below.drew ?_ | refine below_drewN ?_ _ | refine Below.setCell ?_ ?_ _) | go_size)), fun h => by simp at h, fun _ => rfl⟩
set_option maxRecDepth 100000 in
set_option maxHeartbeats 4000000 in
theorem ccover_y (b lo hi : Int) (w : World) (hb0 : -9223372036854775808 ≤ b) (hb1 : b ≤ 9223372036854775807) (lo0 : 0 ≤ lo) (lo1 : lo ≤ 18446744073709551615) (hi0 : 0 ≤ hi) (hi1 : hi ≤ 18446744073709551615) (h1 : lo ≤ hi) (h2 : hi < cntP b 0) :
    Calls Tryz.prog 113 #[.int .i64 b, .int .u64 lo, .int .u64 hi] w fun e w' => CovR w w' e b lo hi := by
  have hok : okC b lo hi = true := by rw [okC_cnt hi0, decide_eq_true h2, decide_eq_true h1]; rfl
  have HOK := Lib.hid hok
  obtain ⟨k1, k2, k3, k4⟩ := of_decide_eq_true hok
  have CC := Lib.hid (fun w => count_any b 0 w hb0 hb1 (by omega) (by omega))
  obtain ⟨s, rfl⟩ : ∃ s : Nat, lo = s := ⟨lo.toNat, by omega⟩
  obtain ⟨t, rfl⟩ : ∃ t : Nat, hi = t := ⟨hi.toNat, by omega⟩
  have hpb := p2_bd (show b.toNat ≤ 60 by omega)
  have hE : t + 1 ≤ 2 ^ b.toNat := by unfold p2 at k4; omega
  have CU := Lib.hid (fun w => cut_any b.toNat s (t + 1) w (by omega) (by omega) hE)
  have hw : IntKind.u64.wrap ((t : Int) + 1) = ((t + 1 : Nat) : Int) := by rw [u64_in (by omega) (by omega)]; omega
  obtain ⟨E, hEE⟩ : ∃ E, t + 1 = E := ⟨_, rfl⟩
  rw [hEE] at CU hw hE
  have HEE := Lib.hid hEE
  have HE := Lib.hid hE
  obtain ⟨X, hX⟩ : ∃ X, cntP b 0 = X := ⟨_, rfl⟩
  rw [hX] at CC h2
  have d1 : decide ((t : Int) < (s : Int)) = false := decide_eq_false (by omega)
  have f1 : ¬ (t : Int) < (s : Int) := by omega
  have d2 : decide (X ≤ (t : Int)) = false := decide_eq_false (by omega)
  have f2 : ¬ X ≤ (t : Int) := by omega
  clear hb0 hb1 lo0 lo1 hi0 hi1 h1 h2 hX k1 k2 k3 k4 hpb hE hok hEE
  go_enter Tryz.func113, Tryz.ntmps113
  go_wp2_with (first
    | (go_at_call 125; (with_reducible refine (CC.out _).mono ?_); rintro e w1 ⟨rfl, rfl⟩; skip)
    | (go_at_call 146; (with_reducible refine (CU.out _).mono ?_); rintro e w2 ⟨l, v, rfl, hcov, hown, hbel⟩; have HCO := Lib.hid hcov; have HOWN := Lib.hid hown; have HBEL := Lib.hid hbel; clear hcov hown hbel))
  have hbd : ∀ u ∈ ints l, (-9223372036854775808 ≤ u.1 ∧ u.1 ≤ 9223372036854775807) ∧ (0 ≤ u.2 ∧ u.2 ≤ 18446744073709551615) := by
    intro u hu
    obtain ⟨p, hp, rfl⟩ := List.mem_map.1 hu
    obtain ⟨i, hi⟩ := List.getElem?_of_mem hp
    obtain ⟨q1, q2, q3⟩ := HCO.out.at i p hi
    have q4 := pow_pos p.1
    have q5 : p.2 * 1 ≤ p.2 * 2 ^ p.1 := Nat.mul_le_mul_left _ q4
    have q6 := HE.out
    have q7 := of_decide_eq_true HOK.out
    have q8 := pow_le (show b.toNat ≤ 59 by omega)
    have q9 : (2 : Nat) ^ 59 = 576460752303423488 := rfl
    exact ⟨⟨by show -9223372036854775808 ≤ (p.1 : Int); omega, by show (p.1 : Int) ≤ 9223372036854775807; omega⟩, ⟨by show 0 ≤ (p.2 : Int); omega, by show (p.2 : Int) ≤ 18446744073709551615; omega⟩⟩
  obtain ⟨A2, cap, rfl, hI, hF⟩ := pc_own HOWN.out (ints_len l) hbd
  have HI := Lib.hid hI
  have HF := Lib.hid hF
  clear hbd hI hF
  refine bodyPost_ret (v := .tuple #[.slice A2 l.length cap, .bool true]) (by simp [results, Tryz.results113, go_sem]) rfl ?_
  unfold CovR
  rw [HOK.out]
  refine ⟨A2, _, cap, l, rfl, HI.out, HF.out, HBEL.out, fun _ => ?_, fun h => by simp at h⟩
  have h9 := HCO.out
  rw [← HEE.out] at h9
  exact h9
theorem ccover_any (b lo hi : Int) (w : World) (hb0 : -9223372036854775808 ≤ b) (hb1 : b ≤ 9223372036854775807) (lo0 : 0 ≤ lo) (lo1 : lo ≤ 18446744073709551615) (hi0 : 0 ≤ hi) (hi1 : hi ≤ 18446744073709551615) :
    Calls Tryz.prog 113 #[.int .i64 b, .int .u64 lo, .int .u64 hi] w fun e w' => CovR w w' e b lo hi := by
  by_cases h1 : lo ≤ hi
  · by_cases h2 : hi < cntP b 0
    · exact ccover_y b lo hi w hb0 hb1 lo0 lo1 hi0 hi1 h1 h2
    · exact ccover_n2 b lo hi w hb0 hb1 lo0 lo1 hi0 hi1 h1 h2
  · exact ccover_n1 b lo hi w hb0 hb1 lo0 lo1 hi0 hi1 h1
end Go.Proofs.YtkflggojiiebeaaGreat.Pcs

namespace Go.Proofs.YtkflggojiiebeaaGreat.Pcs
open Go Go.RowKit Lw
set_option linter.unusedVariables false
set_option linter.unusedSimpArgs false
instance (B lo e L : Nat) : Decidable (GL B lo e L) := by unfold GL; infer_instance
end Go.Proofs.YtkflggojiiebeaaGreat.Pcs

namespace Go.Proofs.YtkflggojiiebeaaGreat.Pcs
open Go Go.RowKit Lw
set_option linter.unusedVariables false
set_option linter.unusedSimpArgs false
/-- Where the levels turn. -/
theorem pair_up : ∀ {l : List (Nat × Nat)}, (l.map (·.1)).Pairwise (· < ·) → ∀ (k : Nat) (p q : Nat × Nat), l[k]? = some p → l[k + 1]? = some q → p.1 < q.1
  | [], _, k, p, q, h, _ => by simp at h
  | x :: l, h, 0, p, q, h1, h2 => by
    simp at h1
    subst h1
    rw [List.map_cons, List.pairwise_cons] at h
    exact h.1 q.1 (List.mem_map.2 ⟨q, List.mem_of_getElem? (by simpa using h2), rfl⟩)
  | x :: l, h, k + 1, p, q, h1, h2 => by
    rw [List.map_cons, List.pairwise_cons] at h
    exact pair_up h.2 k p q (by simpa using h1) (by simpa using h2)
theorem pair_down : ∀ {l : List (Nat × Nat)}, (l.map (·.1)).Pairwise (· > ·) → ∀ (k : Nat) (p q : Nat × Nat), l[k]? = some p → l[k + 1]? = some q → q.1 < p.1
  | [], _, k, p, q, h, _ => by simp at h
  | x :: l, h, 0, p, q, h1, h2 => by
    simp at h1
    subst h1
    rw [List.map_cons, List.pairwise_cons] at h
    exact h.1 q.1 (List.mem_map.2 ⟨q, List.mem_of_getElem? (by simpa using h2), rfl⟩)
  | x :: l, h, k + 1, p, q, h1, h2 => by
    rw [List.map_cons, List.pairwise_cons] at h
    exact pair_down h.2 k p q (by simpa using h1) (by simpa using h2)
theorem Cov.turn {B e lo : Nat} {l : List (Nat × Nat)} (h : Cov B e lo l) (he : e ≤ 2 ^ B) : ∃ a : Nat, (∀ (k : Nat) (p q : Nat × Nat), k + 1 < a → l[k]? = some p → l[k + 1]? = some q → p.1 < q.1) ∧ (∀ (k : Nat) (p q : Nat × Nat), a ≤ k → l[k]? = some p → l[k + 1]? = some q → q.1 < p.1) := by
  obtain ⟨A, D, rfl, hA, hD⟩ := h.rise he
  refine ⟨A.length, fun k p q hk h1 h2 => ?_, fun k p q hk h1 h2 => ?_⟩
  · rw [List.getElem?_append_left (by omega)] at h1 h2
    exact pair_up hA k p q h1 h2
  · rw [List.getElem?_append_right (by omega)] at h1 h2
    rw [show k + 1 - A.length = (k - A.length) + 1 by omega] at h2
    exact pair_down hD _ p q h1 h2
end Go.Proofs.YtkflggojiiebeaaGreat.Pcs

namespace Go.Proofs.YtkflggojiiebeaaGreat.Pcs
open Go Go.RowKit Lw
set_option linter.unusedVariables false
set_option linter.unusedSimpArgs false
theorem boxs_frozen {w : World} {b : Nat} {e : TypeId} {vs : Array Value} (h : (boxT b e vs).I w) (i : Nat) : w.frozen? ⟨b, i, none⟩ = false := by
  have h1 : w.heap[b]? = some (.cells vs e (0, 0)) := h
  simp [World.frozen?, h1]
theorem boxs_set {w : World} {b : Nat} {e : TypeId} {vs : Array Value} (h : (boxT b e vs).I w) (i : Nat) (v : Value) : (boxT b e (vs.setIfInBounds i v)).I (w.setCell ⟨b, i, none⟩ v) := by
  have h1 : w.heap[b]? = some (.cells vs e (0, 0)) := h
  show (w.setCell ⟨b, i, none⟩ v).heap[b]? = _
  simp [World.setCell, Array.getElem?_modify, h1]
end Go.Proofs.YtkflggojiiebeaaGreat.Pcs

namespace Go.Proofs.YtkflggojiiebeaaGreat.Sk
open Go Go.RowKit Lw Grd Lin Con Shp
set_option linter.unusedVariables false
set_option linter.unusedSimpArgs false
/-- A sketch of the document at p, in the blocks F. -/
def DS (w : World) (p : Addr) (F : Nat → Prop) (c : Cfg) (l : Int) (L : List (List Int)) : Prop :=
  IsRight c ∧ c.Ok ∧ 0 ≤ l ∧ l ≤ c.bt ∧ ∃ (b : Nat) (gp : Addr) (G : Nat → Prop), p = ⟨b, 0, none⟩ ∧ w.heap[b]? = some (.cells #[.int .i64 c.bt, .int .i64 c.rw, .int .i64 c.wd, .int .i64 c.md, .int .u64 c.sd, .int .i64 l, .pointer (some gp)] 141 (0, 0)) ∧ DG w gp G (rws c) (wds c) L ∧ ¬ G b ∧ F = (fun k => k = b ∨ G k)
theorem DS.keep {w' : World} {H : Nat → Prop} {w : World} {p : Addr} {F : Nat → Prop} {c : Cfg} {l : Int} {L : List (List Int)} (h : DS w p F c l L) (hk : Kept H w w') (hf : ∀ k, F k → ¬ H k) : DS w' p F c l L := by
  obtain ⟨hr, hok, hl0, hl1, b, gp, G, rfl, hb, hg, hGb, rfl⟩ := h
  exact ⟨hr, hok, hl0, hl1, b, gp, G, rfl, hk.heap hb (hf b (.inl rfl)), (dgT gp G _ _ L).keep w w' H hg hk (fun k h => hf k (.inr h)), hGb, rfl⟩
theorem DS.lt {w : World} {p : Addr} {F : Nat → Prop} {c : Cfg} {l : Int} {L : List (List Int)} (h : DS w p F c l L) (k : Nat) (hk : F k) : k < w.heap.size := by
  obtain ⟨hr, hok, hl0, hl1, b, gp, G, rfl, hb, hg, hGb, rfl⟩ := h
  rcases hk with rfl | hk
  · exact size_of_heap hb
  · exact (dgT gp G _ _ L).lt w hg k hk
def dsT (p : Addr) (F : Nat → Prop) (c : Cfg) (l : Int) (L : List (List Int)) : Thing where
  I := fun w => DS w p F c l L
  F := F
  keep := fun w w' H h hk hf => h.keep hk hf
  lt := fun w h k hk => h.lt k hk
end Go.Proofs.YtkflggojiiebeaaGreat.Sk

namespace Go.Proofs.YtkflggojiiebeaaGreat.Sk
open Go Go.RowKit Lw Grd Lin Con Shp
set_option linter.unusedVariables false
set_option linter.unusedSimpArgs false
/-- A row of a grid of the document's is put in the place of another one. -/
theorem _root_.Go.Proofs.YtkflggojiiebeaaGreat.Grd.RG.setRow {w : World} {b gh cap : Nat} {R : List Row} (h : RG w b (.slice (some ⟨gh, 0, none⟩) R.length cap) R) {K : Nat} (hK : K < R.length) (g c : Nat) (zs : List Int) (hown : w.ownsRow 0 2 1 (rowHd (g, c, zs)) zs.length (zs.map (Value.int .i64))) (hf : ¬ RF b (.slice (some ⟨gh, 0, none⟩) R.length cap) R g) :
    RG (w.setCell ⟨gh, K, none⟩ (rowHd (g, c, zs))) b (.slice (some ⟨gh, 0, none⟩) (R.set K (g, c, zs)).length cap) (R.set K (g, c, zs)) := by
  have hgh : g ≠ gh := fun e => hf (.inr (.inl (by rw [e]; rfl)))
  have hgb : g ≠ b := fun e => hf (.inl e)
  have hgr : ∀ r ∈ R, r.1 ≠ g := fun r hr e => hf (.inr (.inr ⟨r, hr, e⟩))
  have hk : Kept (fun q => q = gh) w (w.setCell ⟨gh, K, none⟩ (rowHd (g, c, zs))) := Kept.set (F := fun q => q = gh) (Kept.refl _ w) (.inl rfl) K _
  have hbg : b ≠ gh := fun e => h.apart1 (by rw [e]; rfl)
  rw [List.length_set]
  refine ⟨hk.heap h.cell hbg, ?_, ?_, h.apart1, ?_, ?_⟩
  · have hs := (h.outer.stored (g := gh) (cap := cap) K (rowHd (g, c, zs))).1
    rw [List.length_set, List.map_set]
    exact hs
  · intro x hx
    rcases List.mem_or_eq_of_mem_set hx with hx | rfl
    · exact hk.own (h.rows x hx) (fun q hq e => (h.apart2 x hx).2 (by simp [rowHd, Value.ownBlock] at hq ⊢; omega))
    · exact hk.own hown (fun q hq e => hgh (by simp [rowHd, Value.ownBlock] at hq; omega))
  · intro x hx
    rcases List.mem_or_eq_of_mem_set hx with hx | rfl
    · exact h.apart2 x hx
    · exact ⟨hgb, fun e => hgh (by simp [Value.ownBlock] at e; exact e.symm)⟩
  · rw [List.map_set]
    have hnd := h.nd
    refine List.pairwise_iff_getElem.2 fun i j hi hj hij => ?_
    have hi2 : i < (R.map (·.1)).length := by simpa using hi
    have hj2 : j < (R.map (·.1)).length := by simpa using hj
    have hne := List.pairwise_iff_getElem.1 hnd i j hi2 hj2 hij
    rw [List.getElem_set, List.getElem_set]
    by_cases h1 : K = i
    · rw [if_pos h1, if_neg (by omega)]
      intro e
      have hm := List.getElem_mem (l := R) (n := j) (by simpa using hj2)
      exact hgr _ hm (by simpa using e.symm)
    · rw [if_neg h1]
      by_cases h2 : K = j
      · rw [if_pos h2]
        intro e
        have hm := List.getElem_mem (l := R) (n := i) (by simpa using hi2)
        exact hgr _ hm (by simpa using e)
      · rw [if_neg h2]
        exact hne
end Go.Proofs.YtkflggojiiebeaaGreat.Sk

namespace Go.Proofs.YtkflggojiiebeaaGreat.Lev
open Go Go.RowKit Lw Grd Lin Con Shp Sk Exa
set_option linter.unusedVariables false
set_option linter.unusedSimpArgs false
/-- A level of the document at p: its two pointers, and the thing that one of them leads to. -/
def DL (v0 v1 : Value) (t : Thing) (w : World) (p : Addr) (F : Nat → Prop) : Prop := ∃ b : Nat, p = ⟨b, 0, none⟩ ∧ w.heap[b]? = some (.cells #[v0, v1] 136 (0, 0)) ∧ t.I w ∧ ¬ t.F b ∧ F = (fun k => k = b ∨ t.F k)
theorem DL.keep {v0 v1 : Value} {t : Thing} {w w' : World} {p : Addr} {F H : Nat → Prop} (h : DL v0 v1 t w p F) (hk : Kept H w w') (hf : ∀ k, F k → ¬ H k) : DL v0 v1 t w' p F := by
  obtain ⟨b, rfl, hb, ht, hn, rfl⟩ := h
  exact ⟨b, rfl, hk.heap hb (hf b (.inl rfl)), t.keep w w' H ht hk (fun k h => hf k (.inr h)), hn, rfl⟩
theorem DL.lt {v0 v1 : Value} {t : Thing} {w : World} {p : Addr} {F : Nat → Prop} (h : DL v0 v1 t w p F) (k : Nat) (hk : F k) : k < w.heap.size := by
  obtain ⟨b, rfl, hb, ht, hn, rfl⟩ := h
  rcases hk with rfl | hk
  · exact size_of_heap hb
  · exact t.lt w ht k hk
/-- An array of the document, as a level. -/
def DLA (w : World) (p : Addr) (F : Nat → Prop) (c : Cfg) (l : Int) (L : List Int) : Prop := ∃ (a : Addr) (G : Nat → Prop), DL (.pointer (some a)) (.pointer none) (daT a G c l L) w p F
/-- A sketch of the document, as a level. -/
def DLS (w : World) (p : Addr) (F : Nat → Prop) (c : Cfg) (l : Int) (L : List (List Int)) : Prop := ∃ (a : Addr) (G : Nat → Prop), DL (.pointer none) (.pointer (some a)) (dsT a G c l L) w p F
def dlAT (p : Addr) (F : Nat → Prop) (c : Cfg) (l : Int) (L : List Int) : Thing where
  I := fun w => DLA w p F c l L
  F := F
  keep := fun w w' H h hk hf => by
    obtain ⟨a, G, h⟩ := h
    exact ⟨a, G, h.keep hk hf⟩
  lt := fun w h k hk => by
    obtain ⟨a, G, h⟩ := h
    exact h.lt k hk
def dlST (p : Addr) (F : Nat → Prop) (c : Cfg) (l : Int) (L : List (List Int)) : Thing where
  I := fun w => DLS w p F c l L
  F := F
  keep := fun w w' H h hk hf => by
    obtain ⟨a, G, h⟩ := h
    exact ⟨a, G, h.keep hk hf⟩
  lt := fun w h k hk => by
    obtain ⟨a, G, h⟩ := h
    exact h.lt k hk
end Go.Proofs.YtkflggojiiebeaaGreat.Lev

namespace Go.Proofs.YtkflggojiiebeaaGreat.Stk
open Go Go.RowKit Lw Grd Lin Con Shp Sk Exa Lev
set_option linter.unusedVariables false
set_option linter.unusedSimpArgs false
/-- What a level has: an array's numbers, or a sketch's cells. -/
inductive LS where
  | A (L : List Int)
  | S (L : List (List Int))
def LS.fl : LS → List Int
  | .A L => L
  | .S L => L.flatten
def LS.ar : LS → Bool
  | .A _ => true
  | .S _ => false
def lsZero (c : Cfg) (l : Int) : LS := if exactB c l = true then .A (List.replicate (keys c l).toNat 0) else .S (zerosL (rws c) (wds c))
def lsCode (c : Cfg) (l : Int) (st : LS) (k d : Int) : Int := match st with
  | .A L => exCode c.md L k d
  | .S L => upCode c l L k d
def lsRes (c : Cfg) (l : Int) (st : LS) (k d : Int) : LS := match st with
  | .A L => .A (exRes c.md L k d)
  | .S L => .S (upRes c l L k d)
def lsPtV (c : Cfg) (l : Int) (st : LS) (k : Int) : Int := match st with
  | .A L => Exa.ptV L k
  | .S L => ptVal c l L k
def lsPtC (c : Cfg) (l : Int) (st : LS) (k : Int) : Int := match st with
  | .A L => Exa.ptC L k
  | .S _ => ptCode c l k
/-- The document's level. -/
def DLV (w : World) (p : Addr) (F : Nat → Prop) (c : Cfg) (l : Int) (st : LS) : Prop := exactB c l = st.ar ∧ match st with
  | .A L => DLA w p F c l L
  | .S L => DLS w p F c l L
theorem DLV.keep {w w' : World} {p : Addr} {F H : Nat → Prop} {c : Cfg} {l : Int} {st : LS} (h : DLV w p F c l st) (hk : Kept H w w') (hf : ∀ k, F k → ¬ H k) : DLV w' p F c l st := by
  refine ⟨h.1, ?_⟩
  cases st with
  | A L => exact (dlAT p F c l L).keep w w' H h.2 hk hf
  | S L => exact (dlST p F c l L).keep w w' H h.2 hk hf
/-- The code's level, as the value that an interface holds. -/
def ELV (w : World) (v : Value) (F : Nat → Prop) (c : Cfg) (l : Int) (st : LS) : Prop := exactB c l = st.ar ∧ match st with
  | .A L => ∃ p, v = .iface 173 (.pointer (some p)) ∧ EX w p F c l L
  | .S L => ∃ p, v = .iface 176 (.pointer (some p)) ∧ SK w p F c l L
theorem ELV.keep {w w' : World} {v : Value} {F H : Nat → Prop} {c : Cfg} {l : Int} {st : LS} (h : ELV w v F c l st) (hk : Kept H w w') (hf : ∀ k, F k → ¬ H k) : ELV w' v F c l st := by
  refine ⟨h.1, ?_⟩
  cases st with
  | A L =>
    obtain ⟨p, e, h2⟩ := h.2
    exact ⟨p, e, h2.keep hk hf⟩
  | S L =>
    obtain ⟨p, e, h2⟩ := h.2
    exact ⟨p, e, (skT p F c l L).keep w w' H h2 hk hf⟩
def elvT (v : Value) (F : Nat → Prop) (c : Cfg) (l : Int) (st : LS) : Thing where
  I := fun w => ELV w v F c l st
  F := F
  keep := fun w w' H h hk hf => h.keep hk hf
  lt := fun w h k hk => by
    cases st with
    | A L =>
      obtain ⟨p, e, h2⟩ := h.2
      exact h2.lt k hk
    | S L =>
      obtain ⟨p, e, h2⟩ := h.2
      exact (skT p F c l L).lt w h2 k hk
theorem ev_new (c : Cfg) (l : Int) (w : World) (h : c.Ok) (hr : IsRight c) (l0 : 0 ≤ l) (l1 : l ≤ c.bt) :
    Calls Tryz.prog 44 #[.agg #[.int .i64 c.bt, .int .i64 c.rw, .int .i64 c.wd, .int .i64 c.md, .int .u64 c.sd], .int .i64 l] w fun e w' => ∃ (v : Value) (F : Nat → Prop), e = .returned (.tuple #[v, .int .i64 0]) ∧ ELV w' v F c l (lsZero c l) ∧ (∀ k, F k → w.heap.size ≤ k) ∧ Below w.heap.size w w' := by
  have hb := hr.2.1
  have hb1 := hr.1
  have hk : 1 ≤ keys c l := keys_pos.2 ⟨hr, l0, l1⟩
  unfold lsZero
  cases hx : exactB c l with
  | true =>
    rw [if_pos rfl]
    exact (vnew_A c l w h (by omega) (by omega) hx).mono (fun e w' ⟨p, F, h1, h2, h3, h4⟩ => ⟨_, F, h1, ⟨hx, p, rfl, h2⟩, h3, h4⟩)
  | false =>
    rw [if_neg (by simp)]
    exact (vnew_S c l w h (by omega) (by omega) hk hx).mono (fun e w' ⟨p, F, h1, h2, h3, h4⟩ => ⟨_, F, h1, ⟨hx, p, rfl, h2⟩, h3, h4⟩)
end Go.Proofs.YtkflggojiiebeaaGreat.Stk

namespace Go.Proofs.YtkflggojiiebeaaGreat.Stk
open Go Go.RowKit Lw Grd Lin Con Shp Sk Exa Lev
set_option linter.unusedVariables false
theorem set_split {α : Type} {ts : List α} {j : Nat} {t : α} (h : ts[j]? = some t) : ts = ts.take j ++ t :: ts.drop (j + 1) := by
  obtain ⟨h1, h2⟩ := List.getElem?_eq_some_iff.1 h
  rw [← h2]
  exact (List.take_append_drop j ts).symm.trans (by rw [List.drop_eq_getElem_cons h1])
theorem set_at {α : Type} {ts : List α} {j : Nat} {t t' : α} (h : ts[j]? = some t) : ts.set j t' = ts.take j ++ t' :: ts.drop (j + 1) := by
  obtain ⟨h1, h2⟩ := List.getElem?_eq_some_iff.1 h
  exact List.set_eq_take_append_cons_drop.trans (by rw [if_pos h1])
/-- One of the things of a row is turned by a call. -/
theorem Hold.set {F0 : Nat → Prop} {w0 w w' : World} {pre ts post : List Thing} {j : Nat} {t : Thing} (h : Hold F0 w0 w (pre ++ (ts ++ post))) (hj : ts[j]? = some t) (t' : Thing) (ht : t'.I w') (hk : Kept t.F w w') (hF : ∀ k, t'.F k → t.F k ∨ w.heap.size ≤ k) : Hold F0 w0 w' (pre ++ (ts.set j t' ++ post)) := by
  have e1 : pre ++ (ts ++ post) = (pre ++ ts.take j) ++ t :: (ts.drop (j + 1) ++ post) := by
    conv => lhs; rw [set_split hj]
    simp
  have e2 : pre ++ (ts.set j t' ++ post) = (pre ++ ts.take j) ++ t' :: (ts.drop (j + 1) ++ post) := by
    rw [set_at hj]
    simp
  rw [e1] at h
  rw [e2]
  exact h.turn t' ht hk hF
theorem Have.set {w0 w w' : World} {pre ts post : List Thing} {j : Nat} {t : Thing} (h : Have w0 w (pre ++ (ts ++ post))) (hj : ts[j]? = some t) (t' : Thing) (ht : t'.I w') (hk : Kept t.F w w') (hF : ∀ k, t'.F k → t.F k ∨ w.heap.size ≤ k) : Have w0 w' (pre ++ (ts.set j t' ++ post)) := by
  have e1 : pre ++ (ts ++ post) = (pre ++ ts.take j) ++ t :: (ts.drop (j + 1) ++ post) := by
    conv => lhs; rw [set_split hj]
    simp
  have e2 : pre ++ (ts.set j t' ++ post) = (pre ++ ts.take j) ++ t' :: (ts.drop (j + 1) ++ post) := by
    rw [set_at hj]
    simp
  rw [e1] at h
  rw [e2]
  exact Have.turnX t' ht hk hF h
/-- A row of levels, each made by mk of its value, its blocks, the config, its number and what it has. -/
structure LRow (mk : Value → (Nat → Prop) → Cfg → Int → LS → Thing) (c : Cfg) (vals : List Value) (ts : List Thing) (sts : List LS) : Prop where
  lv : vals.length = sts.length
  lt : ts.length = sts.length
  each : ∀ (j : Nat) (st : LS), sts[j]? = some st → ∃ v Q, vals[j]? = some v ∧ ts[j]? = some (mk v Q c (j : Int) st)
theorem LRow.nil (mk : Value → (Nat → Prop) → Cfg → Int → LS → Thing) (c : Cfg) : LRow mk c [] [] [] := ⟨rfl, rfl, fun j st h => by simp at h⟩
theorem LRow.snoc {mk : Value → (Nat → Prop) → Cfg → Int → LS → Thing} {c : Cfg} {vals : List Value} {ts : List Thing} {sts : List LS} (h : LRow mk c vals ts sts) {n : Nat} (hn : sts.length = n) (v : Value) (Q : Nat → Prop) (st : LS) : LRow mk c (vals ++ [v]) (ts ++ [mk v Q c (n : Int) st]) (sts ++ [st]) := by
  refine ⟨by simp [h.lv], by simp [h.lt], fun j s hj => ?_⟩
  rcases Nat.lt_or_ge j n with h1 | h1
  · rw [List.getElem?_append_left (by omega)] at hj
    obtain ⟨v2, Q2, h2, h3⟩ := h.each j s hj
    exact ⟨v2, Q2, by rw [List.getElem?_append_left (by rw [h.lv]; omega)]; exact h2, by rw [List.getElem?_append_left (by rw [h.lt]; omega)]; exact h3⟩
  · rw [List.getElem?_append_right (by omega), hn] at hj
    have e : j = n := by
      rcases Nat.eq_zero_or_pos (j - n) with h2 | h2
      · omega
      · rw [List.getElem?_eq_none (by simp; omega)] at hj
        cases hj
    subst e
    rw [Nat.sub_self] at hj
    simp at hj
    subst hj
    exact ⟨v, Q, by rw [List.getElem?_append_right (by rw [h.lv]; omega), h.lv, hn]; simp, by rw [List.getElem?_append_right (by rw [h.lt]; omega), h.lt, hn]; simp⟩
theorem LRow.put {mk : Value → (Nat → Prop) → Cfg → Int → LS → Thing} {c : Cfg} {vals : List Value} {ts : List Thing} {sts : List LS} (h : LRow mk c vals ts sts) {j : Nat} {v : Value} (hv : vals[j]? = some v) (Q : Nat → Prop) (st : LS) : LRow mk c vals (ts.set j (mk v Q c (j : Int) st)) (sts.set j st) := by
  have hj := (List.getElem?_eq_some_iff.1 hv).1
  refine ⟨by simp [h.lv], by simp [h.lt], fun i s hi => ?_⟩
  rw [List.getElem?_set] at hi
  by_cases hij : j = i
  · subst hij
    rw [if_pos rfl, if_pos (by rw [← h.lv]; exact hj)] at hi
    injection hi with hi
    subst hi
    exact ⟨v, Q, hv, by rw [List.getElem?_set, if_pos rfl, if_pos (by rw [h.lt, ← h.lv]; exact hj)]⟩
  · rw [if_neg hij] at hi
    obtain ⟨v2, Q2, h2, h3⟩ := h.each i s hi
    exact ⟨v2, Q2, h2, by rw [List.getElem?_set, if_neg hij]; exact h3⟩
theorem LRow.at {mk : Value → (Nat → Prop) → Cfg → Int → LS → Thing} {c : Cfg} {vals : List Value} {ts : List Thing} {sts : List LS} (h : LRow mk c vals ts sts) {j : Nat} (hj : j < sts.length) : ∃ st v Q, sts[j]? = some st ∧ vals[j]? = some v ∧ ts[j]? = some (mk v Q c (j : Int) st) := by
  obtain ⟨v, Q, h1, h2⟩ := h.each j _ (List.getElem?_eq_getElem hj)
  exact ⟨_, v, Q, List.getElem?_eq_getElem hj, h1, h2⟩
/-- A row that grows: a slice of one's own, by its header. -/
def ownT (B : Nat) (e : TypeId) (hdr : Value) (vals : List Value) : Thing where
  I := fun w => w.ownsRow B e 1 hdr vals.length vals
  F := fun k => hdr.ownBlock = some k
  keep := fun w w' H h hk hf => hk.own h (fun q hq => hf q hq)
  lt := fun w h k hk => own_lt h hk
end Go.Proofs.YtkflggojiiebeaaGreat.Stk

namespace Go.Proofs.YtkflggojiiebeaaGreat.Stk
open Go Go.RowKit Lw Grd Lin Con Shp Sk Exa Lev
set_option linter.unusedVariables false
/-- Each block of F holds cells. -/
def Cel (F : Nat → Prop) (w : World) : Prop := ∀ k, F k → ∃ o : Obj, w.heap[k]? = some o ∧ o.isCells = true
theorem cel_mid {w : World} {g i : Nat} {Z : List Int} (h : Ord.Mid w g i Z) : ∃ o : Obj, w.heap[g]? = some o ∧ o.isCells = true := by
  obtain ⟨vs, e, h1, h2⟩ := h
  exact ⟨_, h1, rfl⟩
theorem cel_pg {w : World} {p : Addr} {F : Nat → Prop} {m n : Nat} {L : List (List Int)} (h : PG w p F m n L) : Cel F w := by
  obtain ⟨hd, b, g, cap, rfl, hb, hm, h1, h2, h3, rfl⟩ := h
  rintro k (rfl | rfl)
  · exact ⟨_, hb, rfl⟩
  · exact cel_mid hm
theorem cel_ex {w : World} {p : Addr} {F : Nat → Prop} {c : Cfg} {l : Int} {L : List Int} (h : EX w p F c l L) : Cel F w := by
  obtain ⟨hr, hok, hl0, hl1, hlk, hn1, hn8, b, gp, G, rfl, hb, hg, hGb, rfl⟩ := h
  rintro k (rfl | hk)
  · exact ⟨_, hb, rfl⟩
  · exact cel_pg hg k hk
theorem cel_sk {w : World} {p : Addr} {F : Nat → Prop} {c : Cfg} {l : Int} {L : List (List Int)} (h : SK w p F c l L) : Cel F w := by
  obtain ⟨hr, hok, hl0, hl1, b, gp, G, rfl, hb, hg, hGb, rfl⟩ := h
  rintro k (rfl | hk)
  · exact ⟨_, hb, rfl⟩
  · exact cel_pg hg k hk
theorem cel_elv {w : World} {v : Value} {F : Nat → Prop} {c : Cfg} {l : Int} {st : LS} (h : ELV w v F c l st) : Cel F w := by
  cases st with
  | A L =>
    obtain ⟨p, e, h2⟩ := h.2
    exact cel_ex h2
  | S L =>
    obtain ⟨p, e, h2⟩ := h.2
    exact cel_sk h2
theorem cel_box {w : World} {b : Nat} {e : TypeId} {vs : Array Value} (h : (boxT b e vs).I w) : Cel (boxT b e vs).F w := by
  rintro k hk
  have hk2 : k = b := hk
  subst hk2
  exact ⟨_, h, rfl⟩
theorem cel_own {w : World} {B : Nat} {e : TypeId} {hdr : Value} {vals : List Value} (h : (ownT B e hdr vals).I w) : Cel (ownT B e hdr vals).F w := by
  rintro k hk
  have h2 : w.ownsRow B e 1 hdr vals.length vals := h
  have hk2 : hdr.ownBlock = some k := hk
  rcases h2.2 with h0 | ⟨g, cap, cur, rfl, hb, hg, h3⟩
  · rw [h0.1] at hk2
    cases hk2
  · have h4 : some g = some k := hk2
    injection h4 with h4
    subst h4
    exact ⟨_, hg, rfl⟩
/-- A block that is no cells is none of a thing's. -/
theorem Thing.turned {t : Thing} {w w' : World} {row : Option Nat} (h : t.I w) (hc : Cel t.F w) (hg : w.grownBy w' row) (hr : ∀ r, row = some r → ∃ o : Obj, w.heap[r]? = some o ∧ o.isCells = false) : t.I w' ∧ Cel t.F w' := by
  have hne : ∀ k, t.F k → ¬ row = some k := fun k hk e => by
    obtain ⟨o, h1, h2⟩ := hc k hk
    obtain ⟨o', h3, h4⟩ := hr k e
    rw [h1] at h3
    injection h3 with h3
    subst h3
    rw [h2] at h4
    cases h4
  refine ⟨t.keep w w' (fun k => row = some k) h ((Kept.refl _ w).grown hg (fun q e => .inl e)) hne, fun k hk => ?_⟩
  obtain ⟨o, h1, h2⟩ := hc k hk
  exact ⟨o, (hg.block k (t.lt w h k hk) (fun e => hne k hk e.symm)).trans h1, h2⟩
/-- Things held, each in blocks that hold cells. -/
def HoldC (F0 : Nat → Prop) (w0 w : World) (ts : List Thing) : Prop := Hold F0 w0 w ts ∧ ∀ t ∈ ts, Cel t.F w
theorem HoldC.own {β : Type} {F0 : Nat → Prop} {w0 : World} {B : Nat} (hB : w0.heap.size ≤ B) (ts : β → List Thing) : OwnFrom B (fun s W => HoldC F0 w0 W (ts s)) := by
  intro s W W' row h hg hr
  have hr2 : ∀ r, row = some r → ∃ o : Obj, W.heap[r]? = some o ∧ o.isCells = false := fun r e => (hr r e).2
  refine ⟨⟨Kept.grown h.1.1 hg (fun q e => .inr (Nat.le_trans hB (hr q e).1)), fun t ht => ⟨(Thing.turned (h.1.2.1 t ht).1 (h.2 t ht) hg hr2).1, (h.1.2.1 t ht).2⟩, h.1.2.2⟩, fun t ht => (Thing.turned (h.1.2.1 t ht).1 (h.2 t ht) hg hr2).2⟩
theorem HoldC.up {F0 : Nat → Prop} {w0 w w' : World} {ts : List Thing} (h : HoldC F0 w0 w ts) (hb : Below w.heap.size w w') : HoldC F0 w0 w' ts := by
  refine ⟨h.1.up hb, fun t ht k hk => ?_⟩
  obtain ⟨o, h1, h2⟩ := h.2 t ht k hk
  exact ⟨o, (hb.5 k (t.lt w (h.1.2.1 t ht).1 k hk)).trans h1, h2⟩
theorem HoldC.i {F0 : Nat → Prop} {w0 w : World} {ts : List Thing} (h : HoldC F0 w0 w ts) {t : Thing} (ht : t ∈ ts) : t.I w := h.1.i ht
theorem HoldC.push {F0 : Nat → Prop} {w0 w w' : World} {ts : List Thing} (h : HoldC F0 w0 w ts) (t : Thing) (hb : Below w.heap.size w w') (ht : t.I w') (hn : ∀ k, t.F k → w.heap.size ≤ k) (hc : Cel t.F w') : HoldC F0 w0 w' (t :: ts) := by
  refine ⟨h.1.push t hb ht hn, fun u hu => ?_⟩
  rcases List.mem_cons.1 hu with rfl | hu
  · exact hc
  · exact (h.up hb).2 u hu
/-- One of them is turned by a call. -/
theorem HoldC.turn {F0 : Nat → Prop} {w0 w w' : World} {fs : List Thing} {t : Thing} {ts : List Thing} (h : HoldC F0 w0 w (fs ++ t :: ts)) (t' : Thing) (ht : t'.I w') (hk : Kept t.F w w') (hF : ∀ k, t'.F k → t.F k ∨ w.heap.size ≤ k) (hc : Cel t'.F w') : HoldC F0 w0 w' (fs ++ t' :: ts) := by
  refine ⟨h.1.turn t' ht hk hF, fun u hu => ?_⟩
  have hap := Asun.append.1 h.1.2.2
  have hoth : u ∈ fs ∨ u ∈ ts → Cel u.F w' := by
    intro hu2 k h1
    have hin : u ∈ fs ++ t :: ts := by
      rcases hu2 with g | g <;> simp [g]
    obtain ⟨o, h2, h3⟩ := h.2 u hin k h1
    refine ⟨o, (hk.block k (u.lt w (h.i hin) k h1) (fun h4 => ?_)).trans h2, h3⟩
    rcases hu2 with g | g
    · exact hap.2.2 u g t (by simp) k h1 h4
    · exact hap.2.1.1 u g k h4 h1
  rcases List.mem_append.1 hu with g | g
  · exact hoth (.inl g)
  · rcases List.mem_cons.1 g with rfl | g
    · exact hc
    · exact hoth (.inr g)
theorem HoldC.set {F0 : Nat → Prop} {w0 w w' : World} {pre ts post : List Thing} {j : Nat} {t : Thing} (h : HoldC F0 w0 w (pre ++ (ts ++ post))) (hj : ts[j]? = some t) (t' : Thing) (ht : t'.I w') (hk : Kept t.F w w') (hF : ∀ k, t'.F k → t.F k ∨ w.heap.size ≤ k) (hc : Cel t'.F w') : HoldC F0 w0 w' (pre ++ (ts.set j t' ++ post)) := by
  have e1 := set_split hj
  have e2 := set_at (t' := t') hj
  rw [e2]
  rw [e1] at h
  have e3 : ∀ t : Thing, pre ++ ((ts.take j ++ t :: ts.drop (j + 1)) ++ post) = (pre ++ ts.take j) ++ t :: (ts.drop (j + 1) ++ post) := by simp
  rw [e3] at h ⊢
  exact h.turn t' ht hk hF hc
/-- What is turned is apart from what is beside it. -/
theorem HoldC.apart {F0 : Nat → Prop} {w0 w : World} {us gs ts : List Thing} (h : HoldC F0 w0 w (us ++ (gs ++ ts))) {t : Thing} (ht : t ∈ ts) {u : Thing} (hu : u ∈ gs) {k : Nat} (hk : u.F k) : ¬ t.F k :=
  ((Asun.append.1 (Asun.append.1 h.1.2.2).2.1).2.2 u hu t ht k hk)
/-- What a call that turns a thing leaves: all that is no cells. -/
theorem others_of {F : Nat → Prop} {w w' : World} (hk : Kept F w w') (hc : Cel F w) : KeepsOthers w w' :=
  ⟨hk.size, fun k o h1 h2 => by
    refine (hk.block k (size_of_heap h1) (fun h3 => ?_)).trans h1
    obtain ⟨o', h4, h5⟩ := hc k h3
    rw [h1] at h4
    injection h4 with h4
    subst h4
    rw [h2] at h5
    cases h5⟩
/-- What a round over levels keeps: the blocks that the iterator reads. -/
structure KeptG (G : Nat → Prop) (w w' : World) : Prop where
  size : w.heap.size ≤ w'.heap.size
  block : ∀ k, G k → w'.heap[k]? = w.heap[k]?
theorem KeptG.refl (G : Nat → Prop) (w : World) : KeptG G w w := ⟨Nat.le_refl _, fun _ _ => rfl⟩
theorem KeptG.trans {G : Nat → Prop} {x y z : World} (h : KeptG G x y) (k : KeptG G y z) : KeptG G x z := ⟨Nat.le_trans h.size k.size, fun i h1 => (k.block i h1).trans (h.block i h1)⟩
theorem KeptG.of_below {G : Nat → Prop} {w w' : World} (hG : ∀ k, G k → k < w.heap.size) (h : Below w.heap.size w w') : KeptG G w w' := ⟨h.4, fun k hk => h.5 k (hG k hk)⟩
theorem KeptG.of_kept {G F : Nat → Prop} {w w' : World} (hG : ∀ k, G k → k < w.heap.size) (h : Kept F w w') (hf : ∀ k, G k → ¬ F k) : KeptG G w w' := ⟨h.size, fun k hk => h.block k (hG k hk) (hf k hk)⟩
theorem KeptG.put {m : Nat} {G : Nat → Prop} (hm : ∀ k, G k → k < m) (W : World) (l : Nat) (o o' : Obj) (hl : m ≤ l) (h1 : W.heap[l]? = some o) (h2 : o.isCells = false) (h3 : o.isWalk = false) : KeptG G W (W.putObj l o') :=
  ⟨by simp, fun k hk => World.putObj_heap_other (by have := hm k hk; omega)⟩
theorem KeptG.cell {G : Nat → Prop} {w w' : World} (h : KeptG G w w') {a : Addr} {v : Value} (hc : w.cell? a = some v) (ha : G a.block) : w'.cell? a = some v := by
  rw [World.cell?_of_block (h.block a.block ha), hc]
end Go.Proofs.YtkflggojiiebeaaGreat.Stk

namespace Go.Proofs.YtkflggojiiebeaaGreat.Stk
open Go Go.RowKit Lw Grd Lin Con Shp Sk Exa Lev
set_option linter.unusedVariables false
/-- The key to which a key belongs at a level. -/
def upK (k : Int) (n : Nat) : Int := k / ((2 ^ n : Nat) : Int)
/-- The first error of all levels from the n-th on. -/
def ers (c : Cfg) (k d : Int) : Nat → List LS → Int
  | _, [] => 0
  | n, st :: sts => if lsCode c n st (upK k n) d = 0 then ers c k d (n + 1) sts else lsCode c n st (upK k n) d
/-- All levels from the n-th on, updated. -/
def rss (c : Cfg) (k d : Int) : Nat → List LS → List LS
  | _, [] => []
  | n, st :: sts => lsRes c n st (upK k n) d :: rss c k d (n + 1) sts
theorem rss_len (c : Cfg) (k d : Int) : ∀ (n : Nat) (sts : List LS), (rss c k d n sts).length = sts.length
  | _, [] => rfl
  | n, st :: sts => by
    show (rss c k d (n + 1) sts).length + 1 = sts.length + 1
    rw [rss_len c k d (n + 1) sts]
theorem rss_get (c : Cfg) (k d : Int) : ∀ (n : Nat) (sts : List LS) (j : Nat) (st : LS), sts[j]? = some st → (rss c k d n sts)[j]? = some (lsRes c ((n + j : Nat) : Int) st (upK k (n + j)) d)
  | n, [], j, st, h => by simp at h
  | n, s :: sts, 0, st, h => by
    simp at h
    subst h
    rfl
  | n, s :: sts, j + 1, st, h => by
    have ih := rss_get c k d (n + 1) sts j st (by simpa using h)
    have e : n + 1 + j = n + (j + 1) := by omega
    rw [e] at ih
    simpa [rss] using ih
theorem ers_first (c : Cfg) (k d : Int) : ∀ (n : Nat) (sts : List LS) (j : Nat) (st : LS), (∀ (i : Nat) (s : LS), i < j → sts[i]? = some s → lsCode c ((n + i : Nat) : Int) s (upK k (n + i)) d = 0) → sts[j]? = some st → ¬ lsCode c ((n + j : Nat) : Int) st (upK k (n + j)) d = 0 → ers c k d n sts = lsCode c ((n + j : Nat) : Int) st (upK k (n + j)) d
  | n, [], j, st, _, h, _ => by simp at h
  | n, s :: sts, 0, st, _, h, hne => by
    simp at h
    subst h
    exact if_neg hne
  | n, s :: sts, j + 1, st, ha, h, hne => by
    have h0 : lsCode c (n : Int) s (upK k n) d = 0 := ha 0 s (by omega) rfl
    have e : n + 1 + j = n + (j + 1) := by omega
    have ih := ers_first c k d (n + 1) sts j st (fun i q hi hq => by
      have h1 := ha (i + 1) q (by omega) (by simpa using hq)
      have e2 : n + 1 + i = n + (i + 1) := by omega
      rw [e2]
      exact h1) (by simpa using h) (by rw [e]; exact hne)
    rw [e] at ih
    show (if lsCode c n s (upK k n) d = 0 then ers c k d (n + 1) sts else lsCode c n s (upK k n) d) = _
    rw [if_pos h0]
    exact ih
theorem ers_none (c : Cfg) (k d : Int) : ∀ (n : Nat) (sts : List LS), (∀ (i : Nat) (s : LS), sts[i]? = some s → lsCode c ((n + i : Nat) : Int) s (upK k (n + i)) d = 0) → ers c k d n sts = 0
  | n, [], _ => rfl
  | n, s :: sts, ha => by
    have h0 : lsCode c (n : Int) s (upK k n) d = 0 := ha 0 s rfl
    show (if lsCode c n s (upK k n) d = 0 then ers c k d (n + 1) sts else lsCode c n s (upK k n) d) = _
    rw [if_pos h0]
    refine ers_none c k d (n + 1) sts (fun i q hq => ?_)
    have h1 := ha (i + 1) q (by simpa using hq)
    have e2 : n + 1 + i = n + (i + 1) := by omega
    rw [e2]
    exact h1
theorem ers_ok (c : Cfg) (k d : Int) : ∀ (n : Nat) (sts : List LS), ers c k d n sts = 0 → ∀ (i : Nat) (s : LS), sts[i]? = some s → lsCode c ((n + i : Nat) : Int) s (upK k (n + i)) d = 0
  | n, [], _, i, s, h => by simp at h
  | n, s :: sts, he, i, q, h => by
    by_cases h0 : lsCode c n s (upK k n) d = 0
    · have he2 : ers c k d (n + 1) sts = 0 := by
        have h1 : ers c k d n (s :: sts) = ers c k d (n + 1) sts := if_pos h0
        rw [← h1]
        exact he
      cases i with
      | zero =>
        simp at h
        subst h
        exact h0
      | succ i =>
        have ih := ers_ok c k d (n + 1) sts he2 i q (by simpa using h)
        have e2 : n + 1 + i = n + (i + 1) := by omega
        rw [e2] at ih
        exact ih
    · have h1 : ers c k d n (s :: sts) = lsCode c n s (upK k n) d := if_neg h0
      rw [he] at h1
      exact absurd h1.symm h0
/-- What Update answers, and what it leaves. -/
def sucode (c : Cfg) (sts : List LS) (k d : Int) : Int := if keys c 0 ≤ k then 2 else if c.md = 2 ∧ d < 0 then 3 else ers c k d 0 sts
def sures (c : Cfg) (sts : List LS) (k d : Int) : List LS := if sucode c sts k d = 0 then rss c k d 0 sts else sts
/-- Updates as they reach a level. -/
def upN (us : Ups) (n : Nat) : Ups := us.map (fun u => (upK u.1 n, u.2))
theorem upN_app (us vs : Ups) (n : Nat) : upN (us ++ vs) n = upN us n ++ upN vs n := List.map_append
theorem upN_len (us : Ups) (n : Nat) : (upN us n).length = us.length := List.length_map _
theorem upK_keys {c : Cfg} (hr : IsRight c) {k : Int} {n : Nat} (h0 : 0 ≤ k) (hk : k < keys c 0) (hn : (n : Int) ≤ c.bt) : 0 ≤ upK k n ∧ upK k n < keys c n := by
  have hp : (0 : Int) < ((2 ^ n : Nat) : Int) := by
    have := Nat.one_le_two_pow (n := n)
    omega
  have hb := hr.1
  have e0 : keys c 0 = 2 ^ (c.bt - 0).toNat := keys_yes hr (by omega) (by omega)
  have e1 : keys c n = 2 ^ (c.bt - n).toNat := keys_yes hr (by omega) hn
  refine ⟨Int.ediv_nonneg h0 (Int.le_of_lt hp), ?_⟩
  unfold upK
  rw [Int.ediv_lt_iff_lt_mul hp, e1]
  have e2 : (2 : Int) ^ (c.bt - n).toNat * ((2 ^ n : Nat) : Int) = 2 ^ (c.bt - 0).toNat := by
    have e3 : (c.bt - 0).toNat = (c.bt - n).toNat + n := by omega
    rw [e3, Int.pow_add]
    simp
  rw [e2, ← e0]
  exact hk
theorem upN_in {c : Cfg} (hr : IsRight c) {us : Ups} (h : UpsIn c 0 us) {n : Nat} (hn : (n : Int) ≤ c.bt) : UpsIn c n (upN us n) := by
  refine ⟨fun u hu => ?_, fun hm u hu => ?_⟩
  · obtain ⟨v, hv, rfl⟩ := List.mem_map.1 hu
    have h1 := h.1 v hv
    have h2 := upK_keys hr h1.1 h1.2.1 hn
    exact ⟨h2.1, h2.2, h1.2.2⟩
  · obtain ⟨v, hv, rfl⟩ := List.mem_map.1 hu
    exact h.2 hm v hv
/-- A level that was fed. -/
def stOf (c : Cfg) (us : Ups) (n : Nat) : LS := if exactB c n = true then .A (sums (keys c n).toNat (upN us n)) else .S (cells c n (upN us n))
theorem stOf_nil (c : Cfg) (n : Nat) : stOf c [] n = lsZero c n := by
  unfold stOf lsZero upN
  split
  · rw [List.map_nil, sums_nil]
  · rw [List.map_nil, cells_nil]
/-- In the midst of sixty updates: the next one reaches the level. -/
theorem stOf_step {c : Cfg} (hr : IsRight c) {us : Ups} (h : UpsIn c 0 us) (hl : us.length ≤ 60) {u : Int × Int} (hu : UpsIn c 0 [u]) {n : Nat} (hn : (n : Int) ≤ c.bt) :
    lsCode c n (stOf c us n) (upK u.1 n) u.2 = 0 ∧ lsRes c n (stOf c us n) (upK u.1 n) u.2 = stOf c (us ++ [u]) n := by
  have h1 := upN_in hr h hn
  have h2 := upN_in hr hu hn
  have hu1 := h2.1 (upK u.1 n, u.2) (by simp [upN])
  have hl2 : (upN us n).length ≤ 60 := by rw [upN_len]; exact hl
  unfold stOf
  rw [upN_app]
  by_cases hx : exactB c n = true
  · rw [if_pos hx, if_pos hx]
    have hk : ((keys c n).toNat : Int) = keys c n := Int.toNat_of_nonneg (by omega)
    have hs := sums_step (md := c.md) (K := (keys c n).toNat) (us := upN us n) (u := (upK u.1 n, u.2)) hu1.1 (by rw [hk]; exact hu1.2.1) hl2 (fun v hv => by
      rcases List.mem_append.1 hv with h3 | h3
      · exact ⟨(h1.1 v h3).2.2.1, (h1.1 v h3).2.2.2⟩
      · rw [List.mem_singleton.1 h3]
        exact ⟨hu1.2.2.1, hu1.2.2.2⟩) (fun hm => h2.2 hm (upK u.1 n, u.2) (by simp [upN]))
    refine ⟨hs.1, ?_⟩
    show LS.A (exRes c.md _ _ _) = _
    rw [hs.2]
    rfl
  · rw [if_neg hx, if_neg hx]
    have hs := up_ok hr h1 hl2 (u := (upK u.1 n, u.2)) h2
    refine ⟨hs.1, ?_⟩
    show LS.S (upRes c n _ _ _) = _
    rw [hs.2]
    rfl
/-- All levels of a stack that was fed. -/
def stsOf (c : Cfg) (us : Ups) : List LS := (List.range (c.bt.toNat + 1)).map (stOf c us)
theorem stsOf_len (c : Cfg) (us : Ups) : (stsOf c us).length = c.bt.toNat + 1 := by unfold stsOf; simp
theorem stsOf_get {c : Cfg} {us : Ups} {n : Nat} (h : n < c.bt.toNat + 1) : (stsOf c us)[n]? = some (stOf c us n) := by
  unfold stsOf
  rw [List.getElem?_map, List.getElem?_range h]
  rfl
theorem stsOf_step {c : Cfg} (hr : IsRight c) {us : Ups} (h : UpsIn c 0 us) (hl : us.length ≤ 60) {u : Int × Int} (hu : UpsIn c 0 [u]) :
    sucode c (stsOf c us) u.1 u.2 = 0 ∧ sures c (stsOf c us) u.1 u.2 = stsOf c (us ++ [u]) := by
  have hb := hr.1
  have hu1 := hu.1 u (by simp)
  have e1 : ers c u.1 u.2 0 (stsOf c us) = 0 := by
    refine ers_none c u.1 u.2 0 _ (fun i s hi => ?_)
    have hi2 := (List.getElem?_eq_some_iff.1 hi).1
    rw [stsOf_len] at hi2
    rw [stsOf_get hi2] at hi
    injection hi with hi
    rw [Nat.zero_add, ← hi]
    exact (stOf_step hr h hl hu (by omega)).1
  have hk : ¬ keys c 0 ≤ u.1 := by omega
  have hm : ¬ (c.md = 2 ∧ u.2 < 0) := fun g => by have := hu.2 g.1 u (by simp); omega
  have e2 : sucode c (stsOf c us) u.1 u.2 = 0 := by
    unfold sucode
    rw [if_neg hk, if_neg hm]
    exact e1
  refine ⟨e2, ?_⟩
  unfold sures
  rw [if_pos e2]
  apply List.ext_getElem?
  intro j
  by_cases hj : j < c.bt.toNat + 1
  · rw [rss_get c u.1 u.2 0 _ j _ (stsOf_get hj), stsOf_get hj, Nat.zero_add]
    rw [(stOf_step hr h hl hu (by omega)).2]
  · rw [List.getElem?_eq_none (by rw [rss_len, stsOf_len]; omega), List.getElem?_eq_none (by rw [stsOf_len]; omega)]
end Go.Proofs.YtkflggojiiebeaaGreat.Stk

namespace Go.Proofs.YtkflggojiiebeaaGreat.Spn
open Go Go.RowKit Lw Grd Lin Con Shp Sk Exa Lev Stk Pcs
set_option linter.unusedVariables false
/-- The pieces of a span. -/
noncomputable def covL (n lo hi : Nat) : List (Nat × Nat) := by
  classical exact if h : ∃ l, Cov n (hi + 1) lo l then Classical.choose h else []
theorem covL_eq {n lo hi : Nat} {l : List (Nat × Nat)} (h : Cov n (hi + 1) lo l) : covL n lo hi = l := by
  unfold covL
  have h2 : ∃ l, Cov n (hi + 1) lo l := ⟨l, h⟩
  rw [dif_pos h2]
  exact (Classical.choose_spec h2).uniq h
theorem sum_bd {α : Type} {f : α → Int} {b : Int} : ∀ {l : List α}, (∀ p ∈ l, -b ≤ f p ∧ f p ≤ b) → -(b * l.length) ≤ (l.map f).sum ∧ (l.map f).sum ≤ b * l.length
  | [], _ => by simp
  | p :: l, h => by
    have ih := sum_bd (l := l) (fun q hq => h q (List.mem_cons_of_mem _ hq))
    have h1 := h p (by simp)
    simp only [List.map_cons, List.sum_cons, List.length_cons]
    have e : b * ((l.length + 1 : Nat) : Int) = b * (l.length : Int) + b := by
      rw [Int.natCast_add, Int.mul_add]
      simp
    omega
/-- What a span is told to have, and with what error. -/
noncomputable def parts (c : Cfg) (pt : Nat → Int → Int) (lo hi : Int) : List Int := (covL c.bt.toNat lo.toNat hi.toNat).map (fun p => pt p.1 ((p.2 : Nat) : Int))
def ptC2 (c : Cfg) (lo hi : Int) : Int := if hi < lo then 1 else if keys c 0 ≤ hi then 2 else 0
noncomputable def ptL (c : Cfg) (pt : Nat → Int → Int) (lo hi : Int) : List Int := if ptC2 c lo hi = 0 then parts c pt lo hi else []
noncomputable def rgC (c : Cfg) (pt : Nat → Int → Int) (lo hi : Int) : Int := if ptC2 c lo hi = 0 then (if Wid.fit64 (parts c pt lo hi).sum = true then 0 else 4) else ptC2 c lo hi
noncomputable def rgV (c : Cfg) (pt : Nat → Int → Int) (lo hi : Int) : Int := if rgC c pt lo hi = 0 then (parts c pt lo hi).sum else 0
end Go.Proofs.YtkflggojiiebeaaGreat.Spn

namespace Go.Proofs.YtkflggojiiebeaaGreat.Qnt
open Go Go.RowKit Lw Grd Lin Con Shp Sk Exa Lev Stk Pcs Spn
set_option linter.unusedVariables false
/-- The pieces with which one goes on, from the piece i of the level on; none: what is left of the rank does not fit. -/
def wayQ (pt : Nat → Int → Int) : Nat → Nat → Int → Option (List (Nat × Nat))
  | 0, i, _ => some [(0, i)]
  | L + 1, i, k =>
    if k ≤ pt L ((2 * i : Nat) : Int) then (wayQ pt L (2 * i) k).map (fun l => (L + 1, i) :: l)
    else if Wid.fit64 (k - pt L ((2 * i : Nat) : Int)) = true then (wayQ pt L (2 * i + 1) (k - pt L ((2 * i : Nat) : Int))).map (fun l => (L + 1, i) :: l)
    else none
/-- The way's last piece's index. -/
def keyQ (l : List (Nat × Nat)) : Nat := ((l.getLast?).map (fun p => p.2)).getD 0
theorem keyQ_cons (p : Nat × Nat) {l : List (Nat × Nat)} (h : l ≠ []) : keyQ (p :: l) = keyQ l := by
  unfold keyQ
  cases l with
  | nil => exact absurd rfl h
  | cons q l => simp
theorem wayQ_left {pt : Nat → Int → Int} {L i : Nat} {k : Int} (h : k ≤ pt L ((2 * i : Nat) : Int)) : wayQ pt (L + 1) i k = (wayQ pt L (2 * i) k).map (fun l => (L + 1, i) :: l) := by
  rw [wayQ, if_pos h]
theorem wayQ_right {pt : Nat → Int → Int} {L i : Nat} {k : Int} (h : ¬ k ≤ pt L ((2 * i : Nat) : Int)) (hf : Wid.fit64 (k - pt L ((2 * i : Nat) : Int)) = true) : wayQ pt (L + 1) i k = (wayQ pt L (2 * i + 1) (k - pt L ((2 * i : Nat) : Int))).map (fun l => (L + 1, i) :: l) := by
  rw [wayQ, if_neg h, if_pos hf]
theorem wayQ_none {pt : Nat → Int → Int} {L i : Nat} {k : Int} (h : ¬ k ≤ pt L ((2 * i : Nat) : Int)) (hf : Wid.fit64 (k - pt L ((2 * i : Nat) : Int)) = false) : wayQ pt (L + 1) i k = none := by
  rw [wayQ, if_neg h, if_neg (by rw [hf]; decide)]
/-- One piece more behind those that were gone through. -/
theorem way_push {pt : Nat → Int → Int} {L i j : Nat} {k m : Int} {xs : List (Nat × Nat)} {o : Option (List (Nat × Nat))} (h : o = (wayQ pt (L + 1) i k).map (fun l => xs ++ l)) (h2 : wayQ pt (L + 1) i k = (wayQ pt L j m).map (fun l => (L + 1, i) :: l)) : o = (wayQ pt L j m).map (fun l => (xs ++ [(L + 1, i)]) ++ l) := by
  rw [h, h2, Option.map_map]
  congr 1
  funext l
  simp
/-- A way from a piece down to a key, from half to half. -/
inductive Path : Nat → Nat → List (Nat × Nat) → Prop
  | key (i : Nat) : Path 0 i [(0, i)]
  | half {L i j : Nat} {l : List (Nat × Nat)} (hj : j = 2 * i ∨ j = 2 * i + 1) (h : Path L j l) : Path (L + 1) i ((L + 1, i) :: l)
theorem wayQ_path {pt : Nat → Int → Int} : ∀ {L i : Nat} {k : Int} {l : List (Nat × Nat)}, wayQ pt L i k = some l → Path L i l
  | 0, i, k, l, h => by
    injection h with h
    subst h
    exact .key i
  | L + 1, i, k, l, h => by
    by_cases h1 : k ≤ pt L ((2 * i : Nat) : Int)
    · rw [wayQ_left h1] at h
      obtain ⟨m, h2, rfl⟩ := Option.map_eq_some_iff.1 h
      exact .half (.inl rfl) (wayQ_path h2)
    · cases hf : Wid.fit64 (k - pt L ((2 * i : Nat) : Int)) with
      | true =>
        rw [wayQ_right h1 hf] at h
        obtain ⟨m, h2, rfl⟩ := Option.map_eq_some_iff.1 h
        exact .half (.inr rfl) (wayQ_path h2)
      | false =>
        rw [wayQ_none h1 hf] at h
        cases h
theorem Path.ne {L i : Nat} {l : List (Nat × Nat)} (h : Path L i l) : l ≠ [] := by
  cases h <;> simp
theorem Path.len {L i : Nat} {l : List (Nat × Nat)} (h : Path L i l) : l.length = L + 1 := by
  induction h with
  | key i => rfl
  | half hj h ih => rw [List.length_cons, ih]
theorem Path.first {L i : Nat} {l : List (Nat × Nat)} (h : Path L i l) : l[0]? = some (L, i) := by
  cases h <;> rfl
/-- The key lies in the piece. -/
theorem Path.in {L i : Nat} {l : List (Nat × Nat)} (h : Path L i l) : i * 2 ^ L ≤ keyQ l ∧ keyQ l < (i + 1) * 2 ^ L := by
  induction h with
  | key i =>
    show i * 2 ^ 0 ≤ i ∧ i < (i + 1) * 2 ^ 0
    rw [Nat.pow_zero]
    omega
  | @half L i j l hj h ih =>
    rw [keyQ_cons _ h.ne]
    have e1 : i * 2 ^ (L + 1) = (2 * i) * 2 ^ L := by rw [Nat.pow_succ, Nat.mul_comm 2 i, Nat.mul_assoc, Nat.mul_comm 2]
    have e2 : (i + 1) * 2 ^ (L + 1) = (2 * i + 1 + 1) * 2 ^ L := by
      have e3 : 2 * i + 1 + 1 = 2 * (i + 1) := by omega
      rw [e3, Nat.pow_succ, Nat.mul_comm 2 (i + 1), Nat.mul_assoc, Nat.mul_comm 2]
    have e4 : (2 * i + 1) * 2 ^ L = 2 * i * 2 ^ L + 2 ^ L := by rw [Nat.succ_mul]
    have e5 : (2 * i + 1 + 1) * 2 ^ L = 2 * i * 2 ^ L + 2 ^ L + 2 ^ L := by rw [Nat.succ_mul, Nat.succ_mul]
    have hp := Nat.two_pow_pos L
    rw [e1, e2, e5]
    rcases hj with rfl | rfl
    · rw [e4] at ih
      omega
    · rw [e4, e5] at ih
      omega
/-- Each piece of the way: its level, and of which it is a half. -/
theorem Path.at {L i : Nat} {l : List (Nat × Nat)} (h : Path L i l) : ∀ (j : Nat) (p : Nat × Nat), l[j]? = some p → p.1 + j = L ∧ i * 2 ^ j ≤ p.2 ∧ p.2 < (i + 1) * 2 ^ j := by
  induction h with
  | key i =>
    intro j p hj
    cases j with
    | zero =>
      simp at hj
      subst hj
      simp
    | succ j => simp at hj
  | @half L i j0 l hj h ih =>
    intro j p hjp
    cases j with
    | zero =>
      simp at hjp
      subst hjp
      simp
    | succ j =>
      have h2 := ih j p (by simpa using hjp)
      have hp := Nat.two_pow_pos j
      have e1 : i * 2 ^ (j + 1) = (2 * i) * 2 ^ j := by rw [Nat.pow_succ, Nat.mul_comm 2 i, Nat.mul_assoc, Nat.mul_comm 2]
      have e2 : (i + 1) * 2 ^ (j + 1) = (2 * i + 1 + 1) * 2 ^ j := by
        have e3 : 2 * i + 1 + 1 = 2 * (i + 1) := by omega
        rw [e3, Nat.pow_succ, Nat.mul_comm 2 (i + 1), Nat.mul_assoc, Nat.mul_comm 2]
      have e4 : (2 * i + 1) * 2 ^ j = 2 * i * 2 ^ j + 2 ^ j := by rw [Nat.succ_mul]
      have e5 : (2 * i + 1 + 1) * 2 ^ j = 2 * i * 2 ^ j + 2 ^ j + 2 ^ j := by rw [Nat.succ_mul, Nat.succ_mul]
      rw [e1, e2, e5]
      obtain ⟨g1, g2, g3⟩ := h2
      rcases hj with rfl | rfl
      · rw [e4] at g3
        omega
      · rw [e4] at g2
        rw [e5] at g3
        omega
theorem Path.last {L i : Nat} {l : List (Nat × Nat)} (h : Path L i l) : l[L]? = some (0, keyQ l) := by
  induction h with
  | key i => rfl
  | @half L i j l hj h ih =>
    rw [keyQ_cons _ h.ne]
    simpa using ih
/-- What Way and Quantile answer. -/
def qnC (c : Cfg) (pt : Nat → Int → Int) (k : Int) : Int := if k < 1 ∨ pt c.bt.toNat 0 < k then 6 else if (wayQ pt c.bt.toNat 0 k).isSome = true then 0 else 4
def qnL (c : Cfg) (pt : Nat → Int → Int) (k : Int) : List (Nat × Nat) := if qnC c pt k = 0 then (wayQ pt c.bt.toNat 0 k).getD [] else []
def qnV (c : Cfg) (pt : Nat → Int → Int) (k : Int) : Int := ((keyQ (qnL c pt k) : Nat) : Int)
theorem qn_yes {c : Cfg} {pt : Nat → Int → Int} {k : Int} {l : List (Nat × Nat)} (h1 : 1 ≤ k) (h2 : k ≤ pt c.bt.toNat 0) (h : wayQ pt c.bt.toNat 0 k = some l) : qnC c pt k = 0 ∧ qnL c pt k = l ∧ qnV c pt k = ((keyQ l : Nat) : Int) := by
  have e1 : qnC c pt k = 0 := by unfold qnC; rw [if_neg (by omega), h]; rfl
  have e2 : qnL c pt k = l := by unfold qnL; rw [if_pos e1, h]; rfl
  exact ⟨e1, e2, by unfold qnV; rw [e2]⟩
theorem qn_over {c : Cfg} {pt : Nat → Int → Int} {k : Int} (h1 : 1 ≤ k) (h2 : k ≤ pt c.bt.toNat 0) (h : wayQ pt c.bt.toNat 0 k = none) : qnC c pt k = 4 ∧ qnL c pt k = [] ∧ qnV c pt k = 0 := by
  have e1 : qnC c pt k = 4 := by unfold qnC; rw [if_neg (by omega), h]; rfl
  have e2 : qnL c pt k = [] := by unfold qnL; rw [if_neg (by omega)]
  exact ⟨e1, e2, by unfold qnV; rw [e2]; rfl⟩
theorem qn_rank {c : Cfg} {pt : Nat → Int → Int} {k : Int} (h : k < 1 ∨ pt c.bt.toNat 0 < k) : qnC c pt k = 6 ∧ qnL c pt k = [] ∧ qnV c pt k = 0 := by
  have e1 : qnC c pt k = 6 := by unfold qnC; rw [if_pos h]
  have e2 : qnL c pt k = [] := by unfold qnL; rw [if_neg (by omega)]
  exact ⟨e1, e2, by unfold qnV; rw [e2]; rfl⟩
end Go.Proofs.YtkflggojiiebeaaGreat.Qnt

namespace Go.Proofs.YtkflggojiiebeaaGreat.Hvy
open Go Go.RowKit Lw Grd Lin Con Shp Sk Exa Lev Stk Pcs Spn Qnt
set_option linter.unusedVariables false
/-- Is the piece told? -/
def big (pt : Nat → Int → Int) (least : Int) (L i : Nat) : Bool := decide (least ≤ pt L ((i : Nat) : Int))
/-- The halves of those that are told, of some of one level. -/
def halvesQ (pt : Nat → Int → Int) (least : Int) (L : Nat) (l : List Nat) : List Nat := (l.filter (big pt least L)).flatMap (fun i => [2 * i, 2 * i + 1])
/-- What is asked, so many levels below the highest one. -/
def askQ (pt : Nat → Int → Int) (least : Int) (B : Nat) : Nat → List Nat
  | 0 => [0]
  | d + 1 => halvesQ pt least (B - d) (askQ pt least B d)
/-- What is told of some pieces of one level. -/
def tellQ (pt : Nat → Int → Int) (least : Int) (L : Nat) (l : List Nat) : List ((Nat × Nat) × Int) := (l.filter (big pt least L)).map (fun i => ((L, i), pt L ((i : Nat) : Int)))
/-- What is told, of so many levels, the highest one first. -/
def foundQ (pt : Nat → Int → Int) (least : Int) (B : Nat) : Nat → List ((Nat × Nat) × Int)
  | 0 => []
  | d + 1 => foundQ pt least B d ++ tellQ pt least (B - d) (askQ pt least B d)
/-- How many are asked, of so many levels. -/
def countQ (pt : Nat → Int → Int) (least : Int) (B : Nat) : Nat → Nat
  | 0 => 0
  | d + 1 => countQ pt least B d + (askQ pt least B d).length
theorem tellQ_app (pt : Nat → Int → Int) (least : Int) (L : Nat) (l m : List Nat) : tellQ pt least L (l ++ m) = tellQ pt least L l ++ tellQ pt least L m := by
  unfold tellQ
  rw [List.filter_append, List.map_append]
theorem tellQ_yes {pt : Nat → Int → Int} {least : Int} {L i : Nat} (h : least ≤ pt L ((i : Nat) : Int)) : tellQ pt least L [i] = [((L, i), pt L ((i : Nat) : Int))] := by
  unfold tellQ
  rw [List.filter_cons_of_pos (by unfold big; exact decide_eq_true h)]
  rfl
theorem tellQ_no {pt : Nat → Int → Int} {least : Int} {L i : Nat} (h : ¬ least ≤ pt L ((i : Nat) : Int)) : tellQ pt least L [i] = [] := by
  unfold tellQ
  rw [List.filter_cons_of_neg (by unfold big; simpa using h)]
  rfl
theorem countQ_mono (pt : Nat → Int → Int) (least : Int) (B : Nat) {a : Nat} : ∀ {b : Nat}, a ≤ b → countQ pt least B a ≤ countQ pt least B b
  | 0, h => by
    obtain rfl : a = 0 := by omega
    exact Nat.le_refl _
  | b + 1, h => by
    by_cases e : a = b + 1
    · subst e
      exact Nat.le_refl _
    · have ih := countQ_mono pt least B (a := a) (b := b) (by omega)
      exact Nat.le_trans ih (Nat.le_add_right _ _)
theorem mem_halvesQ {pt : Nat → Int → Int} {least : Int} {L x : Nat} {l : List Nat} : x ∈ halvesQ pt least L l ↔ (x / 2 ∈ l ∧ least ≤ pt L ((x / 2 : Nat) : Int)) := by
  unfold halvesQ
  rw [List.mem_flatMap]
  constructor
  · rintro ⟨i, hi, hx⟩
    rw [List.mem_filter] at hi
    have e : x / 2 = i := by
      simp at hx
      omega
    rw [e]
    exact ⟨hi.1, of_decide_eq_true hi.2⟩
  · rintro ⟨h1, h2⟩
    refine ⟨x / 2, List.mem_filter.2 ⟨h1, decide_eq_true h2⟩, ?_⟩
    simp
    omega
theorem mem_tellQ {pt : Nat → Int → Int} {least : Int} {L : Nat} {l : List Nat} {q : (Nat × Nat) × Int} : q ∈ tellQ pt least L l ↔ (q.1.1 = L ∧ q.1.2 ∈ l ∧ least ≤ pt L ((q.1.2 : Nat) : Int) ∧ q.2 = pt L ((q.1.2 : Nat) : Int)) := by
  unfold tellQ
  rw [List.mem_map]
  constructor
  · rintro ⟨i, hi, rfl⟩
    rw [List.mem_filter] at hi
    exact ⟨rfl, hi.1, of_decide_eq_true hi.2, rfl⟩
  · rintro ⟨h1, h2, h3, h4⟩
    refine ⟨q.1.2, List.mem_filter.2 ⟨h2, decide_eq_true h3⟩, ?_⟩
    obtain ⟨⟨a, b⟩, n⟩ := q
    simp only at h1 h4
    subst h1 h4
    rfl
/-- What is asked are pieces. -/
theorem askQ_lt {pt : Nat → Int → Int} {least : Int} {B : Nat} : ∀ {d i : Nat}, i ∈ askQ pt least B d → i < 2 ^ d
  | 0, i, h => by
    have h2 : i = 0 := List.mem_singleton.1 h
    subst h2
    exact Nat.one_pos
  | d + 1, i, h => by
    have h2 := askQ_lt (mem_halvesQ.1 h).1
    rw [Nat.pow_succ]
    omega
end Go.Proofs.YtkflggojiiebeaaGreat.Hvy

namespace Go.Proofs.YtkflggojiiebeaaGreat.Hvy
open Go Go.RowKit Lw Grd Lin Con Shp Sk Exa Lev Stk Pcs Spn Qnt
set_option linter.unusedVariables false
/-- A piece that is kept: what is told of it, and its rest. -/
abbrev Kp := (Nat × Nat) × Int × Int
/-- Does a piece lie within another one? -/
def inQ (p q : Nat × Nat) : Bool := decide (p.1 ≤ q.1 ∧ p.2 / 2 ^ (q.1 - p.1) = q.2)
/-- Lies what is kept within the piece, and in nothing else that is kept within it? -/
def aloneQ (K : List Kp) (k : Nat) (p : Nat × Nat) : Bool :=
  match K[k]? with
  | none => false
  | some x => inQ x.1 p && (List.range K.length).all (fun m => m == k || (match K[m]? with
    | none => true
    | some y => !(inQ x.1 y.1 && inQ y.1 p)))
def numK (K : List Kp) (k : Nat) : Int := ((K[k]?).map (fun x => x.2.1)).getD 0
/-- What is kept within a piece has together. -/
def withinQ (K : List Kp) (p : Nat × Nat) : Int := ((List.range K.length).map (fun k => if aloneQ K k p = true then numK K k else 0)).sum
/-- Each rest is what is told, less what was kept within the piece; and it is not less than least. -/
def Good (least : Int) (K : List Kp) : Prop := ∀ (i : Nat) (x : Kp), K[i]? = some x → least ≤ x.2.2 ∧ x.2.2 = x.2.1 - withinQ (K.take i) x.1
theorem Good.nil (least : Int) : Good least [] := fun i x h => by simp at h
/-- The lowest levels stand first, and no piece twice. -/
def Row (K : List Kp) : Prop := K.Pairwise (fun x y => x.1.1 ≤ y.1.1 ∧ x.1 ≠ y.1)
theorem Row.at {K : List Kp} (h : Row K) {i j : Nat} {x y : Kp} (hi : K[i]? = some x) (hj : K[j]? = some y) (hij : i < j) : x.1.1 ≤ y.1.1 ∧ x.1 ≠ y.1 := by
  obtain ⟨h1, rfl⟩ := List.getElem?_eq_some_iff.1 hi
  obtain ⟨h2, rfl⟩ := List.getElem?_eq_some_iff.1 hj
  exact List.pairwise_iff_getElem.1 h i j h1 h2 hij
end Go.Proofs.YtkflggojiiebeaaGreat.Hvy

namespace Go.Proofs.YtkflggojiiebeaaGreat.Hvy
open Go Go.RowKit Lw Grd Lin Con Shp Sk Exa Lev Stk Pcs Spn Qnt
set_option linter.unusedVariables false
/-- The cells of what is told, and of what is kept. -/
def encF (q : (Nat × Nat) × Int) : List Value := [.int .i64 (q.1.1 : Int), .int .u64 (q.1.2 : Int), .int .i64 q.2]
def encR (x : Kp) : List Value := [.int .i64 (x.1.1 : Int), .int .u64 (x.1.2 : Int), .int .i64 x.2.1, .int .i64 x.2.2]
theorem encF_len (q : (Nat × Nat) × Int) : (encF q).length = 3 := rfl
def hvC (c : Cfg) (pt : Nat → Int → Int) (least bud : Int) : Int := if least < 1 ∨ 4096 < bud then 1 else if bud < ((countQ pt least c.bt.toNat (c.bt.toNat + 1) : Nat) : Int) then 7 else 0
def hvL (c : Cfg) (pt : Nat → Int → Int) (least bud : Int) : List ((Nat × Nat) × Int) := if hvC c pt least bud = 0 then foundQ pt least c.bt.toNat (c.bt.toNat + 1) else []
theorem hv_arg {c : Cfg} {pt : Nat → Int → Int} {least bud : Int} (h : least < 1 ∨ 4096 < bud) : hvC c pt least bud = 1 ∧ hvL c pt least bud = [] := by
  have e : hvC c pt least bud = 1 := by unfold hvC; rw [if_pos h]
  exact ⟨e, by unfold hvL; rw [if_neg (by omega)]⟩
theorem hv_over {c : Cfg} {pt : Nat → Int → Int} {least bud : Int} (h1 : 1 ≤ least) (h2 : bud ≤ 4096) (h : bud < ((countQ pt least c.bt.toNat (c.bt.toNat + 1) : Nat) : Int)) : hvC c pt least bud = 7 ∧ hvL c pt least bud = [] := by
  have e : hvC c pt least bud = 7 := by unfold hvC; rw [if_neg (by omega), if_pos h]
  exact ⟨e, by unfold hvL; rw [if_neg (by omega)]⟩
theorem hv_yes {c : Cfg} {pt : Nat → Int → Int} {least bud : Int} (h1 : 1 ≤ least) (h2 : bud ≤ 4096) (h : ((countQ pt least c.bt.toNat (c.bt.toNat + 1) : Nat) : Int) ≤ bud) : hvC c pt least bud = 0 ∧ hvL c pt least bud = foundQ pt least c.bt.toNat (c.bt.toNat + 1) := by
  have e : hvC c pt least bud = 0 := by unfold hvC; rw [if_neg (by omega), if_neg (by omega)]
  exact ⟨e, by unfold hvL; rw [if_pos e]⟩
end Go.Proofs.YtkflggojiiebeaaGreat.Hvy

namespace Go.Proofs.YtkflggojiiebeaaGreat.Hvy
open Go Go.RowKit Lw Grd Lin Con Shp Sk Exa Lev Stk Pcs Spn Qnt
set_option linter.unusedVariables false
theorem take_next {α : Type} {l : List α} {t : Nat} {a : α} (h : l[t]? = some a) : l.take (t + 1) = l.take t ++ [a] := by
  obtain ⟨h1, h2⟩ := List.getElem?_eq_some_iff.1 h
  rw [List.take_succ_eq_append_getElem h1, h2]
theorem foundQ_le (pt : Nat → Int → Int) (least : Int) (B : Nat) : ∀ d : Nat, (foundQ pt least B d).length ≤ countQ pt least B d
  | 0 => Nat.le_refl _
  | d + 1 => by
    have ih := foundQ_le pt least B d
    show (foundQ pt least B d ++ tellQ pt least (B - d) (askQ pt least B d)).length ≤ countQ pt least B d + (askQ pt least B d).length
    rw [List.length_append]
    have h2 : (tellQ pt least (B - d) (askQ pt least B d)).length ≤ (askQ pt least B d).length := by
      unfold tellQ
      rw [List.length_map]
      exact List.length_filter_le _ _
    omega
/-- A row of one's own, of cells of any size, as a thing. -/
def ownK (B : Nat) (e : TypeId) (K : Nat) (v : Value) (n : Nat) (cs : List Value) : Thing where
  I := fun w => w.ownsRow B e K v n cs
  F := fun k => v.ownBlock = some k
  keep := fun w w' H h hk hf => hk.own h (fun q hq => hf q hq)
  lt := fun w h k hk => own_lt h hk
theorem okI {w : World} {B : Nat} {e : TypeId} {K : Nat} {v : Value} {n : Nat} {cs : List Value} (h : (ownK B e K v n cs).I w) : w.ownsRow B e K v n cs := h
theorem kept_grownK {w w' : World} {B : Nat} {e : TypeId} {K : Nat} {v : Value} {n : Nat} {cs : List Value} (hg : w.grownBy w' v.ownBlock) : Kept (ownK B e K v n cs).F w w' := (Kept.refl (fun q => v.ownBlock = some q) w).grown hg (fun q hq => .inl hq)
theorem okF {B : Nat} {e : TypeId} {K : Nat} {v : Value} {n m cap g S : Nat} {cs ds : List Value} (h : v.ownBlock = some g ∨ g = S) : ∀ k, (ownK B e K (.slice (some ⟨g, 0, none⟩) m cap) m ds).F k → (ownK B e K v n cs).F k ∨ S ≤ k := by
  intro k hk
  have e2 : g = k := by
    have : some g = some k := hk
    injection this
  subst e2
  rcases h with h | h
  · exact .inl h
  · exact .inr (by omega)
end Go.Proofs.YtkflggojiiebeaaGreat.Hvy

namespace Go.Proofs.YtkflggojiiebeaaGreat.Hvy
open Go Go.RowKit Lw Grd Lin Con Shp Sk Exa Lev Stk Pcs Spn Qnt
set_option linter.unusedVariables false
structure Ord (T : Nat → Nat → Option Int) (B : Nat) (o : List ((Nat × Nat) × Int)) : Prop where
  row : o.Pairwise (fun x y => x.1.1 ≤ y.1.1 ∧ x.1 ≠ y.1)
  le : ∀ q ∈ o, q.1.1 ≤ B
  mem : ∀ q : (Nat × Nat) × Int, q ∈ o ↔ T q.1.1 q.1.2 = some q.2
end Go.Proofs.YtkflggojiiebeaaGreat.Hvy

namespace Go.Proofs.YtkflggojiiebeaaGreat.Hvy
open Go Go.RowKit Lw Grd Lin Con Shp Sk Exa Lev Stk Pcs Spn Qnt
set_option linter.unusedVariables false
theorem foundQ_len (pt : Nat → Int → Int) (least : Int) (B : Nat) : (foundQ pt least B (B + 1)).length ≤ countQ pt least B (B + 1) := by
  have h : ∀ d : Nat, (foundQ pt least B d).length ≤ countQ pt least B d := by
    intro d
    induction d with
    | zero => exact Nat.le_refl _
    | succ d ih =>
      show (foundQ pt least B d ++ tellQ pt least (B - d) (askQ pt least B d)).length ≤ countQ pt least B d + (askQ pt least B d).length
      rw [List.length_append]
      have h2 : (tellQ pt least (B - d) (askQ pt least B d)).length ≤ (askQ pt least B d).length := by
        unfold tellQ
        rw [List.length_map]
        exact List.length_filter_le _ _
      omega
  exact h (B + 1)
end Go.Proofs.YtkflggojiiebeaaGreat.Hvy

