/- The walks of package pieces (the code's). Printed by wip/gen/pcscode.py. -/
import Derived.Test.YtdhljlhecoclfaaPcsDef
import Derived.Test.YtdhljlhecoclfaaThings
import Derived.WalkSpells
import Derived.Defers
import Derived.Deep.LoopGhost
import Derived.Deep.RegionHeld3
import Derived.Deep.DeepCutAuto
import Derived.Deep.QuietTactic
import Derived.BigQuiet
namespace Go.Proofs.Ytdhljlhecoclfaa.Pcs
open Go Go.RowKit Lw
set_option linter.unusedVariables false
set_option linter.unusedSimpArgs false
theorem shlc {b : Int} (h0 : 0 ≤ b) (h1 : b ≤ 63) : IntKind.u64.wrap (2 ^ min b.toNat 64) = p2 b.toNat := by
  have e : min b.toNat 64 = b.toNat := by omega
  rw [e]
  have h2 : ((2 : Int) ^ b.toNat) = p2 b.toNat := by unfold p2; simp
  rw [h2]
  have h3 := p2_mono (show b.toNat ≤ 63 by omega)
  have h4 : p2 63 = 9223372036854775808 := rfl
  have h5 := p2_pos b.toNat
  exact u64_in (by omega) (by omega)
/-- How many pieces of a level there are. -/
def cntP (b L : Int) : Int := if 1 ≤ b ∧ b ≤ 59 ∧ 0 ≤ L ∧ L ≤ b then p2 (b - L).toNat else 0
theorem isP_cnt {b L i : Int} (h0 : 0 ≤ i) : isP b L i = decide (i < cntP b L) := by
  unfold isP cntP
  by_cases h : 1 ≤ b ∧ b ≤ 59 ∧ 0 ≤ L ∧ L ≤ b
  · rw [if_pos h]
    exact decide_eq_decide.2 ⟨fun g => g.2.2.2.2, fun g => ⟨h.1, h.2.1, h.2.2.1, h.2.2.2, g⟩⟩
  · rw [if_neg h]
    exact decide_eq_decide.2 ⟨fun g => absurd ⟨g.1, g.2.1, g.2.2.1, g.2.2.2.1⟩ h, fun g => by omega⟩
theorem cntP_bd (b L : Int) : 0 ≤ cntP b L ∧ cntP b L ≤ 1152921504606846976 := by
  unfold cntP
  split
  · have := p2_bd (show (b - L).toNat ≤ 60 by omega)
    omega
  · omega
set_option maxRecDepth 100000 in
theorem count_n1 (b L : Int) (w : World) (hb0 : -9223372036854775808 ≤ b) (hb1 : b ≤ 9223372036854775807) (hL0 : -9223372036854775808 ≤ L) (hL1 : L ≤ 9223372036854775807)  (h1 : ¬ 1 ≤ b) :
    Calls Try.prog 17 #[.int .i64 b, .int .i64 L] w fun e w' => e = .returned (.int .u64 (0)) ∧ w' = w := by
  have d1 : decide (b < 1) = true := decide_eq_true (by omega)
  have f1 : b < 1 := by omega
  clear hb0 hb1 hL0 hL1 h1
  go_enter Try.func17, Try.ntmps17
  go_wp2
  go_ret
  exact ⟨rfl, rfl⟩
set_option maxRecDepth 100000 in
theorem count_n2 (b L : Int) (w : World) (hb0 : -9223372036854775808 ≤ b) (hb1 : b ≤ 9223372036854775807) (hL0 : -9223372036854775808 ≤ L) (hL1 : L ≤ 9223372036854775807) (h1 : 1 ≤ b) (h2 : ¬ b ≤ 59) :
    Calls Try.prog 17 #[.int .i64 b, .int .i64 L] w fun e w' => e = .returned (.int .u64 (0)) ∧ w' = w := by
  have d1 : decide (b < 1) = false := decide_eq_false (by omega)
  have f1 : ¬ b < 1 := by omega
  have d2 : decide (59 < b) = true := decide_eq_true (by omega)
  have f2 : 59 < b := by omega
  clear hb0 hb1 hL0 hL1 h1 h2
  go_enter Try.func17, Try.ntmps17
  go_wp2
  go_ret
  exact ⟨rfl, rfl⟩
set_option maxRecDepth 100000 in
theorem count_n3 (b L : Int) (w : World) (hb0 : -9223372036854775808 ≤ b) (hb1 : b ≤ 9223372036854775807) (hL0 : -9223372036854775808 ≤ L) (hL1 : L ≤ 9223372036854775807) (h1 : 1 ≤ b) (h2 : b ≤ 59) (h3 : ¬ 0 ≤ L) :
    Calls Try.prog 17 #[.int .i64 b, .int .i64 L] w fun e w' => e = .returned (.int .u64 (0)) ∧ w' = w := by
  have d1 : decide (b < 1) = false := decide_eq_false (by omega)
  have f1 : ¬ b < 1 := by omega
  have d2 : decide (59 < b) = false := decide_eq_false (by omega)
  have f2 : ¬ 59 < b := by omega
  have d3 : decide (L < 0) = true := decide_eq_true (by omega)
  have f3 : L < 0 := by omega
  clear hb0 hb1 hL0 hL1 h1 h2 h3
  go_enter Try.func17, Try.ntmps17
  go_wp2
  go_ret
  exact ⟨rfl, rfl⟩
set_option maxRecDepth 100000 in
theorem count_n4 (b L : Int) (w : World) (hb0 : -9223372036854775808 ≤ b) (hb1 : b ≤ 9223372036854775807) (hL0 : -9223372036854775808 ≤ L) (hL1 : L ≤ 9223372036854775807) (h1 : 1 ≤ b) (h2 : b ≤ 59) (h3 : 0 ≤ L) (h4 : ¬ L ≤ b) :
    Calls Try.prog 17 #[.int .i64 b, .int .i64 L] w fun e w' => e = .returned (.int .u64 (0)) ∧ w' = w := by
  have d1 : decide (b < 1) = false := decide_eq_false (by omega)
  have f1 : ¬ b < 1 := by omega
  have d2 : decide (59 < b) = false := decide_eq_false (by omega)
  have f2 : ¬ 59 < b := by omega
  have d3 : decide (L < 0) = false := decide_eq_false (by omega)
  have f3 : ¬ L < 0 := by omega
  have d4 : decide (b < L) = true := decide_eq_true (by omega)
  have f4 : b < L := by omega
  clear hb0 hb1 hL0 hL1 h1 h2 h3 h4
  go_enter Try.func17, Try.ntmps17
  go_wp2
  go_ret
  exact ⟨rfl, rfl⟩
set_option maxRecDepth 100000 in
theorem count_y (b L : Int) (w : World) (hb0 : -9223372036854775808 ≤ b) (hb1 : b ≤ 9223372036854775807) (hL0 : -9223372036854775808 ≤ L) (hL1 : L ≤ 9223372036854775807) (h1 : 1 ≤ b) (h2 : b ≤ 59) (h3 : 0 ≤ L) (h4 : L ≤ b) :
    Calls Try.prog 17 #[.int .i64 b, .int .i64 L] w fun e w' => e = .returned (.int .u64 (p2 (b - L).toNat)) ∧ w' = w := by
  have d1 : decide (b < 1) = false := decide_eq_false (by omega)
  have f1 : ¬ b < 1 := by omega
  have d2 : decide (59 < b) = false := decide_eq_false (by omega)
  have f2 : ¬ 59 < b := by omega
  have d3 : decide (L < 0) = false := decide_eq_false (by omega)
  have f3 : ¬ L < 0 := by omega
  have d4 : decide (b < L) = false := decide_eq_false (by omega)
  have f4 : ¬ b < L := by omega
  have q0 : ¬ b - L < 0 := by omega
  have q1 : wrap64 (b - L) = b - L := IntWalk.wrap64_in _ ⟨by omega, by omega⟩
  have q2 : IntKind.i64.wrap (b - L) = b - L := IntWalk.i64_in _ ⟨by omega, by omega⟩
  have q3 := shlc (b := b - L) (by omega) (by omega)
  obtain ⟨X, hX⟩ : ∃ X, p2 (b - L).toNat = X := ⟨_, rfl⟩
  rw [hX] at q3 ⊢
  clear hX
  obtain ⟨D, hD⟩ : ∃ D, b - L = D := ⟨_, rfl⟩
  rw [hD] at q0 q1 q2 q3
  have q4 : wrap64 (b - L) = D := by rw [hD]; exact q1
  have q5 : IntKind.i64.wrap (b - L) = D := by rw [hD]; exact q2
  clear hD
  clear hb0 hb1 hL0 hL1 h1 h2 h3 h4
  go_enter Try.func17, Try.ntmps17
  go_wp2
  go_ret
  exact ⟨rfl, rfl⟩
theorem count_any (b L : Int) (w : World) (hb0 : -9223372036854775808 ≤ b) (hb1 : b ≤ 9223372036854775807) (hL0 : -9223372036854775808 ≤ L) (hL1 : L ≤ 9223372036854775807) :
    Calls Try.prog 17 #[.int .i64 b, .int .i64 L] w fun e w' => e = .returned (.int .u64 (cntP b L)) ∧ w' = w := by
  unfold cntP
  by_cases h1 : 1 ≤ b
  · by_cases h2 : b ≤ 59
    · by_cases h3 : 0 ≤ L
      · by_cases h4 : L ≤ b
        · rw [if_pos ⟨h1, h2, h3, h4⟩]; exact count_y b L w hb0 hb1 hL0 hL1 h1 h2 h3 h4
        · rw [if_neg (fun h => h4 h.2.2.2)]; exact count_n4 b L w hb0 hb1 hL0 hL1 h1 h2 h3 h4
      · rw [if_neg (fun h => h3 h.2.2.1)]; exact count_n3 b L w hb0 hb1 hL0 hL1 h1 h2 h3
    · rw [if_neg (fun h => h2 h.2.1)]; exact count_n2 b L w hb0 hb1 hL0 hL1 h1 h2
  · rw [if_neg (fun h => h1 h.1)]; exact count_n1 b L w hb0 hb1 hL0 hL1 h1
set_option maxRecDepth 100000 in
set_option maxHeartbeats 4000000 in
theorem cspan_n (b L i : Int) (w : World) (hb0 : -9223372036854775808 ≤ b) (hb1 : b ≤ 9223372036854775807) (hL0 : -9223372036854775808 ≤ L) (hL1 : L ≤ 9223372036854775807) (hi0 : 0 ≤ i) (hi1 : i ≤ 18446744073709551615) (hP : isP b L i = false) :
    Calls Try.prog 13 #[.int .i64 b, .agg #[.int .i64 L, .int .u64 i]] w fun e w' => e = .returned (.tuple #[.int .u64 (0), .int .u64 (0), .bool false]) ∧ Below w.heap.size w w' := by
  have CC := Lib.hid (fun w => count_any b L w hb0 hb1 hL0 hL1)
  obtain ⟨X, hX⟩ : ∃ X, cntP b L = X := ⟨_, rfl⟩
  rw [isP_cnt hi0] at hP
  rw [hX] at CC hP
  have hP := of_decide_eq_false hP
  have d1 : decide (X ≤ i) = true := decide_eq_true (by omega)
  have f1 : X ≤ i := by omega
  have f2 : ¬ i < X := hP
  have c0 : (w.alloc (.cells #[.int .i64 L, .int .u64 i] 30)).cell? ⟨w.heap.size, 0, none⟩ = some (.int .i64 L) := by simp [go_sem]
  have c1 : (w.alloc (.cells #[.int .i64 L, .int .u64 i] 30)).cell? ⟨w.heap.size, 1, none⟩ = some (.int .u64 i) := by simp [go_sem]
  clear hb0 hb1 hL0 hL1 hi0 hi1 hX hP
  go_enter Try.func13, Try.ntmps13
  go_upto_region 1 with fail
  go_quiet (first | (go_at_call 17; with_reducible refine Calls.quiet_of_same (CC.out _)))
  all_goals go_wp2
  all_goals go_returns
  all_goals exact ⟨rfl, (by repeat' (first | (with_reducible exact Below.refl _ _) | (with_reducible assumption) | (with_reducible refine below_over ?_ _ _) | (with_reducible refine Lw.below_alloc ?_ _) | (with_reducible refine Below.drew ?_) | (with_reducible refine below_drewN ?_ _) | (with_reducible refine Below.setCell ?_ ?_ _) | go_size))⟩
set_option maxRecDepth 100000 in
set_option maxHeartbeats 4000000 in
theorem cspan_y (b L i : Int) (w : World) (hb0 : -9223372036854775808 ≤ b) (hb1 : b ≤ 9223372036854775807) (hL0 : -9223372036854775808 ≤ L) (hL1 : L ≤ 9223372036854775807) (hi0 : 0 ≤ i) (hi1 : i ≤ 18446744073709551615) (hP : isP b L i = true) :
    Calls Try.prog 13 #[.int .i64 b, .agg #[.int .i64 L, .int .u64 i]] w fun e w' => e = .returned (.tuple #[.int .u64 (i * p2 L.toNat), .int .u64 (i * p2 L.toNat + p2 L.toNat - 1), .bool true]) ∧ Below w.heap.size w w' := by
  have CC := Lib.hid (fun w => count_any b L w hb0 hb1 hL0 hL1)
  obtain ⟨h1, h2, h3, h4, h5, h6, h7⟩ := isP_bd hP hi0
  have hp := p2_bd (show b.toNat ≤ 60 by omega)
  have hq := p2_bd (show L.toNat ≤ 60 by omega)
  have hs1 := shlc (b := L) h3 (by omega)
  have hs2 : IntKind.u64.wrap (i * 2 ^ min L.toNat 64) = i * p2 L.toNat := by
    have e : min L.toNat 64 = L.toNat := by omega
    have e2 : ((2 : Int) ^ L.toNat) = p2 L.toNat := by unfold p2; simp
    rw [e, e2]
    exact u64_in h6 (by omega)
  obtain ⟨X, hX⟩ : ∃ X, cntP b L = X := ⟨_, rfl⟩
  rw [isP_cnt hi0] at hP
  rw [hX] at CC hP
  have hP := of_decide_eq_true hP
  have d1 : decide (X ≤ i) = false := decide_eq_false (by omega)
  have f1 : ¬ X ≤ i := by omega
  have f2 : i < X := hP
  have q0 : ¬ L < 0 := by omega
  obtain ⟨Y, hY⟩ : ∃ Y, p2 L.toNat = Y := ⟨_, rfl⟩
  rw [hY] at hs1 hs2 h6 h7 hq ⊢
  obtain ⟨M, hM⟩ : ∃ M, i * Y = M := ⟨_, rfl⟩
  rw [hM] at hs2 h6 h7 ⊢
  have w2 : IntKind.u64.wrap (M + Y) = M + Y := u64_in (by omega) (by omega)
  have w3 : IntKind.u64.wrap (M + Y - 1) = M + Y - 1 := u64_in (by omega) (by omega)
  have c0 : (w.alloc (.cells #[.int .i64 L, .int .u64 i] 30)).cell? ⟨w.heap.size, 0, none⟩ = some (.int .i64 L) := by simp [go_sem]
  have c1 : (w.alloc (.cells #[.int .i64 L, .int .u64 i] 30)).cell? ⟨w.heap.size, 1, none⟩ = some (.int .u64 i) := by simp [go_sem]
  clear hb0 hb1 hL0 hL1 hi0 hi1 hX hP h1 h2 h3 h4 h5 h6 h7 hp hq hY hM
  go_enter Try.func13, Try.ntmps13
  go_upto_region 1 with fail
  go_quiet (first | (go_at_call 17; with_reducible refine Calls.quiet_of_same (CC.out _)))
  all_goals go_upto_region 4 with fail
  all_goals go_quiet (fail)
  all_goals go_wp2
  all_goals go_returns
  all_goals exact ⟨rfl, (by repeat' (first | (with_reducible exact Below.refl _ _) | (with_reducible assumption) | (with_reducible refine below_over ?_ _ _) | (with_reducible refine Lw.below_alloc ?_ _) | (with_reducible refine Below.drew ?_) | (with_reducible refine below_drewN ?_ _) | (with_reducible refine Below.setCell ?_ ?_ _) | go_size))⟩
theorem cspan_any (b L i : Int) (w : World) (hb0 : -9223372036854775808 ≤ b) (hb1 : b ≤ 9223372036854775807) (hL0 : -9223372036854775808 ≤ L) (hL1 : L ≤ 9223372036854775807) (hi0 : 0 ≤ i) (hi1 : i ≤ 18446744073709551615) :
    Calls Try.prog 13 #[.int .i64 b, .agg #[.int .i64 L, .int .u64 i]] w fun e w' => e = .returned (.tuple #[.int .u64 (spLo b L i), .int .u64 (spHi b L i), .bool (isP b L i)]) ∧ Below w.heap.size w w' := by
  unfold spLo spHi
  cases h : isP b L i with
  | false => rw [if_neg (by simp), if_neg (by simp)]; exact cspan_n b L i w hb0 hb1 hL0 hL1 hi0 hi1 h
  | true => rw [if_pos rfl, if_pos rfl]; exact cspan_y b L i w hb0 hb1 hL0 hL1 hi0 hi1 h
set_option maxRecDepth 100000 in
set_option maxHeartbeats 4000000 in
theorem chalves_0 (b i : Int) (w : World) :
    Calls Try.prog 15 #[.int .i64 b, .agg #[.int .i64 0, .int .u64 i]] w fun e w' => e = .returned (.tuple #[.agg #[.int .i64 0, .int .u64 0], .agg #[.int .i64 0, .int .u64 0], .bool false]) ∧ Below w.heap.size w w' := by
  go_enter Try.func15, Try.ntmps15
  go_upto_region 1 with fail
  refine wp_region_held_drew (S := (fun w' => w'.cell? ⟨w.heap.size, 0, none⟩ = some (.int .i64 0) ∧ w'.cell? ⟨w.heap.size, 1, none⟩ = some (.int .u64 i))) (by kernel_rfl) (by simp [go_sem]) (fun hHeld => ?_)
  refine wpAnyH_take (i := 0) (v := ?_) rfl (by kernel_rfl) (by kernel_rfl) (by kernel_rfl) (fun _ _ _ h => h) (Or.inl ⟨by rfl, ?_⟩) hHeld ?_
  rotate_left
  · intro w hSw
    (try dsimp only at hSw)
    go_simp
    (try with_reducible rfl)
  (try simp only [List.getElem_toArray, List.getElem_cons_zero, List.getElem_cons_succ, Act.put, List.setIfInBounds_toArray, List.set_cons_zero, List.set_cons_succ])
  refine wpAnyH_take (i := 1) (v := ?_) rfl (by kernel_rfl) (by kernel_rfl) (by kernel_rfl) (fun _ _ _ h => h) (Or.inl ⟨by rfl, ?_⟩) hHeld ?_
  rotate_left
  · intro w hSw
    (try dsimp only at hSw)
    go_simp
    (try with_reducible rfl)
  (try simp only [List.getElem_toArray, List.getElem_cons_zero, List.getElem_cons_succ, Act.put, List.setIfInBounds_toArray, List.set_cons_zero, List.set_cons_succ])
  refine wpAnyH_take (i := 2) (v := ?_) rfl (by kernel_rfl) (by kernel_rfl) (by kernel_rfl) (fun _ _ _ h => h) (Or.inl ⟨by rfl, ?_⟩) hHeld ?_
  rotate_left
  · intro w hSw
    (try dsimp only at hSw)
    go_simp
    (try with_reducible rfl)
  (try simp only [List.getElem_toArray, List.getElem_cons_zero, List.getElem_cons_succ, Act.put, List.setIfInBounds_toArray, List.set_cons_zero, List.set_cons_succ])
  refine wpAnyH_take (i := 3) (v := ?_) rfl (by kernel_rfl) (by kernel_rfl) (by kernel_rfl) (fun _ _ _ h => h) (Or.inl ⟨by rfl, ?_⟩) hHeld ?_
  rotate_left
  · intro w hSw
    (try dsimp only at hSw)
    go_simp
    (try with_reducible rfl)
  (try simp only [List.getElem_toArray, List.getElem_cons_zero, List.getElem_cons_succ, Act.put, List.setIfInBounds_toArray, List.set_cons_zero, List.set_cons_succ])
  refine wpAnyH_take (i := 4) (v := undef) rfl (by kernel_rfl) (by kernel_rfl) (by kernel_rfl) (fun _ _ _ h => h) (Or.inr ⟨by rfl, rfl⟩) hHeld ?_
  (try simp only [List.getElem_toArray, List.getElem_cons_zero, List.getElem_cons_succ, Act.put, List.setIfInBounds_toArray, List.set_cons_zero, List.set_cons_succ])
  refine wpAnyH_take (i := 5) (v := undef) rfl (by kernel_rfl) (by kernel_rfl) (by kernel_rfl) (fun _ _ _ h => h) (Or.inr ⟨by rfl, rfl⟩) hHeld ?_
  (try simp only [List.getElem_toArray, List.getElem_cons_zero, List.getElem_cons_succ, Act.put, List.setIfInBounds_toArray, List.set_cons_zero, List.set_cons_succ])
  refine wpAnyH_take (i := 6) (v := undef) rfl (by kernel_rfl) (by kernel_rfl) (by kernel_rfl) (fun _ _ _ h => h) (Or.inr ⟨by rfl, rfl⟩) hHeld ?_
  (try simp only [List.getElem_toArray, List.getElem_cons_zero, List.getElem_cons_succ, Act.put, List.setIfInBounds_toArray, List.set_cons_zero, List.set_cons_succ])
  refine wpAnyH_take (i := 7) (v := undef) rfl (by kernel_rfl) (by kernel_rfl) (by kernel_rfl) (fun _ _ _ h => h) (Or.inr ⟨by rfl, rfl⟩) hHeld ?_
  (try simp only [List.getElem_toArray, List.getElem_cons_zero, List.getElem_cons_succ, Act.put, List.setIfInBounds_toArray, List.set_cons_zero, List.set_cons_succ])
  refine wpAnyH_take (i := 8) (v := undef) rfl (by kernel_rfl) (by kernel_rfl) (by kernel_rfl) (fun _ _ _ h => h) (Or.inr ⟨by rfl, rfl⟩) hHeld ?_
  (try simp only [List.getElem_toArray, List.getElem_cons_zero, List.getElem_cons_succ, Act.put, List.setIfInBounds_toArray, List.set_cons_zero, List.set_cons_succ])
  refine wpAnyH_ready (rs := [9]) (by kernel_rfl) (by simp) ?_
  refine AllReadyH.cons rfl (fun K hK => ?_) AllReadyH.nil
  go_simp
  refine hK.out _ _ (by simp [go_sem]) (fun hHeld => ?_)
  clear hK K
  (try simp only [List.getElem_toArray, List.getElem_cons_zero, List.getElem_cons_succ, Act.put, List.setIfInBounds_toArray, List.set_cons_zero, List.set_cons_succ])
  refine wpAnyH_take (i := 10) (v := undef) rfl (by kernel_rfl) (by kernel_rfl) (by kernel_rfl) (fun _ _ _ h => h) (Or.inr ⟨by rfl, rfl⟩) hHeld ?_
  (try simp only [List.getElem_toArray, List.getElem_cons_zero, List.getElem_cons_succ, Act.put, List.setIfInBounds_toArray, List.set_cons_zero, List.set_cons_succ])
  refine wpAnyH_take (i := 11) (v := ?_) rfl (by kernel_rfl) (by kernel_rfl) (by kernel_rfl) (fun _ _ _ h => h) (Or.inl ⟨by rfl, ?_⟩) hHeld ?_
  rotate_left
  · intro w hSw
    (try dsimp only at hSw)
    go_simp
    (try with_reducible rfl)
  (try simp only [List.getElem_toArray, List.getElem_cons_zero, List.getElem_cons_succ, Act.put, List.setIfInBounds_toArray, List.set_cons_zero, List.set_cons_succ])
  refine wpAnyH_done (by kernel_rfl) ?_ _
  go_wp2
  all_goals refine bodyPost_ret (v := .tuple #[.agg #[.int .i64 0, .int .u64 0], .agg #[.int .i64 0, .int .u64 0], .bool false]) (by simp [results, Try.results15, go_sem, *]) rfl ?_
  all_goals exact ⟨rfl, (by repeat' (first | (with_reducible exact Below.refl _ _) | (with_reducible assumption) | (with_reducible refine below_over ?_ _ _) | (with_reducible refine Lw.below_alloc ?_ _) | (with_reducible refine Below.drew ?_) | (with_reducible refine below_drewN ?_ _) | (with_reducible refine Below.setCell ?_ ?_ _) | go_size))⟩
set_option maxRecDepth 100000 in
set_option maxHeartbeats 4000000 in
theorem chalves_n (b L i : Int) (w : World) (hb0 : -9223372036854775808 ≤ b) (hb1 : b ≤ 9223372036854775807) (hL0 : -9223372036854775808 ≤ L) (hL1 : L ≤ 9223372036854775807) (hi0 : 0 ≤ i) (hi1 : i ≤ 18446744073709551615) (hP : isP b L i = false) (hL : ¬ L = 0) :
    Calls Try.prog 15 #[.int .i64 b, .agg #[.int .i64 L, .int .u64 i]] w fun e w' => e = .returned (.tuple #[.agg #[.int .i64 0, .int .u64 0], .agg #[.int .i64 0, .int .u64 0], .bool false]) ∧ Below w.heap.size w w' := by
  have CC := Lib.hid (fun w => count_any b L w hb0 hb1 hL0 hL1)
  obtain ⟨X, hX⟩ : ∃ X, cntP b L = X := ⟨_, rfl⟩
  rw [isP_cnt hi0] at hP
  rw [hX] at CC hP
  have hP := of_decide_eq_false hP
  have d1 : decide (X ≤ i) = true := decide_eq_true (by omega)
  have f1 : X ≤ i := by omega
  have f2 : ¬ i < X := hP
  have l1 : (L == 0) = false := by simpa using hL
  clear hb0 hb1 hL0 hL1 hi0 hi1 hX hP
  go_enter Try.func15, Try.ntmps15
  go_upto_region 1 with fail
  go_quiet (first | (go_at_call 17; with_reducible refine Calls.quiet_of_same (CC.out _)))
  all_goals go_wp2
  all_goals refine bodyPost_ret (v := .tuple #[.agg #[.int .i64 0, .int .u64 0], .agg #[.int .i64 0, .int .u64 0], .bool false]) (by simp [results, Try.results15, go_sem, *]) rfl ?_
  all_goals exact ⟨rfl, (by repeat' (first | (with_reducible exact Below.refl _ _) | (with_reducible assumption) | (with_reducible refine below_over ?_ _ _) | (with_reducible refine Lw.below_alloc ?_ _) | (with_reducible refine Below.drew ?_) | (with_reducible refine below_drewN ?_ _) | (with_reducible refine Below.setCell ?_ ?_ _) | go_size))⟩
set_option maxRecDepth 100000 in
set_option maxHeartbeats 4000000 in
theorem chalves_y (b L i : Int) (w : World) (hb0 : -9223372036854775808 ≤ b) (hb1 : b ≤ 9223372036854775807) (hL0 : -9223372036854775808 ≤ L) (hL1 : L ≤ 9223372036854775807) (hi0 : 0 ≤ i) (hi1 : i ≤ 18446744073709551615) (hP : isP b L i = true) (hL : ¬ L = 0) :
    Calls Try.prog 15 #[.int .i64 b, .agg #[.int .i64 L, .int .u64 i]] w fun e w' => e = .returned (.tuple #[.agg #[.int .i64 (L - 1), .int .u64 (2 * i)], .agg #[.int .i64 (L - 1), .int .u64 (2 * i + 1)], .bool true]) ∧ Below w.heap.size w w' := by
  have CC := Lib.hid (fun w => count_any b L w hb0 hb1 hL0 hL1)
  obtain ⟨h1, h2, h3, h4, h5, h6, h7⟩ := isP_bd hP hi0
  have hq := p2_bd (show (b - L).toNat ≤ 60 by omega)
  have w1 : wrap64 (L - 1) = L - 1 := IntWalk.wrap64_in _ ⟨by omega, by omega⟩
  have w2 : IntKind.i64.wrap (L - 1) = L - 1 := IntWalk.i64_in _ ⟨by omega, by omega⟩
  have w3 : IntKind.u64.wrap (2 * i) = 2 * i := u64_in (by omega) (by omega)
  have w4 : IntKind.u64.wrap (2 * i + 1) = 2 * i + 1 := u64_in (by omega) (by omega)
  obtain ⟨X, hX⟩ : ∃ X, cntP b L = X := ⟨_, rfl⟩
  rw [isP_cnt hi0] at hP
  rw [hX] at CC hP
  have hP := of_decide_eq_true hP
  have d1 : decide (X ≤ i) = false := decide_eq_false (by omega)
  have f1 : ¬ X ≤ i := by omega
  have f2 : i < X := hP
  have l1 : (L == 0) = false := by simpa using hL
  clear hb0 hb1 hL0 hL1 hi0 hi1 hX hP h1 h2 h3 h4 h5 h6 h7 hq
  go_enter Try.func15, Try.ntmps15
  go_upto_region 1 with fail
  go_quiet (first | (go_at_call 17; with_reducible refine Calls.quiet_of_same (CC.out _)))
  all_goals go_upto_region 5 with fail
  all_goals go_region
  all_goals go_wp2
  all_goals refine bodyPost_ret (v := .tuple #[.agg #[.int .i64 (L - 1), .int .u64 (2 * i)], .agg #[.int .i64 (L - 1), .int .u64 (2 * i + 1)], .bool true]) (by simp [results, Try.results15, go_sem, *]) rfl ?_
  all_goals exact ⟨rfl, (by repeat' (first | (with_reducible exact Below.refl _ _) | (with_reducible assumption) | (with_reducible refine below_over ?_ _ _) | (with_reducible refine Lw.below_alloc ?_ _) | (with_reducible refine Below.drew ?_) | (with_reducible refine below_drewN ?_ _) | (with_reducible refine Below.setCell ?_ ?_ _) | go_size))⟩
theorem chalves_any (b L i : Int) (w : World) (hb0 : -9223372036854775808 ≤ b) (hb1 : b ≤ 9223372036854775807) (hL0 : -9223372036854775808 ≤ L) (hL1 : L ≤ 9223372036854775807) (hi0 : 0 ≤ i) (hi1 : i ≤ 18446744073709551615) :
    Calls Try.prog 15 #[.int .i64 b, .agg #[.int .i64 L, .int .u64 i]] w fun e w' => e = .returned (.tuple #[.agg #[.int .i64 (haL b L i), .int .u64 (haX b L i)], .agg #[.int .i64 (haL b L i), .int .u64 (haY b L i)], .bool (haB b L i)]) ∧ Below w.heap.size w w' := by
  unfold haL haX haY haB
  by_cases hL : L = 0
  · subst hL
    have e : (isP b 0 i && decide ((0 : Int) < 0)) = false := by simp
    rw [e, if_neg (by simp), if_neg (by simp), if_neg (by simp)]
    exact chalves_0 b i w
  · cases h : isP b L i with
    | false =>
      have e : (false && decide ((0 : Int) < L)) = false := rfl
      rw [e, if_neg (by simp), if_neg (by simp), if_neg (by simp)]
      exact chalves_n b L i w hb0 hb1 hL0 hL1 hi0 hi1 h hL
    | true =>
      obtain ⟨h1, h2, h3, h4, h5, h6, h7⟩ := isP_bd h hi0
      have e : (true && decide ((0 : Int) < L)) = true := by simp; omega
      rw [e, if_pos rfl, if_pos rfl, if_pos rfl]
      exact chalves_y b L i w hb0 hb1 hL0 hL1 hi0 hi1 h hL
theorem flatP_app (us vs : List (Int × Int)) : flatP (us ++ vs) = flatP us ++ flatP vs := List.flatMap_append
/-- What cut holds: the row of the left pieces in a cell, and a block for each right piece, the last one first. -/
structure CutI (w0 w : World) (N : Nat) (xs : List (Nat × Nat)) (rs : List (Nat × Nat × Nat)) (v : Value) : Prop where
  cell : w.heap[w0.heap.size]? = some (.cells #[v] 24 (0, 0))
  own : w.ownsRow w0.heap.size 30 2 v xs.length (flatP (ints xs))
  ne : ∀ k, v.ownBlock = some k → k ≠ w0.heap.size ∧ ∀ r ∈ rs, k ≠ r.1
  bx : ∀ r ∈ rs, w.heap[r.1]? = some (.cells #[.int .i64 (r.2.1 : Int), .int .u64 (r.2.2 : Int)] 30 (0, 0)) ∧ r.1 ≠ w0.heap.size ∧ w0.heap.size ≤ r.1
  below : Below w0.heap.size w0 w
  len : xs.length + rs.length ≤ N
theorem hp_lt {w : World} {b : Nat} {o : Obj} (h : w.heap[b]? = some o) : b < w.heap.size := by
  rcases Nat.lt_or_ge b w.heap.size with h1 | h1
  · exact h1
  · rw [Array.getElem?_eq_none h1] at h; cases h
theorem CutI.cl {w0 w : World} {N : Nat} {xs : List (Nat × Nat)} {rs : List (Nat × Nat × Nat)} {v : Value} (h : CutI w0 w N xs rs v) : w.cell? ⟨w0.heap.size, 0, none⟩ = some v ∧ w.frozen? ⟨w0.heap.size, 0, none⟩ = false ∧ w0.heap.size < w.heap.size := by
  have h1 := h.cell
  exact ⟨box_cell h1 rfl, by simp [World.frozen?, h1], hp_lt h1⟩
theorem ints_one (k a : Nat) : ints [(k, a)] = [((k : Int), (a : Int))] := rfl
/-- A piece put behind the row. -/
theorem CutI.app {w0 w w1 w2 : World} {N : Nat} {xs : List (Nat × Nat)} {rs : List (Nat × Nat × Nat)} {v v' : Value} {k a : Nat} (h : CutI w0 w N xs rs v) (hb : Below w.heap.size w w1) (hlt : w.heap.size < w1.heap.size)
    (ho : w2.ownsRow w0.heap.size 30 2 v' (xs.length + 1) (flatP (ints xs) ++ [.int .i64 (k : Int), .int .u64 (a : Int)])) (hg : w1.grownBy w2 v.ownBlock) (hv' : ∀ k, v'.ownBlock = some k → v.ownBlock = some k ∨ w1.heap.size ≤ k) :
    CutI w0 (w2.setCell ⟨w0.heap.size, 0, none⟩ v') (N + 1) (xs ++ [(k, a)]) rs v' := by
  have hl := h.cl.2.2
  have hnv : ∀ b, b < w.heap.size → (∀ k, v.ownBlock = some k → k ≠ b) → w2.heap[b]? = w.heap[b]? := fun b hlb hb1 => by
    rw [hg.block b (by have := hb.4; omega) (fun e => hb1 b e.symm rfl)]
    exact hb.5 b hlb
  have hs : ∀ b, b ≠ w0.heap.size → (w2.setCell ⟨w0.heap.size, 0, none⟩ v').heap[b]? = w2.heap[b]? := fun b hb1 => by
    simp only [World.setCell, Array.getElem?_modify]
    rw [if_neg (fun e => hb1 e.symm)]
  have hc2 : w2.heap[w0.heap.size]? = some (.cells #[v] 24 (0, 0)) := by
    rw [hnv _ hl (fun k hk => (h.ne k hk).1)]
    exact h.cell
  have hn' : ∀ k, v'.ownBlock = some k → k ≠ w0.heap.size ∧ ∀ r ∈ rs, k ≠ r.1 := fun k hk => by
    rcases hv' k hk with g | g
    · exact h.ne k g
    · have h4 := hb.4
      exact ⟨by omega, fun r hr => by have := hp_lt (h.bx r hr).1; omega⟩
  refine ⟨?_, ?_, hn', ?_, ?_, ?_⟩
  · simp [World.setCell, Array.getElem?_modify, hc2]
  · rw [List.length_append, ints_app, flatP_app, ints_one]
    refine ⟨ho.1, ?_⟩
    rcases ho.2 with g | ⟨g, cap, cur, e1, e2, e3, e4⟩
    · exact .inl g
    · refine .inr ⟨g, cap, cur, e1, e2, ?_, e4⟩
      rw [hs g (hn' g (by rw [e1]; rfl)).1]
      exact e3
  · intro r hr
    obtain ⟨g1, g2, g3⟩ := h.bx r hr
    refine ⟨?_, g2, g3⟩
    rw [hs _ g2, hnv _ (hp_lt g1) (fun k hk => (h.ne k hk).2 r hr)]
    exact g1
  · have hbl := h.below
    have h1 : Below w0.heap.size w0 w1 := hbl.trans (hb.mono hbl.4)
    have h2 : Kept (fun _ => False) w0 w2 := (Kept.of_below (F := fun _ => False) h1).grown hg (fun q hq => .inr (by rcases h.own.lt q hq with ⟨g, _⟩; exact g))
    exact (h2.set (.inr (Nat.le_refl _)) 0 v').below
  · rw [List.length_append]
    have := h.len
    simp
    omega
theorem CutI.st {w0 w w1 w2 : World} {N : Nat} {xs : List (Nat × Nat)} {rs : List (Nat × Nat × Nat)} {v : Value} (h : CutI w0 w N xs rs v) (hb : Below w.heap.size w w1) (hg : w1.grownBy w2 v.ownBlock) : w2.cell? ⟨w0.heap.size, 0, none⟩ = some v ∧ w2.frozen? ⟨w0.heap.size, 0, none⟩ = false := by
  have hl := h.cl.2.2
  have h1 : w2.heap[w0.heap.size]? = some (.cells #[v] 24 (0, 0)) := by
    rw [hg.block _ (by have := hb.4; omega) (fun e => (h.ne _ e.symm).1 rfl), hb.5 _ hl]
    exact h.cell
  exact ⟨box_cell h1 rfl, by simp [World.frozen?, h1]⟩
theorem own_slice {w : World} {base : Nat} {e : TypeId} {size : Nat} {v : Value} {n : Nat} {xs : List Value} (h : w.ownsRow base e size v n xs) : ∃ (A : Option Addr) (m cap : Nat), v = .slice A m cap := by
  rcases h.2 with ⟨h1, _⟩ | ⟨g, cap, cur, h1, _⟩
  · exact ⟨_, _, _, h1⟩
  · exact ⟨_, _, _, h1⟩
theorem CutI.same {w0 w : World} {N : Nat} {xs : List (Nat × Nat)} {rs : List (Nat × Nat × Nat)} {v : Value} (h : CutI w0 w N xs rs v) : w.setCell ⟨w0.heap.size, 0, none⟩ v = w := by
  have h1 := h.cell
  have h2 : (w.setCell ⟨w0.heap.size, 0, none⟩ v).heap = w.heap := by
    apply Array.ext_getElem?
    intro i
    simp only [World.setCell, Array.getElem?_modify]
    by_cases hi : w0.heap.size = i
    · subst hi
      rw [if_pos rfl, h1]
      rfl
    · rw [if_neg hi]
  have h3 : w.setCell ⟨w0.heap.size, 0, none⟩ v = { w with heap := (w.setCell ⟨w0.heap.size, 0, none⟩ v).heap } := rfl
  rw [h3, h2]
theorem CutI.mono {w0 w : World} {N M : Nat} {xs : List (Nat × Nat)} {rs : List (Nat × Nat × Nat)} {v : Value} (h : CutI w0 w N xs rs v) (hN : N ≤ M) : CutI w0 w M xs rs v :=
  ⟨h.cell, h.own, h.ne, h.bx, h.below, Nat.le_trans h.len hN⟩
/-- A block for one more right piece. -/
theorem own2_up' {w w' : World} {base : Nat} {e : TypeId} {size : Nat} {v : Value} {n : Nat} {xs : List Value} (h : w.ownsRow base e size v n xs) (hb : Below w.heap.size w w') : w'.ownsRow base e size v n xs :=
  (Kept.of_below (F := fun _ => False) hb).own h (fun _ _ h => h)
theorem CutI.right {w0 w w1 : World} {N : Nat} {xs : List (Nat × Nat)} {rs : List (Nat × Nat × Nat)} {v : Value} {k a g : Nat} (h : CutI w0 w N xs rs v) (hb : Below w.heap.size w w1) (hg : w.heap.size ≤ g) (hc : w1.heap[g]? = some (.cells #[.int .i64 (k : Int), .int .u64 (a : Int)] 30 (0, 0))) :
    CutI w0 w1 (N + 1) xs ((g, k, a) :: rs) v := by
  have hl := h.cl.2.2
  have hk : ∀ b, b < w.heap.size → w1.heap[b]? = w.heap[b]? := hb.5
  refine ⟨?_, own2_up' h.own hb, fun q hq => ?_, fun r hr => ?_, h.below.trans (hb.mono h.below.4), ?_⟩
  · rw [hk _ hl]
    exact h.cell
  · refine ⟨(h.ne q hq).1, fun r hr => ?_⟩
    rcases List.mem_cons.1 hr with rfl | hr
    · have := (h.own.lt q hq).2
      show q ≠ g
      omega
    · exact (h.ne q hq).2 r hr
  · rcases List.mem_cons.1 hr with rfl | hr
    · exact ⟨hc, by show g ≠ _; omega, by show _ ≤ g; omega⟩
    · obtain ⟨g1, g2, g3⟩ := h.bx r hr
      exact ⟨by rw [hk _ (hp_lt g1)]; exact g1, g2, g3⟩
  · have := h.len
    simp
    omega
theorem CutI.two {w0 w : World} {N : Nat} {xs : List (Nat × Nat)} {rs : List (Nat × Nat × Nat)} {v : Value} {g k a : Nat} (h : CutI w0 w N xs ((g, k, a) :: rs) v) : w.cell? ⟨g, 0, none⟩ = some (.int .i64 (k : Int)) ∧ w.cell? ⟨g, 1, none⟩ = some (.int .u64 (a : Int)) := by
  have h1 := (h.bx (g, k, a) (List.mem_cons_self ..)).1
  exact ⟨box_cell h1 rfl, box_cell h1 rfl⟩
theorem CutI.tail {w0 w : World} {N : Nat} {xs : List (Nat × Nat)} {rs : List (Nat × Nat × Nat)} {v : Value} {r : Nat × Nat × Nat} (h : CutI w0 w (N + 1) xs (r :: rs) v) : CutI w0 w N xs rs v :=
  ⟨h.cell, h.own, fun k hk => ⟨(h.ne k hk).1, fun q hq => (h.ne k hk).2 q (List.mem_cons_of_mem _ hq)⟩, fun q hq => h.bx q (List.mem_cons_of_mem _ hq), h.below, by have := h.len; simp at this; omega⟩
set_option maxRecDepth 100000 in
set_option maxHeartbeats 4000000 in
theorem clo_any (w0 w : World) (N : Nat) (hN : N ≤ 200) (xs : List (Nat × Nat)) (rs : List (Nat × Nat × Nat)) (g k a : Nat) (v : Value) (u : FrameMode) (h : CutI w0 w (N + 1) xs ((g, k, a) :: rs) v) :
    CallsD Try.prog 21 #[.pointer (some ⟨w0.heap.size, 0, none⟩), .pointer (some ⟨g, 0, none⟩)] u w fun e u' w' => u' = u ∧ e = .returned (.tuple #[]) ∧ ∃ v', CutI w0 w' (N + 1) (xs ++ [(k, a)]) rs v' := by
  obtain ⟨i0, hi_, hz0, hz1, hz2⟩ := info_parts pc_info
  obtain ⟨c0, c1, hlt⟩ := h.cl
  obtain ⟨b0, b1⟩ := h.two
  have HC := Lib.hid h
  have hlen : xs.length + 1 ≤ 201 := by have := h.len; simp at this; omega
  clear h
  go_enter_d Try.func21, Try.ntmps21
  go_wp2_with (at_builtin; go_must (refine wpList_append_lies _ rfl _ _ 24 rfl w0.heap.size 30 i0 (.agg #[.int .i64 0, .int .u64 0]) 2 16 pcs_u hi_ hz0 hz1 hz2 rfl (by decide) _ _ _ rfl (HC.out.own.alloc _) ⟨_, 0, none⟩ 1 1 [.int .i64 (k : Int), .int .u64 (a : Int)] rfl rfl (pc_news (pc_alloc (by simp))) (pc_one _ _) (by decide) (by unfold maxLen; omega) (by omega) (by simp; omega) _ rfl ?_); intro g7 cap7 w7 hown7 hgrow7 hat7 hlt7; obtain ⟨s7, z7⟩ := HC.out.tail.st (Lw.below_alloc (Below.refl _ _) _) hgrow7; have H7 := Lib.hid (HC.out.tail.app (k := k) (a := a) (Lw.below_alloc (Below.refl _ _) _) (by simp) hown7 hgrow7 (fun q hq => by injection hq with hq; subst hq; rcases hat7 with g | g; exact .inl g; exact .inr (Nat.le_of_eq g.symm))); clear hown7 hgrow7 hat7 hlt7)
  go_end0
  exact ⟨rfl, _, H7.out⟩
/-- What is deferred, for one right piece. -/
def clo (b : Nat) (r : Nat × Nat × Nat) : Deferred := { target := .fn (.func 21) #[.pointer (some ⟨b, 0, none⟩), .pointer (some ⟨r.1, 0, none⟩)], args := #[] }
theorem leaves_clo {fn : Func} {tmps : Array Value} {R : Ending → World → Prop} (w0 : World) (N : Nat) (hN : N ≤ 200) : ∀ (rs : List (Nat × Nat × Nat)) (xs : List (Nat × Nat)) (v : Value) (w : World), CutI w0 w (N + 1) xs rs v →
    (∀ v' w', CutI w0 w' (N + 1) (xs ++ rs.map (·.2)) [] v' → ∃ u, (results fn tmps).run Try.prog w' = .ok u w' ∧ R (.returned u) w') →
    Leaves Try.prog fn tmps R (rs.map (clo w0.heap.size)) .returning w
  | [], xs, v, w, h, hR => by
    obtain ⟨u, h1, h2⟩ := hR v w (by rw [List.map_nil, List.append_nil]; exact h)
    exact ⟨u, h1, h2⟩
  | (g, k, a) :: rs, xs, v, w, h, hR => by
    refine leaves_cons (f := 21) (args := #[.pointer (some ⟨w0.heap.size, 0, none⟩), .pointer (some ⟨g, 0, none⟩)]) (by simp) (by simp [go_sem]) ?_
    refine (clo_any w0 w N hN xs rs g k a v .returning h).mono ?_
    rintro e u' w' ⟨rfl, rfl, v', h'⟩
    exact leaves_clo w0 N hN rs _ v' w' h' (fun v2 w2 h2 => hR v2 w2 (by
      rw [List.append_assoc] at h2
      exact h2))
theorem loop_k {P : Program} {Q : Exit → Act → World → Prop} {a : Act} {w : World} {c : Code} (I : Act → World → Prop) (μ : Act → World → Nat) (h₀ : I a w)
    (round : ∀ a w, I a w → ∀ (K : Act → World → Prop), (∀ a' w', I a' w' → μ a' w' < μ a w → K a' w') → c.wp P (Exit.then K Q) a w) : (Code.loop c).wp P Q a w :=
  wp_loop I μ h₀ (fun a w h => round a w h _ (fun _ _ h1 h2 => ⟨h1, h2⟩))
/-- What the loop of cut keeps. -/
def CutL (w0 : World) (B E S : Nat) (j e L : Nat) (xs : List (Nat × Nat)) (rs : List (Nat × Nat × Nat)) (v : Value) (w : World) : Prop :=
  CutI w0 w (2 * L) xs rs v ∧ (j ≤ e ∧ L ≤ B + 1) ∧ e * 2 ^ L ≤ 2 ^ B ∧ ∀ m, Cov B (e * 2 ^ L) (j * 2 ^ L) m → Cov B E S (xs ++ m ++ rs.map (·.2))
theorem CutL.lev {w0 w : World} {B E S j e L : Nat} {xs : List (Nat × Nat)} {rs : List (Nat × Nat × Nat)} {v : Value} (h : CutL w0 B E S j e L xs rs v w) (hj : j < e) : L ≤ B := by
  rcases Nat.lt_or_ge B L with g | g
  · have h3 : 2 ^ B < 2 ^ L := Nat.pow_lt_pow_right (by omega) g
    have h4 := h.2.2.1
    have h5 : 1 * 2 ^ L ≤ e * 2 ^ L := Nat.mul_le_mul_right _ (by omega)
    omega
  · exact g
theorem half_pow {a L : Nat} (h : a % 2 = 0) : a / 2 * 2 ^ (L + 1) = a * 2 ^ L := by
  rw [Nat.pow_succ, Nat.mul_comm (2 ^ L), ← Nat.mul_assoc, Nat.div_mul_cancel (Nat.dvd_of_mod_eq_zero h)]
/-- One level up: both even. -/
theorem CutL.up {w0 w : World} {B E S j e L : Nat} {xs : List (Nat × Nat)} {rs : List (Nat × Nat × Nat)} {v : Value} (hL : L ≤ B) (h : CutI w0 w (2 * (L + 1)) xs rs v) (hj : j ≤ e) (hj2 : j % 2 = 0) (he2 : e % 2 = 0) (hb : e * 2 ^ L ≤ 2 ^ B) (hc : ∀ m, Cov B (e * 2 ^ L) (j * 2 ^ L) m → Cov B E S (xs ++ m ++ rs.map (·.2))) :
    CutL w0 B E S (j / 2) (e / 2) (L + 1) xs rs v w :=
  ⟨h, ⟨by omega, by omega⟩, by rw [half_pow he2]; exact hb, fun m hm => hc m (by rw [half_pow he2, half_pow hj2] at hm; exact hm)⟩
theorem cov_left {B E S j e L : Nat} {xs : List (Nat × Nat)} {ms : List (Nat × Nat)} (hj : j < e) (hj1 : j % 2 = 1) (hb : e * 2 ^ L ≤ 2 ^ B) (hc : ∀ m, Cov B (e * 2 ^ L) (j * 2 ^ L) m → Cov B E S (xs ++ m ++ ms)) : ∀ m, Cov B (e * 2 ^ L) ((j + 1) * 2 ^ L) m → Cov B E S ((xs ++ [(L, j)]) ++ m ++ ms) := fun m hm => by
  have h1 := hc _ (hm.left hj1 hj hb)
  rw [List.append_assoc xs, List.singleton_append]
  exact h1
theorem cov_right {B E S j e L : Nat} {xs : List (Nat × Nat)} {ms : List (Nat × Nat)} (he1 : (e + 1) % 2 = 1) (hb : (e + 1) * 2 ^ L ≤ 2 ^ B) (hc : ∀ m, Cov B ((e + 1) * 2 ^ L) (j * 2 ^ L) m → Cov B E S (xs ++ m ++ ms)) : ∀ m, Cov B (e * 2 ^ L) (j * 2 ^ L) m → Cov B E S (xs ++ m ++ (L, e) :: ms) := fun m hm => by
  have h1 := hc _ (hm.last (by omega) hb (Nat.dvd_mul_left _ _))
  rw [← List.append_assoc, List.append_assoc (xs ++ m), List.singleton_append] at h1
  exact h1
def CutA (w0 : World) (B E S : Nat) (a : Act) (w : World) : Prop :=
  ∃ (j e L : Nat) (xs : List (Nat × Nat)) (rs : List (Nat × Nat × Nat)) (v : Value) (u2 u3 u6 u7 u8 u9 u10 u11 u12 u13 u14 u15 u16 u17 u18 u19 u20 u21 u22 u23 u24 u25 u26 u27 u28 u29 u30 u31 u32 u33 u34 u35 u36 : Value), CutL w0 B E S j e L xs rs v w ∧ a = { tmps := #[.int .u64 j, .int .u64 e, u2, u3, .pointer (some ⟨w0.heap.size, 0, none⟩), .int .i64 L, u6, u7, u8, u9, u10, u11, u12, u13, u14, u15, u16, u17, u18, u19, u20, u21, u22, u23, u24, u25, u26, u27, u28, u29, u30, u31, u32, u33, u34, u35, u36], defers := rs.map (clo w0.heap.size) }
set_option maxRecDepth 100000 in
set_option maxHeartbeats 4000000 in
theorem cut_any (B S E : Nat) (w0 : World) (hB : B ≤ 59) (hS : S ≤ E) (hE : E ≤ 2 ^ B) :
    Calls Try.prog 18 #[.int .u64 S, .int .u64 E] w0 fun e w' => ∃ (l : List (Nat × Nat)) (v : Value), e = .returned v ∧ Cov B E S l ∧ w'.ownsRow w0.heap.size 30 2 v l.length (flatP (ints l)) ∧ Below w0.heap.size w0 w' := by
  obtain ⟨i0, hi_, hz0, hz1, hz2⟩ := info_parts pc_info
  have hmf : ∀ (fn : Fn) (first cap : Array Value) (w : World), (Instr.makeFunc fn first cap).run Try.prog w = .ok (.func fn first cap) w := fun _ _ _ _ => rfl
  have HE := Lib.hid hE
  have HS := Lib.hid hS
  clear hE hS
  go_enter_defers Try.func18, Try.ntmps18
  go_wp2
  refine loop_k (CutA w0 B E S) (fun a _ => (intOf (a.tmps.getD 1 undef)).toNat) ?_ ?_
  · refine ⟨S, E, 0, [], [], .slice none 0 0, _, _, _, _, _, _, _, _, _, _, _, _, _, _, _, _, _, _, _, _, _, _, _, _, _, _, _, _, _, _, _, _, _, ⟨⟨heap_alloc_new w0 _, ⟨rfl, .inl ⟨rfl, rfl⟩⟩, fun k hk => (by cases hk), fun r hr => (by cases hr), Lw.below_alloc (Below.refl _ _) _, Nat.le_refl _⟩, ⟨HS.out, by omega⟩, by simpa using HE.out, fun m hm => by simpa using hm⟩, rfl⟩
  · rintro a wr ⟨j, e, L, xs, rs, v, u2, u3, u6, u7, u8, u9, u10, u11, u12, u13, u14, u15, u16, u17, u18, u19, u20, u21, u22, u23, u24, u25, u26, u27, u28, u29, u30, u31, u32, u33, u34, u35, u36, hrel, rfl⟩ K hK
    have HK := Lib.hid hK
    have HR := Lib.hid hrel
    clear hK hrel
    by_cases hlt : j < e
    · have hL := HR.out.lev hlt
      have hL1 : ∃ L1, L1 = L + 1 := ⟨_, rfl⟩
      obtain ⟨L1, hL1⟩ := hL1
      have HL1 := Lib.hid hL1
      have wL : wrap64 ((L : Int) + 1) = (L1 : Int) := by rw [hL1]; exact IntWalk.wrap64_in _ ⟨by omega, by omega⟩
      have wL2 : IntKind.i64.wrap ((L : Int) + 1) = (L1 : Int) := by rw [hL1]; exact IntWalk.i64_in _ ⟨by omega, by omega⟩
      have hle : (e : Int) ≤ 1152921504606846976 := by
        have h1 := HR.out.2.2.1
        have h2 := pow_pos L
        have h3 : e * 1 ≤ e * 2 ^ L := Nat.mul_le_mul_left _ h2
        have h4 := pow_le hB
        have h5 : (2 : Nat) ^ 59 = 576460752303423488 := rfl
        omega
      have hlj : (j : Int) ≤ 1152921504606846976 := by omega
      have hlen : xs.length ≤ 118 := by
        have := HR.out.1.len
        omega
      have dlt : decide ((j : Int) < (e : Int)) = true := decide_eq_true (by omega)
      have glt : (j : Int) < (e : Int) := by omega
      obtain ⟨c0, c1, hltw⟩ := HR.out.1.cl
      clear hL1
      rcases Nat.mod_two_eq_zero_or_one j with hj2 | hj2 <;> rcases Nat.mod_two_eq_zero_or_one e with he2 | he2
      · skip
        have tj : Int.tmod (j : Int) 2 = 0 := by rw [Int.tmod_eq_emod_of_nonneg (by omega)]; omega
        have te : Int.tmod (e : Int) 2 = 0 := by rw [Int.tmod_eq_emod_of_nonneg (by omega)]; omega
        obtain ⟨J2, hJ2⟩ : ∃ J2, j / 2 = J2 := ⟨_, rfl⟩
        obtain ⟨E2, hE2⟩ : ∃ E2, e / 2 = E2 := ⟨_, rfl⟩
        have qj : Int.tdiv (j : Int) 2 = (J2 : Int) := by rw [Int.tdiv_eq_ediv_of_nonneg (by omega)]; omega
        have qe : Int.tdiv (e : Int) 2 = (E2 : Int) := by rw [Int.tdiv_eq_ediv_of_nonneg (by omega)]; omega
        have qj2 : IntKind.u64.wrap (J2 : Int) = (J2 : Int) := u64_in (by omega) (by omega)
        have qe2 : IntKind.u64.wrap (E2 : Int) = (E2 : Int) := u64_in (by omega) (by omega)
        have hb9 := HR.out.2.2.1
        have HM : Hid (∀ m, Cov B (e * 2 ^ L) (j * 2 ^ L) m → Cov B E S (xs ++ m ++ rs.map (·.2))) := Lib.hid (fun m hm => HR.out.2.2.2 m hm)
        have HB9 : Hid (e * 2 ^ L ≤ 2 ^ B) := Lib.hid hb9
        have HN : Hid (j ≤ e ∧ j % 2 = 0 ∧ e % 2 = 0 ∧ j / 2 = J2 ∧ e / 2 = E2 ∧ (e : Int) = e ∧ E2 < e) := Lib.hid ⟨by omega, by omega, by omega, hJ2, hE2, rfl, by omega⟩
        clear hJ2 hE2 hb9 hj2 he2 hlt hlj hle
        go_wp2
        obtain ⟨n1, n2, n3, n4, n5, _, n6⟩ := HN.out
        have hl1 := HL1.out
        subst hl1
        refine HK.out _ _ ?_ (by simp [intOf]; omega)
        refine ⟨J2, E2, L + 1, xs, rs, v, _, _, _, _, _, _, _, _, _, _, _, _, _, _, _, _, _, _, _, _, _, _, _, _, _, _, _, _, _, _, _, _, _, ?_, rfl⟩
        rw [← n4, ← n5]
        exact CutL.up hL ((HR.out.1).mono (by omega)) n1 n2 n3 HB9.out HM.out
      · skip
        have tj : Int.tmod (j : Int) 2 = 0 := by rw [Int.tmod_eq_emod_of_nonneg (by omega)]; omega
        have te : Int.tmod (e : Int) 2 = 1 := by rw [Int.tmod_eq_emod_of_nonneg (by omega)]; omega
        obtain ⟨E1, hE1⟩ : ∃ E1, e = E1 + 1 := ⟨e - 1, by omega⟩
        have ae : IntKind.u64.wrap ((e : Int) - 1) = (E1 : Int) := by rw [hE1]; rw [u64_in (by omega) (by omega)]; omega
        obtain ⟨J2, hJ2⟩ : ∃ J2, j / 2 = J2 := ⟨_, rfl⟩
        obtain ⟨E2, hE2⟩ : ∃ E2, E1 / 2 = E2 := ⟨_, rfl⟩
        have qj : Int.tdiv (j : Int) 2 = (J2 : Int) := by rw [Int.tdiv_eq_ediv_of_nonneg (by omega)]; omega
        have qe : Int.tdiv (E1 : Int) 2 = (E2 : Int) := by rw [Int.tdiv_eq_ediv_of_nonneg (by omega)]; omega
        have qj2 : IntKind.u64.wrap (J2 : Int) = (J2 : Int) := u64_in (by omega) (by omega)
        have qe2 : IntKind.u64.wrap (E2 : Int) = (E2 : Int) := u64_in (by omega) (by omega)
        have hb9 := HR.out.2.2.1
        have HM : Hid (∀ m, Cov B (E1 * 2 ^ L) (j * 2 ^ L) m → Cov B E S (xs ++ m ++ (L, E1) :: rs.map (·.2))) := Lib.hid (by subst hE1; exact cov_right he2 hb9 (fun m hm => HR.out.2.2.2 m hm))
        have HB9 : Hid (E1 * 2 ^ L ≤ 2 ^ B) := Lib.hid (by subst hE1; exact Nat.le_trans (Nat.mul_le_mul_right _ (by omega)) hb9)
        have HN : Hid (j ≤ E1 ∧ j % 2 = 0 ∧ E1 % 2 = 0 ∧ j / 2 = J2 ∧ E1 / 2 = E2 ∧ (e : Int) = e ∧ E2 < e) := Lib.hid ⟨by omega, by omega, by omega, hJ2, hE2, rfl, by omega⟩
        clear hJ2 hE2 hb9 hE1 hj2 he2 hlt hlj hle
        go_wp2
        obtain ⟨n1, n2, n3, n4, n5, _, n6⟩ := HN.out
        have hl1 := HL1.out
        subst hl1
        refine HK.out _ _ ?_ (by simp [intOf]; omega)
        refine ⟨J2, E2, L + 1, xs, ((wr.heap.size, L, E1) :: rs), v, _, _, _, _, _, _, _, _, _, _, _, _, _, _, _, _, _, _, _, _, _, _, _, _, _, _, _, _, _, _, _, _, _, ?_, rfl⟩
        rw [← n4, ← n5]
        exact CutL.up hL (((HR.out.1.right (g := wr.heap.size) (k := L) (a := E1) (Lw.below_alloc (Below.refl _ _) _) (by simp) (pc_alloc (by simp)))).mono (by omega)) n1 n2 n3 HB9.out HM.out
      · skip
        have tj : Int.tmod (j : Int) 2 = 1 := by rw [Int.tmod_eq_emod_of_nonneg (by omega)]; omega
        have te : Int.tmod (e : Int) 2 = 0 := by rw [Int.tmod_eq_emod_of_nonneg (by omega)]; omega
        obtain ⟨J1, hJ1⟩ : ∃ J1, J1 = j + 1 := ⟨_, rfl⟩
        have aj : IntKind.u64.wrap ((j : Int) + 1) = (J1 : Int) := by rw [hJ1]; exact u64_in (by omega) (by omega)
        obtain ⟨J2, hJ2⟩ : ∃ J2, J1 / 2 = J2 := ⟨_, rfl⟩
        obtain ⟨E2, hE2⟩ : ∃ E2, e / 2 = E2 := ⟨_, rfl⟩
        have qj : Int.tdiv (J1 : Int) 2 = (J2 : Int) := by rw [Int.tdiv_eq_ediv_of_nonneg (by omega)]; omega
        have qe : Int.tdiv (e : Int) 2 = (E2 : Int) := by rw [Int.tdiv_eq_ediv_of_nonneg (by omega)]; omega
        have qj2 : IntKind.u64.wrap (J2 : Int) = (J2 : Int) := u64_in (by omega) (by omega)
        have qe2 : IntKind.u64.wrap (E2 : Int) = (E2 : Int) := u64_in (by omega) (by omega)
        have hb9 := HR.out.2.2.1
        have HM : Hid (∀ m, Cov B (e * 2 ^ L) ((j + 1) * 2 ^ L) m → Cov B E S ((xs ++ [(L, j)]) ++ m ++ rs.map (·.2))) := Lib.hid (cov_left hlt hj2 HR.out.2.2.1 (fun m hm => HR.out.2.2.2 m hm))
        have HB9 : Hid (e * 2 ^ L ≤ 2 ^ B) := Lib.hid hb9
        rw [← hJ1] at HM
        have HN : Hid (J1 ≤ e ∧ J1 % 2 = 0 ∧ e % 2 = 0 ∧ J1 / 2 = J2 ∧ e / 2 = E2 ∧ (e : Int) = e ∧ E2 < e) := Lib.hid ⟨by omega, by omega, by omega, hJ2, hE2, rfl, by omega⟩
        clear hJ2 hE2 hb9 hJ1 hj2 he2 hlt hlj hle
        go_wp2_with (at_builtin; go_must (refine wpList_append_lies _ rfl _ _ 24 rfl w0.heap.size 30 i0 (.agg #[.int .i64 0, .int .u64 0]) 2 16 pcs_u hi_ hz0 hz1 hz2 rfl (by decide) _ _ _ rfl (HR.out.1.own.alloc _) ⟨_, 0, none⟩ 1 1 [.int .i64 (L : Int), .int .u64 (j : Int)] rfl rfl (pc_news (pc_alloc (by simp))) (pc_one _ _) (by decide) (by unfold maxLen; omega) (by omega) (by simp; omega) _ rfl ?_); intro g7 cap7 w7 hown7 hgrow7 hat7 hlt7; obtain ⟨s7, z7⟩ := HR.out.1.st (Lw.below_alloc (Below.refl _ _) _) hgrow7; have H7 := Lib.hid (HR.out.1.app (k := L) (a := j) (Lw.below_alloc (Below.refl _ _) _) (by simp) hown7 hgrow7 (fun q hq => by injection hq with hq; subst hq; rcases hat7 with g | g; exact .inl g; exact .inr (Nat.le_of_eq g.symm))); clear hown7 hgrow7 hat7 hlt7)
        obtain ⟨n1, n2, n3, n4, n5, _, n6⟩ := HN.out
        have hl1 := HL1.out
        subst hl1
        refine HK.out _ _ ?_ (by simp [intOf]; omega)
        refine ⟨J2, E2, L + 1, (xs ++ [(L, j)]), rs, (.slice (some ⟨g7, 0, none⟩) (xs.length + 1) cap7), _, _, _, _, _, _, _, _, _, _, _, _, _, _, _, _, _, _, _, _, _, _, _, _, _, _, _, _, _, _, _, _, _, ?_, rfl⟩
        rw [← n4, ← n5]
        exact CutL.up hL ((H7.out).mono (by omega)) n1 n2 n3 HB9.out HM.out
      · skip
        have tj : Int.tmod (j : Int) 2 = 1 := by rw [Int.tmod_eq_emod_of_nonneg (by omega)]; omega
        have te : Int.tmod (e : Int) 2 = 1 := by rw [Int.tmod_eq_emod_of_nonneg (by omega)]; omega
        obtain ⟨J1, hJ1⟩ : ∃ J1, J1 = j + 1 := ⟨_, rfl⟩
        have aj : IntKind.u64.wrap ((j : Int) + 1) = (J1 : Int) := by rw [hJ1]; exact u64_in (by omega) (by omega)
        obtain ⟨E1, hE1⟩ : ∃ E1, e = E1 + 1 := ⟨e - 1, by omega⟩
        have ae : IntKind.u64.wrap ((e : Int) - 1) = (E1 : Int) := by rw [hE1]; rw [u64_in (by omega) (by omega)]; omega
        obtain ⟨J2, hJ2⟩ : ∃ J2, J1 / 2 = J2 := ⟨_, rfl⟩
        obtain ⟨E2, hE2⟩ : ∃ E2, E1 / 2 = E2 := ⟨_, rfl⟩
        have qj : Int.tdiv (J1 : Int) 2 = (J2 : Int) := by rw [Int.tdiv_eq_ediv_of_nonneg (by omega)]; omega
        have qe : Int.tdiv (E1 : Int) 2 = (E2 : Int) := by rw [Int.tdiv_eq_ediv_of_nonneg (by omega)]; omega
        have qj2 : IntKind.u64.wrap (J2 : Int) = (J2 : Int) := u64_in (by omega) (by omega)
        have qe2 : IntKind.u64.wrap (E2 : Int) = (E2 : Int) := u64_in (by omega) (by omega)
        have hb9 := HR.out.2.2.1
        have HM : Hid (∀ m, Cov B (E1 * 2 ^ L) ((j + 1) * 2 ^ L) m → Cov B E S ((xs ++ [(L, j)]) ++ m ++ (L, E1) :: rs.map (·.2))) := Lib.hid (by subst hE1; exact cov_right he2 hb9 (cov_left hlt hj2 HR.out.2.2.1 (fun m hm => HR.out.2.2.2 m hm)))
        have HB9 : Hid (E1 * 2 ^ L ≤ 2 ^ B) := Lib.hid (by subst hE1; exact Nat.le_trans (Nat.mul_le_mul_right _ (by omega)) hb9)
        rw [← hJ1] at HM
        have HN : Hid (J1 ≤ E1 ∧ J1 % 2 = 0 ∧ E1 % 2 = 0 ∧ J1 / 2 = J2 ∧ E1 / 2 = E2 ∧ (e : Int) = e ∧ E2 < e) := Lib.hid ⟨by omega, by omega, by omega, hJ2, hE2, rfl, by omega⟩
        clear hJ2 hE2 hb9 hJ1 hE1 hj2 he2 hlt hlj hle
        go_wp2_with (at_builtin; go_must (refine wpList_append_lies _ rfl _ _ 24 rfl w0.heap.size 30 i0 (.agg #[.int .i64 0, .int .u64 0]) 2 16 pcs_u hi_ hz0 hz1 hz2 rfl (by decide) _ _ _ rfl (HR.out.1.own.alloc _) ⟨_, 0, none⟩ 1 1 [.int .i64 (L : Int), .int .u64 (j : Int)] rfl rfl (pc_news (pc_alloc (by simp))) (pc_one _ _) (by decide) (by unfold maxLen; omega) (by omega) (by simp; omega) _ rfl ?_); intro g7 cap7 w7 hown7 hgrow7 hat7 hlt7; obtain ⟨s7, z7⟩ := HR.out.1.st (Lw.below_alloc (Below.refl _ _) _) hgrow7; have H7 := Lib.hid (HR.out.1.app (k := L) (a := j) (Lw.below_alloc (Below.refl _ _) _) (by simp) hown7 hgrow7 (fun q hq => by injection hq with hq; subst hq; rcases hat7 with g | g; exact .inl g; exact .inr (Nat.le_of_eq g.symm))); clear hown7 hgrow7 hat7 hlt7)
        obtain ⟨n1, n2, n3, n4, n5, _, n6⟩ := HN.out
        have hl1 := HL1.out
        subst hl1
        refine HK.out _ _ ?_ (by simp [intOf]; omega)
        refine ⟨J2, E2, L + 1, (xs ++ [(L, j)]), ((w7.heap.size, L, E1) :: rs), (.slice (some ⟨g7, 0, none⟩) (xs.length + 1) cap7), _, _, _, _, _, _, _, _, _, _, _, _, _, _, _, _, _, _, _, _, _, _, _, _, _, _, _, _, _, _, _, _, _, ?_, rfl⟩
        rw [← n4, ← n5]
        exact CutL.up hL (((H7.out.right (g := w7.heap.size) (k := L) (a := E1) (Lw.below_alloc (Below.refl _ _) _) (by simp) (pc_alloc (by simp)))).mono (by omega)) n1 n2 n3 HB9.out HM.out
    · have hje : j = e := by have := HR.out.2.1; omega
      have HJE := Lib.hid hje
      have dlt : decide ((j : Int) < (e : Int)) = false := decide_eq_false (by omega)
      have glt : ¬ (j : Int) < (e : Int) := by omega
      obtain ⟨c0, c1, hltw⟩ := HR.out.1.cl
      obtain ⟨A, n, cap, rfl⟩ := own_slice HR.out.1.own
      clear hlt hje
      go_wp2
      rw [HR.out.1.same]
      have hL60 : L ≤ B + 1 := HR.out.2.1.2
      refine leaves_clo w0 (2 * L) (by omega) rs xs _ wr (HR.out.1.mono (by omega)) (fun v' w' h' => ?_)
      obtain ⟨A2, n2, cap2, rfl⟩ := own_slice h'.own
      obtain ⟨x0, x1, x2⟩ := h'.cl
      have hcv := HR.out.2.2.2 [] (by rw [HJE.out]; exact Cov.nil)
      rw [List.append_nil] at hcv
      exact ⟨.slice A2 n2 cap2, by simp [results, Try.results18, go_sem, x0], _, _, rfl, hcv, h'.own, h'.below⟩
theorem okC_cnt {b lo hi : Int} (h0 : 0 ≤ hi) : okC b lo hi = (decide (lo ≤ hi) && decide (hi < cntP b 0)) := by
  unfold okC cntP
  by_cases h : 1 ≤ b ∧ b ≤ 59
  · rw [if_pos ⟨h.1, h.2, by omega, by omega⟩, show (b - 0).toNat = b.toNat by rw [Int.sub_zero], ← Bool.decide_and]
    exact decide_eq_decide.2 ⟨fun g => g.2.2, fun g => ⟨h.1, h.2, g⟩⟩
  · rw [if_neg (fun g => h ⟨g.1, g.2.1⟩), ← Bool.decide_and]
    exact decide_eq_decide.2 ⟨fun g => absurd ⟨g.1, g.2.1⟩ h, fun g => by omega⟩
set_option maxRecDepth 100000 in
set_option maxHeartbeats 4000000 in
theorem ccover_n1 (b lo hi : Int) (w : World) (hb0 : -9223372036854775808 ≤ b) (hb1 : b ≤ 9223372036854775807) (lo0 : 0 ≤ lo) (lo1 : lo ≤ 18446744073709551615) (hi0 : 0 ≤ hi) (hi1 : hi ≤ 18446744073709551615) (h1 : ¬ lo ≤ hi) :
    Calls Try.prog 10 #[.int .i64 b, .int .u64 lo, .int .u64 hi] w fun e w' => CovR w w' e b lo hi := by
  have HOK : Hid (okC b lo hi = false) := Lib.hid (decide_eq_false (fun h => h1 h.2.2.1))
  have d1 : decide (hi < lo) = true := decide_eq_true (by omega)
  have f1 : hi < lo := by omega
  clear hb0 hb1 lo0 lo1 hi0 hi1 h1
  go_enter Try.func10, Try.ntmps10
  go_wp2
  refine bodyPost_ret (v := .tuple #[.slice none 0 0, .bool false]) (by simp [results, Try.results10, go_sem]) rfl ?_
  unfold CovR
  rw [HOK.out]
  exact ⟨none, 0, 0, [], rfl, pcT_nil _ _ (fun a e => by cases e), fun k hk => (by obtain ⟨a, e, _⟩ := hk; cases e), (by repeat' (first | (with_reducible exact Below.refl _ _) | (with_reducible assumption) | (with_reducible refine below_over ?_ _ _) | (with_reducible refine Lw.below_alloc ?_ _) | (with_reducible refine Below.drew ?_) | (with_reducible refine below_drewN ?_ _) | (with_reducible refine Below.setCell ?_ ?_ _) | go_size)), fun h => by simp at h, fun _ => rfl⟩
set_option maxRecDepth 100000 in
set_option maxHeartbeats 4000000 in
theorem ccover_n2 (b lo hi : Int) (w : World) (hb0 : -9223372036854775808 ≤ b) (hb1 : b ≤ 9223372036854775807) (lo0 : 0 ≤ lo) (lo1 : lo ≤ 18446744073709551615) (hi0 : 0 ≤ hi) (hi1 : hi ≤ 18446744073709551615) (h1 : lo ≤ hi) (h2 : ¬ hi < cntP b 0) :
    Calls Try.prog 10 #[.int .i64 b, .int .u64 lo, .int .u64 hi] w fun e w' => CovR w w' e b lo hi := by
  have HOK : Hid (okC b lo hi = false) := Lib.hid (by rw [okC_cnt hi0, decide_eq_false h2, Bool.and_false])
  have CC := Lib.hid (fun w => count_any b 0 w hb0 hb1 (by omega) (by omega))
  obtain ⟨X, hX⟩ : ∃ X, cntP b 0 = X := ⟨_, rfl⟩
  rw [hX] at CC h2
  have d1 : decide (hi < lo) = false := decide_eq_false (by omega)
  have f1 : ¬ hi < lo := by omega
  have d2 : decide (X ≤ hi) = true := decide_eq_true (by omega)
  have f2 : X ≤ hi := by omega
  clear hb0 hb1 lo0 lo1 hi0 hi1 h1 h2 hX
  go_enter Try.func10, Try.ntmps10
  go_wp2_with ((go_at_call 17; (with_reducible refine (CC.out _).mono ?_); rintro e w1 ⟨rfl, rfl⟩; skip))
  refine bodyPost_ret (v := .tuple #[.slice none 0 0, .bool false]) (by simp [results, Try.results10, go_sem]) rfl ?_
  unfold CovR
  rw [HOK.out]
  exact ⟨none, 0, 0, [], rfl, pcT_nil _ _ (fun a e => by cases e), fun k hk => (by obtain ⟨a, e, _⟩ := hk; cases e), (by repeat' (first | (with_reducible exact Below.refl _ _) | (with_reducible assumption) | (with_reducible refine below_over ?_ _ _) | (with_reducible refine Lw.below_alloc ?_ _) | (with_reducible refine Below.drew ?_) | (with_reducible refine below_drewN ?_ _) | (with_reducible refine Below.setCell ?_ ?_ _) | go_size)), fun h => by simp at h, fun _ => rfl⟩
set_option maxRecDepth 100000 in
set_option maxHeartbeats 4000000 in
theorem ccover_y (b lo hi : Int) (w : World) (hb0 : -9223372036854775808 ≤ b) (hb1 : b ≤ 9223372036854775807) (lo0 : 0 ≤ lo) (lo1 : lo ≤ 18446744073709551615) (hi0 : 0 ≤ hi) (hi1 : hi ≤ 18446744073709551615) (h1 : lo ≤ hi) (h2 : hi < cntP b 0) :
    Calls Try.prog 10 #[.int .i64 b, .int .u64 lo, .int .u64 hi] w fun e w' => CovR w w' e b lo hi := by
  have hok : okC b lo hi = true := by rw [okC_cnt hi0, decide_eq_true h2, decide_eq_true h1]; rfl
  have HOK := Lib.hid hok
  obtain ⟨k1, k2, k3, k4⟩ := of_decide_eq_true hok
  have CC := Lib.hid (fun w => count_any b 0 w hb0 hb1 (by omega) (by omega))
  obtain ⟨s, rfl⟩ : ∃ s : Nat, lo = s := ⟨lo.toNat, by omega⟩
  obtain ⟨t, rfl⟩ : ∃ t : Nat, hi = t := ⟨hi.toNat, by omega⟩
  have hpb := p2_bd (show b.toNat ≤ 60 by omega)
  have hE : t + 1 ≤ 2 ^ b.toNat := by unfold p2 at k4; omega
  have CU := Lib.hid (fun w => cut_any b.toNat s (t + 1) w (by omega) (by omega) hE)
  have hw : IntKind.u64.wrap ((t : Int) + 1) = ((t + 1 : Nat) : Int) := by rw [u64_in (by omega) (by omega)]; omega
  obtain ⟨E, hEE⟩ : ∃ E, t + 1 = E := ⟨_, rfl⟩
  rw [hEE] at CU hw hE
  have HEE := Lib.hid hEE
  have HE := Lib.hid hE
  obtain ⟨X, hX⟩ : ∃ X, cntP b 0 = X := ⟨_, rfl⟩
  rw [hX] at CC h2
  have d1 : decide ((t : Int) < (s : Int)) = false := decide_eq_false (by omega)
  have f1 : ¬ (t : Int) < (s : Int) := by omega
  have d2 : decide (X ≤ (t : Int)) = false := decide_eq_false (by omega)
  have f2 : ¬ X ≤ (t : Int) := by omega
  clear hb0 hb1 lo0 lo1 hi0 hi1 h1 h2 hX k1 k2 k3 k4 hpb hE hok hEE
  go_enter Try.func10, Try.ntmps10
  go_wp2_with (first
    | (go_at_call 17; (with_reducible refine (CC.out _).mono ?_); rintro e w1 ⟨rfl, rfl⟩; skip)
    | (go_at_call 18; (with_reducible refine (CU.out _).mono ?_); rintro e w2 ⟨l, v, rfl, hcov, hown, hbel⟩; have HCO := Lib.hid hcov; have HOWN := Lib.hid hown; have HBEL := Lib.hid hbel; clear hcov hown hbel))
  have hbd : ∀ u ∈ ints l, (-9223372036854775808 ≤ u.1 ∧ u.1 ≤ 9223372036854775807) ∧ (0 ≤ u.2 ∧ u.2 ≤ 18446744073709551615) := by
    intro u hu
    obtain ⟨p, hp, rfl⟩ := List.mem_map.1 hu
    obtain ⟨i, hi⟩ := List.getElem?_of_mem hp
    obtain ⟨q1, q2, q3⟩ := HCO.out.at i p hi
    have q4 := pow_pos p.1
    have q5 : p.2 * 1 ≤ p.2 * 2 ^ p.1 := Nat.mul_le_mul_left _ q4
    have q6 := HE.out
    have q7 := of_decide_eq_true HOK.out
    have q8 := pow_le (show b.toNat ≤ 59 by omega)
    have q9 : (2 : Nat) ^ 59 = 576460752303423488 := rfl
    exact ⟨⟨by show -9223372036854775808 ≤ (p.1 : Int); omega, by show (p.1 : Int) ≤ 9223372036854775807; omega⟩, ⟨by show 0 ≤ (p.2 : Int); omega, by show (p.2 : Int) ≤ 18446744073709551615; omega⟩⟩
  obtain ⟨A2, cap, rfl, hI, hF⟩ := pc_own HOWN.out (ints_len l) hbd
  have HI := Lib.hid hI
  have HF := Lib.hid hF
  clear hbd hI hF
  refine bodyPost_ret (v := .tuple #[.slice A2 l.length cap, .bool true]) (by simp [results, Try.results10, go_sem]) rfl ?_
  unfold CovR
  rw [HOK.out]
  refine ⟨A2, _, cap, l, rfl, HI.out, HF.out, HBEL.out, fun _ => ?_, fun h => by simp at h⟩
  have h9 := HCO.out
  rw [← HEE.out] at h9
  exact h9
theorem ccover_any (b lo hi : Int) (w : World) (hb0 : -9223372036854775808 ≤ b) (hb1 : b ≤ 9223372036854775807) (lo0 : 0 ≤ lo) (lo1 : lo ≤ 18446744073709551615) (hi0 : 0 ≤ hi) (hi1 : hi ≤ 18446744073709551615) :
    Calls Try.prog 10 #[.int .i64 b, .int .u64 lo, .int .u64 hi] w fun e w' => CovR w w' e b lo hi := by
  by_cases h1 : lo ≤ hi
  · by_cases h2 : hi < cntP b 0
    · exact ccover_y b lo hi w hb0 hb1 lo0 lo1 hi0 hi1 h1 h2
    · exact ccover_n2 b lo hi w hb0 hb1 lo0 lo1 hi0 hi1 h1 h2
  · exact ccover_n1 b lo hi w hb0 hb1 lo0 lo1 hi0 hi1 h1
end Go.Proofs.Ytdhljlhecoclfaa.Pcs
