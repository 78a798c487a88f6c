/- The document's two, Is, Span, Same of pieces. Printed by wip/gen/pcsref.py. -/
import Derived.Test.YtdhljlhecoclfaaRowPc
import Derived.Test.YtdhljlhecoclfaaPcsMath
import Derived.Test.YtdhljlhecoclfaaGrow
import Derived.Deep.LoopGhost
import Derived.Deep.RegionHeld3
import Derived.Deep.DeepCutAuto
import Derived.Deep.QuietTactic
import Derived.BigQuiet
namespace Go.Proofs.Ytdhljlhecoclfaa.Pcs
open Go Go.RowKit Lw
set_option linter.unusedVariables false
set_option linter.unusedSimpArgs false
theorem ret_b {a b : Bool} (h : a = b) : Ending.returned (.bool a) = Ending.returned (.bool b) := by rw [h]
/-- Two to the power of k, as a number of the program. -/
def p2 (k : Nat) : Int := ((2 ^ k : Nat) : Int)
theorem p2_0 : p2 0 = 1 := rfl
theorem p2_next (k : Nat) : p2 k + p2 k = p2 (k + 1) := by unfold p2; rw [pow_next]; omega
theorem p2_pos (k : Nat) : 1 ≤ p2 k := by unfold p2; have := pow_pos k; omega
theorem p2_mono {a b : Nat} (h : a ≤ b) : p2 a ≤ p2 b := by unfold p2; have := pow_le h; omega
theorem p2_60 : p2 60 = 1152921504606846976 := rfl
theorem p2_bd {k : Nat} (h : k ≤ 60) : 1 ≤ p2 k ∧ p2 k ≤ 1152921504606846976 := ⟨p2_pos k, by rw [← p2_60]; exact p2_mono h⟩
theorem p2_mul {a b : Nat} (h : a ≤ b) : p2 (b - a) * p2 a = p2 b := by
  unfold p2
  rw [← Int.natCast_mul, ← Nat.pow_add, Nat.sub_add_cancel h]
theorem u64_in {x : Int} (h0 : 0 ≤ x) (h1 : x ≤ 18446744073709551615) : IntKind.u64.wrap x = x := by rw [IntKind.wrap_u64]; omega
/-- Is there such a piece? -/
def isP (b L i : Int) : Bool := decide (1 ≤ b ∧ b ≤ 59 ∧ 0 ≤ L ∧ L ≤ b ∧ i < p2 (b - L).toNat)
set_option maxRecDepth 100000 in
theorem two_at (n : Nat) (hn : n ≤ 60) (N : Int) (hN : N = n) (w : World) : Calls Try.prog 19 #[.int .i64 N] w fun e w' => e = .returned (.int .u64 (p2 n)) ∧ w' = w := by
  subst hN
  go_enter Try.func19, Try.ntmps19
  go_wp2
  go_loopw [3, 4] (fun ov iv wr => ∃ k : Nat, k ≤ n ∧ ov = .int .u64 (p2 k) ∧ iv = .int .i64 k ∧ wr = w) (fun _ iv _ => n - (intOf iv).toNat)
  case atStart => exact ⟨0, Nat.zero_le _, rfl, rfl, (by first | exact True.intro | exact rfl)⟩
  case round =>
    obtain ⟨k, hk, rfl, rfl, rfl⟩ := hrel
    by_cases hlt : k < n
    · have hnx := p2_next k
      have hb := p2_bd (show k + 1 ≤ 60 by omega)
      have hw : IntKind.u64.wrap (p2 k + p2 k) = p2 (k + 1) := by rw [hnx]; exact u64_in (by omega) (by omega)
      obtain ⟨X, hX⟩ : ∃ X, p2 k = X := ⟨_, rfl⟩
      obtain ⟨Y, hY⟩ : ∃ Y, p2 (k + 1) = Y := ⟨_, rfl⟩
      rw [hX] at hw ⊢
      rw [hY] at hw
      have HY := Lib.hid hY
      clear hnx hb hX hY
      go_wp2
      go_roundw
      case rel => exact ⟨k + 1, by omega, by rw [HY.out], by go_num, (by first | exact True.intro | exact rfl)⟩
      case measure => simp [intOf]; omega
    · obtain rfl : k = n := by omega
      go_wp2
      go_ret
      exact ⟨rfl, rfl⟩
set_option maxRecDepth 100000 in
set_option maxHeartbeats 4000000 in
theorem ris_n1 (b L i : Int) (w : World) (hb0 : -9223372036854775808 ≤ b) (hb1 : b ≤ 9223372036854775807) (hL0 : -9223372036854775808 ≤ L) (hL1 : L ≤ 9223372036854775807) (hi0 : 0 ≤ i) (hi1 : i ≤ 18446744073709551615) (h1 : ¬ 1 ≤ b) :
    Calls Try.prog 20 #[.int .i64 b, .agg #[.int .i64 L, .int .u64 i]] w fun e w' => e = .returned (.bool false) ∧ Below w.heap.size w w' := by
  have d1 : decide (1 ≤ b) = false := by exact decide_eq_false h1
  have c0 : (w.alloc (.cells #[.int .i64 L, .int .u64 i] 30)).cell? ⟨w.heap.size, 0, none⟩ = some (.int .i64 L) := by simp [go_sem]
  have c1 : (w.alloc (.cells #[.int .i64 L, .int .u64 i] 30)).cell? ⟨w.heap.size, 1, none⟩ = some (.int .u64 i) := by simp [go_sem]
  clear hb0 hb1 hL0 hL1 hi0 hi1
  go_enter Try.func20, Try.ntmps20
  go_upto_region 1 with fail
  go_quiet (fail)
  all_goals go_wp2
  all_goals go_ret
  all_goals exact ⟨ret_b (by first | rfl | (simp [*]; done)), (by repeat' (first | (with_reducible exact Below.refl _ _) | (with_reducible assumption) | (with_reducible refine below_over ?_ _ _) | (with_reducible refine Lw.below_alloc ?_ _) | (with_reducible refine Below.drew ?_) | (with_reducible refine below_drewN ?_ _) | (with_reducible refine Below.setCell ?_ ?_ _) | go_size))⟩
set_option maxRecDepth 100000 in
set_option maxHeartbeats 4000000 in
theorem ris_n2 (b L i : Int) (w : World) (hb0 : -9223372036854775808 ≤ b) (hb1 : b ≤ 9223372036854775807) (hL0 : -9223372036854775808 ≤ L) (hL1 : L ≤ 9223372036854775807) (hi0 : 0 ≤ i) (hi1 : i ≤ 18446744073709551615) (h1 : 1 ≤ b) (h2 : ¬ b ≤ 59) :
    Calls Try.prog 20 #[.int .i64 b, .agg #[.int .i64 L, .int .u64 i]] w fun e w' => e = .returned (.bool false) ∧ Below w.heap.size w w' := by
  have d1 : decide (1 ≤ b) = true := by exact decide_eq_true h1
  have d2 : decide (b ≤ 59) = false := by exact decide_eq_false h2
  have c0 : (w.alloc (.cells #[.int .i64 L, .int .u64 i] 30)).cell? ⟨w.heap.size, 0, none⟩ = some (.int .i64 L) := by simp [go_sem]
  have c1 : (w.alloc (.cells #[.int .i64 L, .int .u64 i] 30)).cell? ⟨w.heap.size, 1, none⟩ = some (.int .u64 i) := by simp [go_sem]
  clear hb0 hb1 hL0 hL1 hi0 hi1
  go_enter Try.func20, Try.ntmps20
  go_upto_region 1 with fail
  go_quiet (fail)
  all_goals go_wp2
  all_goals go_ret
  all_goals exact ⟨ret_b (by first | rfl | (simp [*]; done)), (by repeat' (first | (with_reducible exact Below.refl _ _) | (with_reducible assumption) | (with_reducible refine below_over ?_ _ _) | (with_reducible refine Lw.below_alloc ?_ _) | (with_reducible refine Below.drew ?_) | (with_reducible refine below_drewN ?_ _) | (with_reducible refine Below.setCell ?_ ?_ _) | go_size))⟩
set_option maxRecDepth 100000 in
set_option maxHeartbeats 4000000 in
theorem ris_n3 (b L i : Int) (w : World) (hb0 : -9223372036854775808 ≤ b) (hb1 : b ≤ 9223372036854775807) (hL0 : -9223372036854775808 ≤ L) (hL1 : L ≤ 9223372036854775807) (hi0 : 0 ≤ i) (hi1 : i ≤ 18446744073709551615) (h1 : 1 ≤ b) (h2 : b ≤ 59) (h3 : ¬ 0 ≤ L) :
    Calls Try.prog 20 #[.int .i64 b, .agg #[.int .i64 L, .int .u64 i]] w fun e w' => e = .returned (.bool false) ∧ Below w.heap.size w w' := by
  have d1 : decide (1 ≤ b) = true := by exact decide_eq_true h1
  have d2 : decide (b ≤ 59) = true := by exact decide_eq_true h2
  have d3 : decide (0 ≤ L) = false := by exact decide_eq_false h3
  have c0 : (w.alloc (.cells #[.int .i64 L, .int .u64 i] 30)).cell? ⟨w.heap.size, 0, none⟩ = some (.int .i64 L) := by simp [go_sem]
  have c1 : (w.alloc (.cells #[.int .i64 L, .int .u64 i] 30)).cell? ⟨w.heap.size, 1, none⟩ = some (.int .u64 i) := by simp [go_sem]
  clear hb0 hb1 hL0 hL1 hi0 hi1
  go_enter Try.func20, Try.ntmps20
  go_upto_region 1 with fail
  go_quiet (fail)
  all_goals go_wp2
  all_goals go_ret
  all_goals exact ⟨ret_b (by first | rfl | (simp [*]; done)), (by repeat' (first | (with_reducible exact Below.refl _ _) | (with_reducible assumption) | (with_reducible refine below_over ?_ _ _) | (with_reducible refine Lw.below_alloc ?_ _) | (with_reducible refine Below.drew ?_) | (with_reducible refine below_drewN ?_ _) | (with_reducible refine Below.setCell ?_ ?_ _) | go_size))⟩
set_option maxRecDepth 100000 in
set_option maxHeartbeats 4000000 in
theorem ris_n4 (b L i : Int) (w : World) (hb0 : -9223372036854775808 ≤ b) (hb1 : b ≤ 9223372036854775807) (hL0 : -9223372036854775808 ≤ L) (hL1 : L ≤ 9223372036854775807) (hi0 : 0 ≤ i) (hi1 : i ≤ 18446744073709551615) (h1 : 1 ≤ b) (h2 : b ≤ 59) (h3 : 0 ≤ L) (h4 : ¬ L ≤ b) :
    Calls Try.prog 20 #[.int .i64 b, .agg #[.int .i64 L, .int .u64 i]] w fun e w' => e = .returned (.bool false) ∧ Below w.heap.size w w' := by
  have d1 : decide (1 ≤ b) = true := by exact decide_eq_true h1
  have d2 : decide (b ≤ 59) = true := by exact decide_eq_true h2
  have d3 : decide (0 ≤ L) = true := by exact decide_eq_true h3
  have d4 : decide (L ≤ b) = false := by exact decide_eq_false h4
  have c0 : (w.alloc (.cells #[.int .i64 L, .int .u64 i] 30)).cell? ⟨w.heap.size, 0, none⟩ = some (.int .i64 L) := by simp [go_sem]
  have c1 : (w.alloc (.cells #[.int .i64 L, .int .u64 i] 30)).cell? ⟨w.heap.size, 1, none⟩ = some (.int .u64 i) := by simp [go_sem]
  clear hb0 hb1 hL0 hL1 hi0 hi1
  go_enter Try.func20, Try.ntmps20
  go_upto_region 1 with fail
  go_quiet (fail)
  all_goals go_wp2
  all_goals go_ret
  all_goals exact ⟨ret_b (by first | rfl | (simp [*]; done)), (by repeat' (first | (with_reducible exact Below.refl _ _) | (with_reducible assumption) | (with_reducible refine below_over ?_ _ _) | (with_reducible refine Lw.below_alloc ?_ _) | (with_reducible refine Below.drew ?_) | (with_reducible refine below_drewN ?_ _) | (with_reducible refine Below.setCell ?_ ?_ _) | go_size))⟩
set_option maxRecDepth 100000 in
set_option maxHeartbeats 4000000 in
theorem ris_n5 (b L i : Int) (w : World) (hb0 : -9223372036854775808 ≤ b) (hb1 : b ≤ 9223372036854775807) (hL0 : -9223372036854775808 ≤ L) (hL1 : L ≤ 9223372036854775807) (hi0 : 0 ≤ i) (hi1 : i ≤ 18446744073709551615) (h1 : 1 ≤ b) (h2 : b ≤ 59) (h3 : 0 ≤ L) (h4 : L ≤ b) (h5 : ¬ i < p2 (b - L).toNat) :
    Calls Try.prog 20 #[.int .i64 b, .agg #[.int .i64 L, .int .u64 i]] w fun e w' => e = .returned (.bool false) ∧ Below w.heap.size w w' := by
  have d1 : decide (1 ≤ b) = true := by exact decide_eq_true h1
  have d2 : decide (b ≤ 59) = true := by exact decide_eq_true h2
  have d3 : decide (0 ≤ L) = true := by exact decide_eq_true h3
  have d4 : decide (L ≤ b) = true := by exact decide_eq_true h4
  have hm : (b - L).toNat ≤ 60 := by omega
  have hN : b - L = ((b - L).toNat : Int) := by omega
  have hw1 : IntKind.i64.wrap (b - L) = b - L := IntWalk.i64_in _ ⟨by omega, by omega⟩
  have hw2 : wrap64 (b - L) = b - L := IntWalk.wrap64_in _ ⟨by omega, by omega⟩
  have C := Lib.hid (fun w => two_at (b - L).toNat hm (b - L) hN w)
  obtain ⟨P, hP⟩ : ∃ P, p2 (b - L).toNat = P := ⟨_, rfl⟩
  rw [hP] at C h5
  have d5 : decide (i < P) = false := by exact decide_eq_false h5
  clear hP hN hm
  have c0 : (w.alloc (.cells #[.int .i64 L, .int .u64 i] 30)).cell? ⟨w.heap.size, 0, none⟩ = some (.int .i64 L) := by simp [go_sem]
  have c1 : (w.alloc (.cells #[.int .i64 L, .int .u64 i] 30)).cell? ⟨w.heap.size, 1, none⟩ = some (.int .u64 i) := by simp [go_sem]
  clear hb0 hb1 hL0 hL1 hi0 hi1
  go_enter Try.func20, Try.ntmps20
  go_upto_region 1 with fail
  go_quiet (first | (go_at_call 19; with_reducible refine Calls.quiet_of_same (C.out _)))
  all_goals go_wp2
  all_goals go_ret
  all_goals exact ⟨ret_b (by first | rfl | (simp [*]; done)), (by repeat' (first | (with_reducible exact Below.refl _ _) | (with_reducible assumption) | (with_reducible refine below_over ?_ _ _) | (with_reducible refine Lw.below_alloc ?_ _) | (with_reducible refine Below.drew ?_) | (with_reducible refine below_drewN ?_ _) | (with_reducible refine Below.setCell ?_ ?_ _) | go_size))⟩
set_option maxRecDepth 100000 in
set_option maxHeartbeats 4000000 in
theorem ris_y (b L i : Int) (w : World) (hb0 : -9223372036854775808 ≤ b) (hb1 : b ≤ 9223372036854775807) (hL0 : -9223372036854775808 ≤ L) (hL1 : L ≤ 9223372036854775807) (hi0 : 0 ≤ i) (hi1 : i ≤ 18446744073709551615) (h1 : 1 ≤ b) (h2 : b ≤ 59) (h3 : 0 ≤ L) (h4 : L ≤ b) (h5 : i < p2 (b - L).toNat) :
    Calls Try.prog 20 #[.int .i64 b, .agg #[.int .i64 L, .int .u64 i]] w fun e w' => e = .returned (.bool true) ∧ Below w.heap.size w w' := by
  have d1 : decide (1 ≤ b) = true := by exact decide_eq_true h1
  have d2 : decide (b ≤ 59) = true := by exact decide_eq_true h2
  have d3 : decide (0 ≤ L) = true := by exact decide_eq_true h3
  have d4 : decide (L ≤ b) = true := by exact decide_eq_true h4
  have hm : (b - L).toNat ≤ 60 := by omega
  have hN : b - L = ((b - L).toNat : Int) := by omega
  have hw1 : IntKind.i64.wrap (b - L) = b - L := IntWalk.i64_in _ ⟨by omega, by omega⟩
  have hw2 : wrap64 (b - L) = b - L := IntWalk.wrap64_in _ ⟨by omega, by omega⟩
  have C := Lib.hid (fun w => two_at (b - L).toNat hm (b - L) hN w)
  obtain ⟨P, hP⟩ : ∃ P, p2 (b - L).toNat = P := ⟨_, rfl⟩
  rw [hP] at C h5
  have d5 : decide (i < P) = true := by exact decide_eq_true h5
  clear hP hN hm
  have c0 : (w.alloc (.cells #[.int .i64 L, .int .u64 i] 30)).cell? ⟨w.heap.size, 0, none⟩ = some (.int .i64 L) := by simp [go_sem]
  have c1 : (w.alloc (.cells #[.int .i64 L, .int .u64 i] 30)).cell? ⟨w.heap.size, 1, none⟩ = some (.int .u64 i) := by simp [go_sem]
  clear hb0 hb1 hL0 hL1 hi0 hi1
  go_enter Try.func20, Try.ntmps20
  go_upto_region 1 with fail
  go_quiet (first | (go_at_call 19; with_reducible refine Calls.quiet_of_same (C.out _)))
  all_goals go_wp2
  all_goals go_ret
  all_goals exact ⟨ret_b (by first | rfl | (simp [*]; done)), (by repeat' (first | (with_reducible exact Below.refl _ _) | (with_reducible assumption) | (with_reducible refine below_over ?_ _ _) | (with_reducible refine Lw.below_alloc ?_ _) | (with_reducible refine Below.drew ?_) | (with_reducible refine below_drewN ?_ _) | (with_reducible refine Below.setCell ?_ ?_ _) | go_size))⟩
theorem ris_any (b L i : Int) (w : World) (hb0 : -9223372036854775808 ≤ b) (hb1 : b ≤ 9223372036854775807) (hL0 : -9223372036854775808 ≤ L) (hL1 : L ≤ 9223372036854775807) (hi0 : 0 ≤ i) (hi1 : i ≤ 18446744073709551615) :
    Calls Try.prog 20 #[.int .i64 b, .agg #[.int .i64 L, .int .u64 i]] w fun e w' => e = .returned (.bool (isP b L i)) ∧ Below w.heap.size w w' := by
  by_cases h1 : 1 ≤ b
  · by_cases h2 : b ≤ 59
    · by_cases h3 : 0 ≤ L
      · by_cases h4 : L ≤ b
        · by_cases h5 : i < p2 (b - L).toNat
          · have e : isP b L i = true := decide_eq_true ⟨h1, h2, h3, h4, h5⟩
            rw [e]
            exact ris_y b L i w hb0 hb1 hL0 hL1 hi0 hi1 h1 h2 h3 h4 h5
          · have e : isP b L i = false := decide_eq_false (fun h => h5 h.2.2.2.2)
            rw [e]
            exact ris_n5 b L i w hb0 hb1 hL0 hL1 hi0 hi1 h1 h2 h3 h4 h5
        · have e : isP b L i = false := decide_eq_false (fun h => h4 h.2.2.2.1)
          rw [e]
          exact ris_n4 b L i w hb0 hb1 hL0 hL1 hi0 hi1 h1 h2 h3 h4
      · have e : isP b L i = false := decide_eq_false (fun h => h3 h.2.2.1)
        rw [e]
        exact ris_n3 b L i w hb0 hb1 hL0 hL1 hi0 hi1 h1 h2 h3
    · have e : isP b L i = false := decide_eq_false (fun h => h2 h.2.1)
      rw [e]
      exact ris_n2 b L i w hb0 hb1 hL0 hL1 hi0 hi1 h1 h2
  · have e : isP b L i = false := decide_eq_false (fun h => h1 h.1)
    rw [e]
    exact ris_n1 b L i w hb0 hb1 hL0 hL1 hi0 hi1 h1
def spLo (b L i : Int) : Int := if isP b L i = true then i * p2 L.toNat else 0
def spHi (b L i : Int) : Int := if isP b L i = true then i * p2 L.toNat + p2 L.toNat - 1 else 0
theorem isP_bd {b L i : Int} (h : isP b L i = true) (hi0 : 0 ≤ i) : 1 ≤ b ∧ b ≤ 59 ∧ 0 ≤ L ∧ L ≤ b ∧ i < p2 (b - L).toNat ∧ 0 ≤ i * p2 L.toNat ∧ i * p2 L.toNat + p2 L.toNat ≤ p2 b.toNat := by
  obtain ⟨h1, h2, h3, h4, h5⟩ := of_decide_eq_true h
  have hp := p2_pos L.toNat
  refine ⟨h1, h2, h3, h4, h5, Int.mul_nonneg hi0 (by omega), ?_⟩
  have e : (b - L).toNat = b.toNat - L.toNat := by omega
  rw [e] at h5
  have e2 := p2_mul (show L.toNat ≤ b.toNat by omega)
  have h6 : (i + 1) * p2 L.toNat ≤ p2 (b.toNat - L.toNat) * p2 L.toNat := Int.mul_le_mul_of_nonneg_right (by omega) (by omega)
  rw [e2, Int.add_mul, Int.one_mul] at h6
  exact h6
set_option maxRecDepth 100000 in
set_option maxHeartbeats 4000000 in
theorem rspan_any (b L i : Int) (w : World) (hb0 : -9223372036854775808 ≤ b) (hb1 : b ≤ 9223372036854775807) (hL0 : -9223372036854775808 ≤ L) (hL1 : L ≤ 9223372036854775807) (hi0 : 0 ≤ i) (hi1 : i ≤ 18446744073709551615) :
    Calls Try.prog 14 #[.int .i64 b, .agg #[.int .i64 L, .int .u64 i]] w fun e w' => e = .returned (.tuple #[.int .u64 (spLo b L i), .int .u64 (spHi b L i), .bool (isP b L i)]) ∧ Below w.heap.size w w' := by
  have C := Lib.hid (fun w => ris_any b L i w hb0 hb1 hL0 hL1 hi0 hi1)
  have HBX : Hid (Have w (w.alloc (.cells #[.int .i64 L, .int .u64 i] 30)) [boxT w.heap.size 30 #[.int .i64 L, .int .u64 i]]) := Lib.hid (box_new w _ _)
  unfold spLo spHi
  cases h : isP b L i with
  | false =>
    rw [h] at C
    rw [if_neg (by simp), if_neg (by simp)]
    clear h hb0 hb1 hL0 hL1 hi0 hi1
    go_enter Try.func14, Try.ntmps14
    go_wp2_with (go_at_call 20; (with_reducible refine (C.out _).mono ?_); rintro e w1 ⟨rfl, hb⟩; have HV1 := Lib.hid (HBX.out.up hb); clear hb)
    go_returns
    exact ⟨rfl, HV1.out.below⟩
  | true =>
    obtain ⟨h1, h2, h3, h4, h5, h6, h7⟩ := isP_bd h hi0
    have hp := p2_bd (show b.toNat ≤ 60 by omega)
    have hq := p2_bd (show L.toNat ≤ 60 by omega)
    have C2 := Lib.hid (fun w => two_at L.toNat (by omega) L (by omega) w)
    rw [h] at C
    rw [if_pos rfl, if_pos rfl]
    obtain ⟨P, hP⟩ : ∃ P, p2 L.toNat = P := ⟨_, rfl⟩
    rw [hP] at C2 h6 h7 hq ⊢
    obtain ⟨M, hM⟩ : ∃ M, i * P = M := ⟨_, rfl⟩
    rw [hM] at h6 h7 ⊢
    have w1 : IntKind.u64.wrap (i * P) = M := by rw [hM]; exact u64_in h6 (by omega)
    have w2 : IntKind.u64.wrap (M + P) = M + P := u64_in (by omega) (by omega)
    have w3 : IntKind.u64.wrap (M + P - 1) = M + P - 1 := u64_in (by omega) (by omega)
    clear h hb0 hb1 hL0 hL1 hi0 hi1 h1 h2 h3 h4 h5 h6 h7 hp hq hP hM
    go_enter Try.func14, Try.ntmps14
    go_upto_region 3 with (go_at_call 20; (with_reducible refine (C.out _).mono ?_); rintro e w1 ⟨rfl, hb⟩; have HV1 := Lib.hid (HBX.out.up hb); have c0 := box_cell (i := 0) HV1.out.i0 rfl; have c1 := box_cell (i := 1) HV1.out.i0 rfl; clear hb)
    go_quiet (first | (go_at_call 19; with_reducible refine Calls.quiet_of_same (C2.out _)))
    all_goals go_wp2
    all_goals go_returns
    all_goals have hbx := HV1.out.below
    all_goals exact ⟨rfl, (by repeat' (first | (with_reducible exact Below.refl _ _) | (with_reducible assumption) | (with_reducible refine below_over ?_ _ _) | (with_reducible refine Lw.below_alloc ?_ _) | (with_reducible refine Below.drew ?_) | (with_reducible refine below_drewN ?_ _) | (with_reducible refine Below.setCell ?_ ?_ _) | go_size))⟩
theorem PcV.two {w : World} {A : Option Addr} {n c : Nat} {ps : List (Int × Int)} (h : PcV w A n c ps) {k : Nat} {p : Int × Int} (hp : ps[k]? = some p) : ∃ ad g q, A = some ad ∧ ad.add (k * 2) = ⟨g, q, none⟩ ∧ w.cell? ⟨g, q, none⟩ = some (.int .i64 p.1) ∧ w.cell? ⟨g, q + 1, none⟩ = some (.int .u64 p.2) := by
  obtain ⟨a, g, q, h1, h2, h3, h4, _⟩ := h.at hp
  exact ⟨a, g, q, h1, h2, h3, h4⟩
set_option maxRecDepth 100000 in
set_option maxHeartbeats 4000000 in
theorem psame_any (A B : Option Addr) (n m ca cb : Nat) (xs ys : List (Int × Int)) (w : World) (ha : PcV w A n ca xs) (hb : PcV w B m cb ys) :
    Calls Try.prog 12 #[.slice A n ca, .slice B m cb] w fun e w' => e = .returned (.bool (decide (xs = ys))) ∧ Below w.heap.size w w' := by
  have HA := Lib.hid ha
  have HB := Lib.hid hb
  have HLA := Lib.hid ha.len
  have HLB := Lib.hid hb.len
  have hn1 := ha.nc
  have hn2 := ha.cm
  have hm1 := hb.nc
  have hm2 := hb.cm
  unfold maxLen at hn2 hm2
  clear ha hb
  by_cases hnm : n = m
  · subst hnm
    go_enter Try.func12, Try.ntmps12
    go_wp2
    go_loopw [5] (fun i wr => ∃ k d : Nat, k ≤ n ∧ i = .int .i64 k ∧ xs.take k = ys.take k ∧ wr = w.drewN d) (fun i _ => n - (intOf i).toNat)
    case atStart => exact ⟨0, 0, Nat.zero_le _, rfl, rfl, rfl⟩
    case round =>
      obtain ⟨k, d, hk, rfl, heq, rfl⟩ := hrel
      have HE := Lib.hid heq
      clear heq
      by_cases hlt : k < n
      · obtain ⟨x, hx⟩ : ∃ x, xs[k]? = some x := ⟨_, List.getElem?_eq_getElem (by have := HLA.out; omega)⟩
        obtain ⟨y, hy⟩ : ∃ y, ys[k]? = some y := ⟨_, List.getElem?_eq_getElem (by have := HLB.out; omega)⟩
        obtain ⟨ad, g1, q1, rfl, had, x1, x2⟩ := HA.out.two hx
        obtain ⟨bd, g2, q2, rfl, hbd, y1, y2⟩ := HB.out.two hy
        obtain ⟨xa, xb⟩ := x
        obtain ⟨ya, yb⟩ := y
        simp only at x1 x2 y1 y2
        have HHX := Lib.hid hx
        have HHY := Lib.hid hy
        clear hx hy
        by_cases hxy : (xa, xb) = (ya, yb)
        · have HN : Hid (xs.take (k + 1) = ys.take (k + 1)) := Lib.hid (by
            rw [List.take_add_one, List.take_add_one, HE.out, HHX.out, HHY.out, hxy])
          injection hxy with e1 e2
          subst e1 e2
          go_wp2
          go_quiet (fail)
          go_wp2
          go_roundw
          case rel => exact ⟨k + 1, _, by omega, by go_num, HN.out, rfl⟩
          case measure => simp [intOf]; omega
        · have HD : Hid (decide (xs = ys) = false) := Lib.hid (decide_eq_false (fun e => hxy (by have h1 := HHX.out; rw [e, HHY.out] at h1; injection h1 with h1; exact h1.symm)))
          have hc : ¬ xa = ya ∨ (xa = ya ∧ ¬ xb = yb) := by
            by_cases h1 : xa = ya
            · exact .inr ⟨h1, fun h2 => hxy (by rw [h1, h2])⟩
            · exact .inl h1
          clear hxy
          rcases hc with h1 | ⟨rfl, h1⟩
          · have q1 : (xa == ya) = false := by simpa using h1
            have q2 : (xa != ya) = true := by simpa using h1
            clear h1
            go_wp2
            go_quiet (fail)
            go_wp2
            go_ret
            exact ⟨ret_b HD.out.symm, by first | exact below_drewN (Below.refl _ _) _ | exact below_drewN (below_drewN (Below.refl _ _) _) _⟩
          · have q1 : (xb == yb) = false := by simpa using h1
            have q2 : (xb != yb) = true := by simpa using h1
            clear h1
            go_wp2
            go_quiet (fail)
            go_wp2
            go_ret
            exact ⟨ret_b HD.out.symm, by first | exact below_drewN (Below.refl _ _) _ | exact below_drewN (below_drewN (Below.refl _ _) _) _⟩
      · have e : k = n := by omega
        subst e
        have HD : Hid (decide (xs = ys) = true) := Lib.hid (decide_eq_true (by
          have := HE.out
          rwa [List.take_of_length_le (by have := HLA.out; omega), List.take_of_length_le (by have := HLB.out; omega)] at this))
        go_wp2
        go_ret
        exact ⟨ret_b HD.out.symm, by first | exact below_drewN (Below.refl _ _) _ | exact below_drewN (below_drewN (Below.refl _ _) _) _⟩
  · have hne : ((n : Int) == (m : Int)) = false := by simp; omega
    have hne2 : ((n : Int) != (m : Int)) = true := by simp; omega
    have HD : Hid (decide (xs = ys) = false) := Lib.hid (decide_eq_false (fun e => hnm (by rw [← HLA.out, ← HLB.out, e])))
    clear hnm
    go_enter Try.func12, Try.ntmps12
    go_wp2
    go_ret
    exact ⟨ret_b HD.out.symm, Below.refl _ _⟩
end Go.Proofs.Ytdhljlhecoclfaa.Pcs
