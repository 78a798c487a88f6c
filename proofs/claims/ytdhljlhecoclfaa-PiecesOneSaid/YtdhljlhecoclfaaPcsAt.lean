/- Span and Cover of spans that there are. Printed by wip/gen/pcslaws.py. -/
import Derived.Test.YtdhljlhecoclfaaPcsLawA
import Derived.Deep.LoopGhost
import Derived.Deep.RegionHeld3
import Derived.Deep.DeepCutAuto
import Derived.Deep.QuietTactic
import Derived.BigQuiet
namespace Go.Proofs.Ytdhljlhecoclfaa.Pcs
open Go Go.RowKit Lw
set_option linter.unusedVariables false
set_option linter.unusedSimpArgs false
theorem span_at {n m i : Nat} (hn : 1 ≤ n ∧ n ≤ 59) (hm : m ≤ n) (hi : i * 2 ^ m + 2 ^ m ≤ 2 ^ n) : isP n m i = true ∧ spLo n m i = ((i * 2 ^ m : Nat) : Int) ∧ spHi n m i = ((i * 2 ^ m + 2 ^ m - 1 : Nat) : Int) := by
  have hp := pow_pos m
  have e1 : ((n : Int) - (m : Int)).toNat = n - m := by omega
  have h1 : (i : Int) < p2 (n - m) := by
    unfold p2
    have e2 : 2 ^ n = 2 ^ (n - m) * 2 ^ m := by rw [← Nat.pow_add, Nat.sub_add_cancel hm]
    rw [e2, ← Nat.succ_mul] at hi
    have h3 := Nat.le_of_mul_le_mul_right hi hp
    omega
  have h2 : isP n m i = true := decide_eq_true ⟨by omega, by omega, by omega, by omega, by rw [e1]; exact h1⟩
  refine ⟨h2, ?_, ?_⟩
  · unfold spLo
    rw [if_pos h2, Int.toNat_natCast]
    unfold p2
    rw [Int.natCast_mul]
  · unfold spHi
    rw [if_pos h2, Int.toNat_natCast]
    unfold p2
    have h4 : (((i * 2 ^ m + 2 ^ m - 1 : Nat)) : Int) = ((i * 2 ^ m : Nat) : Int) + ((2 ^ m : Nat) : Int) - 1 := by omega
    rw [h4, Int.natCast_mul]
theorem cspan_at (n m i : Nat) (hn : 1 ≤ n ∧ n ≤ 59) (hm : m ≤ n) (hi : i * 2 ^ m + 2 ^ m ≤ 2 ^ n) (w : World) :
    Calls Try.prog 13 #[.int .i64 n, .agg #[.int .i64 m, .int .u64 i]] w fun e w' => e = .returned (.tuple #[.int .u64 ((i * 2 ^ m : Nat) : Int), .int .u64 ((i * 2 ^ m + 2 ^ m - 1 : Nat) : Int), .bool true]) ∧ Below w.heap.size w w' := by
  obtain ⟨h1, h2, h3⟩ := span_at hn hm hi
  have hp := pow_pos m
  have h5 : i * 1 ≤ i * 2 ^ m := Nat.mul_le_mul_left _ hp
  have hb := p2_bd (show n ≤ 60 by omega)
  unfold p2 at hb
  have C := cspan_any n m i w (by omega) (by omega) (by omega) (by omega) (by omega) (by omega)
  rw [h1, h2, h3] at C
  exact C
theorem ccov_at (n lo hi : Nat) (h : 1 ≤ n ∧ n ≤ 59 ∧ lo ≤ hi ∧ hi < 2 ^ n) (w : World) :
    Calls Try.prog 10 #[.int .i64 n, .int .u64 lo, .int .u64 hi] w fun e w' => ∃ (A : Option Addr) (m cap : Nat) (l : List (Nat × Nat)), e = .returned (.tuple #[.slice A m cap, .bool true]) ∧ (pcT A m cap (ints l)).I w' ∧ (∀ k, (pcT A m cap (ints l)).F k → w.heap.size ≤ k) ∧ Below w.heap.size w w' ∧ Cov n (hi + 1) lo l ∧ l.length = m := by
  have hb := p2_bd (show n ≤ 60 by omega)
  have hok : okC n lo hi = true := decide_eq_true ⟨by omega, by omega, by omega, by rw [Int.toNat_natCast]; unfold p2; omega⟩
  unfold p2 at hb
  refine (ccover_any n lo hi w (by omega) (by omega) (by omega) (by omega) (by omega) (by omega)).mono ?_
  rintro e w' ⟨A, m, cap, l, rfl, h1, h2, h3, h4, -⟩
  have h5 := h4 hok
  rw [Int.toNat_natCast, Int.toNat_natCast, Int.toNat_natCast] at h5
  exact ⟨A, m, cap, l, by rw [hok], h1, h2, h3, h5, by rw [← ints_len]; exact (pcI h1).len⟩
/-- Where the levels turn. -/
theorem pair_up : ∀ {l : List (Nat × Nat)}, (l.map (·.1)).Pairwise (· < ·) → ∀ (k : Nat) (p q : Nat × Nat), l[k]? = some p → l[k + 1]? = some q → p.1 < q.1
  | [], _, k, p, q, h, _ => by simp at h
  | x :: l, h, 0, p, q, h1, h2 => by
    simp at h1
    subst h1
    rw [List.map_cons, List.pairwise_cons] at h
    exact h.1 q.1 (List.mem_map.2 ⟨q, List.mem_of_getElem? (by simpa using h2), rfl⟩)
  | x :: l, h, k + 1, p, q, h1, h2 => by
    rw [List.map_cons, List.pairwise_cons] at h
    exact pair_up h.2 k p q (by simpa using h1) (by simpa using h2)
theorem pair_down : ∀ {l : List (Nat × Nat)}, (l.map (·.1)).Pairwise (· > ·) → ∀ (k : Nat) (p q : Nat × Nat), l[k]? = some p → l[k + 1]? = some q → q.1 < p.1
  | [], _, k, p, q, h, _ => by simp at h
  | x :: l, h, 0, p, q, h1, h2 => by
    simp at h1
    subst h1
    rw [List.map_cons, List.pairwise_cons] at h
    exact h.1 q.1 (List.mem_map.2 ⟨q, List.mem_of_getElem? (by simpa using h2), rfl⟩)
  | x :: l, h, k + 1, p, q, h1, h2 => by
    rw [List.map_cons, List.pairwise_cons] at h
    exact pair_down h.2 k p q (by simpa using h1) (by simpa using h2)
theorem Cov.turn {B e lo : Nat} {l : List (Nat × Nat)} (h : Cov B e lo l) (he : e ≤ 2 ^ B) : ∃ a : Nat, (∀ (k : Nat) (p q : Nat × Nat), k + 1 < a → l[k]? = some p → l[k + 1]? = some q → p.1 < q.1) ∧ (∀ (k : Nat) (p q : Nat × Nat), a ≤ k → l[k]? = some p → l[k + 1]? = some q → q.1 < p.1) := by
  obtain ⟨A, D, rfl, hA, hD⟩ := h.rise he
  refine ⟨A.length, fun k p q hk h1 h2 => ?_, fun k p q hk h1 h2 => ?_⟩
  · rw [List.getElem?_append_left (by omega)] at h1 h2
    exact pair_up hA k p q h1 h2
  · rw [List.getElem?_append_right (by omega)] at h1 h2
    rw [show k + 1 - A.length = (k - A.length) + 1 by omega] at h2
    exact pair_down hD _ p q h1 h2
end Go.Proofs.Ytdhljlhecoclfaa.Pcs
