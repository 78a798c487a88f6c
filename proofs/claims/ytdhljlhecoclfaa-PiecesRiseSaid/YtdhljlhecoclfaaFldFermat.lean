/- What follows, section of layer 1: a number other than 0 to the power of P-1 is 1. By a number (37) whose powers meet all others. No dump is imported. -/
import Derived.Test.YtdhljlhecoclfaaFldMath
namespace Go.Proofs.Ytdhljlhecoclfaa.Fld

/-! ### Who never meets a place twice meets all -/
theorem pigeon : ∀ (n : Nat) (f : Nat → Nat), (∀ i, i < n → f i < n) → (∀ i j, i < n → j < n → f i = f j → i = j) → ∀ y, y < n → ∃ i, i < n ∧ f i = y := by
  intro n
  induction n with
  | zero => intro f _ _ y hy; omega
  | succ n ih =>
    intro f hb hi y hy
    have hgb : ∀ i, i < n → (fun i => if f i = n then f n else f i) i < n := by
      intro i h
      show (if f i = n then f n else f i) < n
      split
      · rename_i e
        have h1 := hb n (by omega)
        have : f n ≠ n := by intro e2; have := hi i n (by omega) (by omega) (by omega); omega
        omega
      · have := hb i (by omega); omega
    have hgi : ∀ i j, i < n → j < n → (fun i => if f i = n then f n else f i) i = (fun i => if f i = n then f n else f i) j → i = j := by
      intro i j h1 h2
      show (if f i = n then f n else f i) = (if f j = n then f n else f j) → i = j
      split
      · rename_i e1
        split
        · rename_i e2; intro _; exact hi i j (by omega) (by omega) (by omega)
        · intro e; have := hi n j (by omega) (by omega) e; omega
      · split
        · intro e; have := hi i n (by omega) (by omega) e; omega
        · intro e; exact hi i j (by omega) (by omega) e
    have IH := ih _ hgb hgi
    by_cases h1 : y = f n
    · exact ⟨n, by omega, h1.symm⟩
    · by_cases h2 : y = n
      · have h3 := hb n (by omega)
        obtain ⟨i, hi1, hi2⟩ := IH (f n) (by omega)
        have hi2 : (if f i = n then f n else f i) = f n := hi2
        split at hi2
        · rename_i e; exact ⟨i, by omega, by omega⟩
        · have := hi i n (by omega) (by omega) hi2; omega
      · obtain ⟨i, hi1, hi2⟩ := IH y (by omega)
        have hi2 : (if f i = n then f n else f i) = y := hi2
        split at hi2
        · omega
        · exact ⟨i, by omega, hi2⟩

/-! ### Powers, reckoned by the kernel -/
def pm : Nat → Nat → Nat → Nat → Nat
  | 0, u, _, _ => u
  | f + 1, u, s, e => pm f (if e % 2 = 1 then u * s % 2305843009213693951 else u) (s * s % 2305843009213693951) (e / 2)
theorem pm_is : ∀ (f u s e : Nat), e < 2 ^ f → u < 2305843009213693951 → pm f u s e = u * s ^ e % 2305843009213693951 := by
  intro f
  induction f with
  | zero => intro u s e he hu; have : e = 0 := by omega
            subst this; unfold pm; rw [Nat.pow_zero, Nat.mul_one, Nat.mod_eq_of_lt hu]
  | succ f ih =>
    intro u s e he hu
    unfold pm
    have he2 : e / 2 < 2 ^ f := by rw [Nat.pow_succ] at he; omega
    rw [ih _ _ _ he2 (by split; exact Nat.mod_lt _ (by omega); exact hu)]
    have e1 : (s * s % 2305843009213693951) ^ (e / 2) % 2305843009213693951 = s ^ (2 * (e / 2)) % 2305843009213693951 := by
      rw [← Nat.pow_mod, Nat.pow_mul, show s ^ 2 = s * s from by rw [Nat.pow_succ, Nat.pow_one]]
    split
    · rename_i ho
      rw [Nat.mul_mod, e1, Nat.mod_mod, ← Nat.mul_mod, Nat.mul_assoc]
      congr 2
      rw [Nat.mul_comm, ← Nat.pow_succ]; congr 1; omega
    · rename_i ho
      rw [Nat.mul_mod, e1, ← Nat.mul_mod]
      congr 3; omega
theorem pow_is (e : Nat) (h : e < 2 ^ 61) : 37 ^ e % 2305843009213693951 = pm 61 1 37 e := by rw [pm_is 61 1 37 e h (by omega), Nat.one_mul]

/-- P - 1, behind a name (as an exponent a numeral of that size must not be reckoned). -/
def nn : Nat := 2305843009213693950
theorem nn_is : nn = 2305843009213693950 := rfl
theorem g_all : 37 ^ nn % 2305843009213693951 = 1 := by
  rw [pow_is _ (by decide)]; decide +kernel

/-! ### 37 to less than that is not 1 -/
def qs : List Nat := [2, 3, 5, 7, 11, 13, 31, 41, 61, 151, 331, 1321]
theorem qs_not : ∀ q, q ∈ qs → pm 61 1 37 (2305843009213693950 / q) ≠ 1 := by decide +kernel
theorem qs_dvd : ∀ q, q ∈ qs → q ∣ 2305843009213693950 ∧ 2 ≤ q := by decide +kernel
theorem qs_prime : ∀ q, q ∈ qs → ∀ x, x < 1322 → x ∣ q → x = 1 ∨ x = q := by decide +kernel
theorem qs_lt : ∀ q, q ∈ qs → q < 1322 := by decide +kernel
theorem qs_cop (m : Nat) (h : ∀ q, q ∈ qs → ¬ q ∣ m) (q : Nat) (hq : q ∈ qs) : Nat.Coprime m q := by
  have h1 : Nat.gcd m q ∣ q := Nat.gcd_dvd_right m q
  have h2 := Nat.le_of_dvd (by have := (qs_dvd q hq).2; omega) h1
  have h3 := qs_lt q hq
  rcases qs_prime q hq _ (by omega) h1 with e | e
  · exact e
  · exact absurd (e ▸ Nat.gcd_dvd_left m q) (h q hq)
theorem n_is : 2305843009213693950 = 2 * (3 * (3 * (5 * (5 * (7 * (11 * (13 * (31 * (41 * (61 * (151 * (331 * 1321)))))))))))) := by decide +kernel
theorem some_q (m : Nat) (hm : 1 < m) (hd : m ∣ 2305843009213693950) : ∃ q, q ∈ qs ∧ q ∣ m := by
  apply Classical.byContradiction
  intro hn
  have hn' : ∀ q, q ∈ qs → ¬ q ∣ m := fun q hq hd => hn ⟨q, hq, hd⟩
  have C := qs_cop m hn'
  have hc : Nat.Coprime m 2305843009213693950 := by
    rw [n_is]
    repeat (first | exact C _ (by decide) | refine Nat.Coprime.mul_right (C _ (by decide)) ?_)
  have : m = 1 := by
    have h1 := Nat.gcd_eq_left hd
    have h2 : Nat.gcd m 2305843009213693950 = 1 := hc
    omega
  omega

theorem pow_one_mul (d k : Nat) (h : 37 ^ d % 2305843009213693951 = 1) : 37 ^ (d * k) % 2305843009213693951 = 1 := by
  rw [Nat.pow_mul, Nat.pow_mod, h, Nat.one_pow]
theorem pow_shift (d r : Nat) (h : 37 ^ d % 2305843009213693951 = 1) : 37 ^ (d + r) % 2305843009213693951 = 37 ^ r % 2305843009213693951 := by
  rw [Nat.pow_add, Nat.mul_mod, h, Nat.one_mul, Nat.mod_mod]

theorem g_order : ∀ d, 0 < d → d < 2305843009213693950 → 37 ^ d % 2305843009213693951 ≠ 1 := by
  intro d
  induction d using Nat.strongRecOn with
  | _ d ih =>
    intro h0 h1 he
    have hn := nn_is
    have hr : nn % d = 0 := by
      apply Classical.byContradiction
      intro hr
      have hlt := Nat.mod_lt nn h0
      refine ih (nn % d) hlt (by omega) (by omega) ?_
      have e := Nat.div_add_mod nn d
      have h2 := pow_shift (d * (nn / d)) (nn % d) (pow_one_mul d _ he)
      rw [e] at h2
      rw [← h2]; exact g_all
    obtain ⟨m, hm⟩ := Nat.dvd_of_mod_eq_zero hr
    have hm1 : 1 < m := by
      rcases m with _ | _ | m
      · omega
      · omega
      · omega
    obtain ⟨q, hq, k, hk⟩ := some_q m hm1 ⟨d, by rw [← hn, Nat.mul_comm]; exact hm⟩
    have hq2 := (qs_dvd q hq).2
    have e : 2305843009213693950 / q = d * k := by
      rw [← hn, hm, hk, Nat.mul_left_comm, Nat.mul_div_cancel_left _ (by omega)]
    have h3 := pow_one_mul d k he
    rw [← e, pow_is _ (Nat.lt_of_le_of_lt (Nat.div_le_self _ _) (by decide))] at h3
    exact qs_not q hq h3

theorem g_ne (i : Nat) (hi : i ≤ 2305843009213693950) : 37 ^ i % 2305843009213693951 ≠ 0 := by
  intro h
  have hn := nn_is
  have e : nn = i + (nn - i) := by omega
  have h2 := g_all
  rw [e, Nat.pow_add, Nat.mul_mod, h, Nat.zero_mul] at h2
  exact absurd h2 (by decide)
theorem g_inj (i j : Nat) (hij : i < j) (hj : j < 2305843009213693950) : 37 ^ i % 2305843009213693951 ≠ 37 ^ j % 2305843009213693951 := by
  intro h
  refine g_order (j - i) (by omega) (by omega) ?_
  have hn := nn_is
  have e1 : i + (nn - i) = nn := by omega
  have e2 : j + (nn - i) = nn + (j - i) := by omega
  have h1 : 37 ^ (i + (nn - i)) % 2305843009213693951 = 37 ^ (j + (nn - i)) % 2305843009213693951 := by
    rw [Nat.pow_add, Nat.mul_mod, h, ← Nat.mul_mod, ← Nat.pow_add]
  rw [e1, e2, g_all, pow_shift _ _ g_all] at h1
  exact h1.symm
theorem g_meets (b : Nat) (h0 : 0 < b) (h1 : b < 2305843009213693951) : ∃ k, 37 ^ k % 2305843009213693951 = b := by
  have hb : ∀ i, i < 2305843009213693950 → 37 ^ i % 2305843009213693951 - 1 < 2305843009213693950 := by
    intro i hi
    have := Nat.mod_lt (37 ^ i) (by decide : 2305843009213693951 > 0)
    omega
  have hi : ∀ i j, i < 2305843009213693950 → j < 2305843009213693950 → 37 ^ i % 2305843009213693951 - 1 = 37 ^ j % 2305843009213693951 - 1 → i = j := by
    intro i j h2 h3 he
    have n1 := g_ne i (by omega)
    have n2 := g_ne j (by omega)
    have he' : 37 ^ i % 2305843009213693951 = 37 ^ j % 2305843009213693951 := by omega
    rcases Nat.lt_trichotomy i j with h | h | h
    · exact absurd he' (g_inj i j h h3)
    · exact h
    · exact absurd he'.symm (g_inj j i h h2)
  obtain ⟨k, hk, he⟩ := pigeon 2305843009213693950 (fun i => 37 ^ i % 2305843009213693951 - 1) hb hi (b - 1) (by omega)
  have n1 := g_ne k (by omega)
  have he : 37 ^ k % 2305843009213693951 - 1 = b - 1 := he
  exact ⟨k, by omega⟩
theorem fermat_nat (b : Nat) (h : b % 2305843009213693951 ≠ 0) : b ^ nn % 2305843009213693951 = 1 := by
  obtain ⟨k, hk⟩ := g_meets (b % 2305843009213693951) (by omega) (Nat.mod_lt _ (by decide))
  rw [Nat.pow_mod, ← hk, ← Nat.pow_mod, ← Nat.pow_mul, Nat.mul_comm, Nat.pow_mul, Nat.pow_mod, g_all, Nat.one_pow]

end Go.Proofs.Ytdhljlhecoclfaa.Fld
