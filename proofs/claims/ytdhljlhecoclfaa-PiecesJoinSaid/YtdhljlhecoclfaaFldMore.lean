/- What makes 1 of a number: by powers, and by Euclid's steps. No dump is imported. -/
import Derived.Test.YtdhljlhecoclfaaFldFermat
namespace Go.Proofs.Ytdhljlhecoclfaa.Fld

theorem fermat (a : Int) (h : fold a ≠ 0) : pow a 2305843009213693950 = 1 := by
  have hf := fold_bd a
  have e := fermat_nat (fold a).toNat (by rw [Nat.mod_eq_of_lt (by omega)]; omega)
  have e2 : (((fold a).toNat : Int) ^ nn) % 2305843009213693951 = 1 := by
    have := congrArg (fun k : Nat => (k : Int)) e
    simpa using this
  rw [Int.toNat_of_nonneg hf.1] at e2
  unfold fold at e2
  rw [pow_mod] at e2
  unfold pow
  exact e2
theorem inv_is (a : Int) (h : fold a ≠ 0) : mul a (inv a) = 1 := by
  have e := fermat a h
  unfold inv mul pow at *
  rw [mul_mod]
  rw [show (2305843009213693950 : Int).toNat = (2305843009213693949 : Int).toNat + 1 from rfl, Int.pow_succ, Int.mul_comm] at e
  exact e
theorem inv_zero (a : Int) (h : fold a = 0) : inv a = 0 := by
  unfold inv pow
  rw [← pow_mod]
  unfold fold at h
  rw [h]
  rw [show (2305843009213693949 : Int).toNat = 2305843009213693948 + 1 from rfl, Int.pow_succ, Int.mul_zero]; rfl
/-- What makes 1 of a is just one. -/
theorem inv_only (a s : Int) (h : fold a ≠ 0) (hs : mul s a = 1) (s0 : 0 ≤ s) (s1 : s ≤ 2305843009213693950) : s = inv a := by
  have e := inv_is a h
  have b := inv_bd a
  have e1 : (s * (a * inv a)) % 2305843009213693951 = s := by
    unfold mul at e
    rw [Int.mul_emod, e, Int.mul_one, Int.emod_emod_of_dvd _ (Int.dvd_refl _)]; omega
  have e2 : (s * (a * inv a)) % 2305843009213693951 = inv a := by
    unfold mul at hs
    rw [← Int.mul_assoc, Int.mul_emod, hs, Int.one_mul, Int.emod_emod_of_dvd _ (Int.dvd_refl _)]; omega
  omega

/-! ### Euclid's steps -/
/-- Who divides both divides P and a. -/
def Both (a r0 r1 : Int) : Prop := ∀ d : Int, d ∣ r0 → d ∣ r1 → d ∣ 2305843009213693951 ∧ d ∣ a
/-- r is s times a, but for times P. -/
def Is (a r s : Int) : Prop := (s * a) % 2305843009213693951 = r % 2305843009213693951
theorem both_start (a : Int) : Both a 2305843009213693951 (a % 2305843009213693951) := by
  intro d h1 h2
  refine ⟨h1, ?_⟩
  have e := Int.mul_ediv_add_emod a 2305843009213693951
  rw [← e]
  exact Int.dvd_add (Int.dvd_mul_of_dvd_left h1) h2
theorem both_step (a r0 r1 : Int) (h : Both a r0 r1) : Both a r1 (r0 - r0 / r1 * r1) := by
  intro d h1 h2
  refine h d ?_ h1
  have e : r0 = (r0 - r0 / r1 * r1) + r0 / r1 * r1 := by omega
  rw [e]
  exact Int.dvd_add h2 (Int.dvd_mul_of_dvd_right h1)
theorem is_start0 (a : Int) : Is a 2305843009213693951 0 := by unfold Is; simp
theorem is_start1 (a : Int) : Is a (a % 2305843009213693951) 1 := by unfold Is; rw [Int.one_mul]; omega
theorem is_step (a r0 r1 s0 s1 q : Int) (h0 : Is a r0 s0) (h1 : Is a r1 s1) : Is a (r0 - q * r1) (sub s0 (mul q s1)) := by
  unfold Is sub mul at *
  rw [mod_mul]
  rw [Int.sub_mul, Int.sub_emod, h0, mod_mul, Int.mul_assoc, Int.mul_emod q, h1, ← Int.mul_emod, ← Int.sub_emod]
theorem euclid_end (a r0 s0 : Int) (hr : 0 < r0) (h : Both a r0 0) (hi : Is a r0 s0) (ha : fold a ≠ 0) (b0 : 0 ≤ s0) (b1 : s0 ≤ 2305843009213693950) : s0 = inv a := by
  obtain ⟨d1, d2⟩ := h r0 (Int.dvd_refl _) (Int.dvd_zero _)
  have e := inv_is a ha
  unfold mul at e
  have e2 := Int.mul_ediv_add_emod (a * inv a) 2305843009213693951
  rw [e] at e2
  have d3 : r0 ∣ 1 := by
    have e3 : (1 : Int) = a * inv a - 2305843009213693951 * (a * inv a / 2305843009213693951) := by omega
    rw [e3]
    exact Int.dvd_sub (Int.dvd_mul_of_dvd_left d2) (Int.dvd_mul_of_dvd_left d1)
  have e4 : r0 = 1 := by
    have := Int.le_of_dvd (by omega) d3
    omega
  subst e4
  refine inv_only a s0 ha ?_ b0 b1
  unfold Is at hi
  unfold mul
  rw [hi]; rfl
end Go.Proofs.Ytdhljlhecoclfaa.Fld
