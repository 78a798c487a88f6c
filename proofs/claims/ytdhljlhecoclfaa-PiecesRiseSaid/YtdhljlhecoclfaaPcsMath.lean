/- Spans cut into prefixes, in plain numbers: the greatest piece from the left, again and again. For stage 14. -/
import Derived.Test.YtdhljlhecoclfaaLaw
namespace Go.Proofs.Ytdhljlhecoclfaa.Pcs
set_option linter.unusedVariables false
/-- The level of the greatest piece that begins at lo and ends before e. -/
def GL (B lo e L : Nat) : Prop := L ≤ B ∧ 2 ^ L ∣ lo ∧ lo + 2 ^ L ≤ e ∧ (L = B ∨ ¬ 2 ^ (L + 1) ∣ lo ∨ e < lo + 2 ^ (L + 1))
theorem pow_dvd {a b : Nat} (h : a ≤ b) : 2 ^ a ∣ 2 ^ b := Nat.pow_dvd_pow 2 h
theorem pow_le {a b : Nat} (h : a ≤ b) : 2 ^ a ≤ 2 ^ b := Nat.pow_le_pow_right (by omega) h
theorem pow_lt {a b : Nat} (h : 2 ^ a < 2 ^ b) : a < b := by
  rcases Nat.lt_or_ge a b with g | g
  · exact g
  · have := pow_le g
    omega
theorem pow_pos (a : Nat) : 1 ≤ 2 ^ a := Nat.one_le_two_pow
theorem pow_next (a : Nat) : 2 ^ (a + 1) = 2 ^ a + 2 ^ a := by rw [Nat.pow_succ]; omega
theorem GL.no_lt {B lo e L L' : Nat} (h : GL B lo e L) (g : GL B lo e L') : ¬ L < L' := by
  intro hl
  rcases h.2.2.2 with e1 | e1 | e1
  · have := g.1
    omega
  · exact e1 (Nat.dvd_trans (pow_dvd hl) g.2.1)
  · have := pow_le (show L + 1 ≤ L' from hl)
    have := g.2.2.1
    omega
theorem GL.uniq {B lo e L L' : Nat} (h : GL B lo e L) (g : GL B lo e L') : L = L' := by
  have h1 := h.no_lt g
  have h2 := g.no_lt h
  omega
/-- The pieces from lo on, up to e, each as level and index. -/
inductive Cov (B e : Nat) : Nat → List (Nat × Nat) → Prop
  | nil : Cov B e e []
  | cons {lo L : Nat} {l : List (Nat × Nat)} : GL B lo e L → Cov B e (lo + 2 ^ L) l → Cov B e lo ((L, lo / 2 ^ L) :: l)
theorem Cov.le {B e lo : Nat} {l : List (Nat × Nat)} (h : Cov B e lo l) : lo ≤ e := by
  cases h with
  | nil => exact Nat.le_refl _
  | @cons _ L _ g _ => have := g.2.2.1; have := pow_pos L; omega
theorem Cov.uniq {B e lo : Nat} {l m : List (Nat × Nat)} (h : Cov B e lo l) (g : Cov B e lo m) : l = m := by
  induction h generalizing m with
  | nil =>
    cases g with
    | nil => rfl
    | @cons _ L _ g1 _ => have := g1.2.2.1; have := pow_pos L; omega
  | @cons lo L l h1 h2 ih =>
    cases g with
    | nil => have := h1.2.2.1; have := pow_pos L; omega
    | @cons _ L' _ g1 g2 =>
      obtain rfl := h1.uniq g1
      rw [ih g2]
theorem Cov.fall {B e lo : Nat} {l : List (Nat × Nat)} (h : Cov B e lo l) : ∀ k, 2 ^ k ∣ lo → e < lo + 2 ^ k → k ≤ B + 1 → (∀ p ∈ l, p.1 < k) ∧ (l.map (·.1)).Pairwise (· > ·) := by
  induction h with
  | nil => intro k _ _ _; exact ⟨fun p hp => by simp at hp, List.Pairwise.nil⟩
  | @cons lo L l g _ ih =>
    intro k hk he hkB
    have hL : L < k := pow_lt (by have := g.2.2.1; omega)
    have hn : e < lo + 2 ^ L + 2 ^ L := by
      rcases g.2.2.2 with e1 | e1 | e1
      · obtain rfl : k = B + 1 := by omega
        rw [pow_next] at he
        subst e1
        omega
      · exact absurd (Nat.dvd_trans (pow_dvd hL) hk) e1
      · rw [pow_next] at e1
        omega
    have hd : 2 ^ L ∣ lo + 2 ^ L := Nat.dvd_add g.2.1 (Nat.dvd_refl _)
    obtain ⟨h1, h2⟩ := ih L hd hn (by have := g.1; omega)
    refine ⟨fun p hp => ?_, ?_⟩
    · rcases List.mem_cons.1 hp with rfl | hp
      · exact hL
      · have := h1 p hp
        omega
    · rw [List.map_cons, List.pairwise_cons]
      refine ⟨fun x hx => ?_, h2⟩
      obtain ⟨p, hp, rfl⟩ := List.mem_map.1 hx
      exact h1 p hp
theorem down {B lo e L L' : Nat} (g : GL B lo e L) (g' : GL B (lo + 2 ^ L) e L') (hle : L' ≤ L) (he : e ≤ 2 ^ B) : 2 ^ (L' + 1) ∣ lo + 2 ^ L ∧ e < lo + 2 ^ L + 2 ^ (L' + 1) := by
  have hp := pow_pos L'
  have hLB : ¬ L = B := by
    rintro rfl
    have h1 := g.2.2.1
    have h2 := g'.2.2.1
    omega
  have hd : 2 ^ (L' + 1) ∣ lo + 2 ^ L := by
    by_cases hl : L' < L
    · exact Nat.dvd_add (Nat.dvd_trans (pow_dvd hl) g.2.1) (pow_dvd hl)
    · obtain rfl : L' = L := by omega
      by_cases hx : 2 ^ (L' + 1) ∣ lo
      · exfalso
        have h2 := g'.2.2.1
        rcases g.2.2.2 with e1 | e1 | e1
        · exact hLB e1
        · exact e1 hx
        · rw [pow_next] at e1
          omega
      · obtain ⟨q, hq⟩ := g.2.1
        rcases Nat.mod_two_eq_zero_or_one q with h | h
        · exfalso
          apply hx
          refine ⟨q / 2, ?_⟩
          rw [Nat.pow_succ, Nat.mul_assoc, show 2 * (q / 2) = q by omega]
          exact hq
        · refine ⟨q / 2 + 1, ?_⟩
          rw [Nat.pow_succ, Nat.mul_assoc, show 2 * (q / 2 + 1) = q + 1 by omega, Nat.mul_add, Nat.mul_one, hq]
  refine ⟨hd, ?_⟩
  rcases g'.2.2.2 with e1 | e1 | e1
  · have := g.1
    omega
  · exact absurd hd e1
  · exact e1
/-- The levels rise, and then fall. -/
theorem Cov.rise {B e lo : Nat} {l : List (Nat × Nat)} (h : Cov B e lo l) (he : e ≤ 2 ^ B) : ∃ A C, l = A ++ C ∧ (A.map (·.1)).Pairwise (· < ·) ∧ (C.map (·.1)).Pairwise (· > ·) := by
  induction h with
  | nil => exact ⟨[], [], rfl, List.Pairwise.nil, List.Pairwise.nil⟩
  | @cons lo L l g hc ih =>
    cases hc with
    | nil => exact ⟨[(L, lo / 2 ^ L)], [], rfl, by simp, List.Pairwise.nil⟩
    | @cons _ L' l' g' hc' =>
      by_cases hl : L < L'
      · obtain ⟨A, C, e1, hA, hC⟩ := ih
        cases A with
        | nil =>
          rw [List.nil_append] at e1
          exact ⟨[(L, lo / 2 ^ L)], C, by rw [e1]; rfl, by simp, hC⟩
        | cons a A =>
          rw [List.cons_append] at e1
          injection e1 with e2 e3
          refine ⟨(L, lo / 2 ^ L) :: a :: A, C, by rw [← e2, e3]; rfl, ?_, hC⟩
          rw [List.map_cons, List.pairwise_cons]
          refine ⟨fun x hx => ?_, hA⟩
          rw [List.map_cons] at hx hA
          have h1 := (List.pairwise_cons.1 hA).1
          rcases List.mem_cons.1 hx with rfl | hx
          · rw [← e2]; exact hl
          · have := h1 x hx
            rw [← e2] at this
            show L < x
            have h4 : L' < x := this
            omega
      · obtain ⟨d1, d2⟩ := down g g' (by omega) he
        have hf := (Cov.cons g' hc').fall (L' + 1) d1 d2 (by have := g'.1; omega)
        exact ⟨[(L, lo / 2 ^ L)], _, rfl, by simp, hf.2⟩
/-- No two that follow each other are the halves of one. -/
theorem Cov.halves {B e lo : Nat} {l : List (Nat × Nat)} (h : Cov B e lo l) (he : e ≤ 2 ^ B) : ∀ (i : Nat) (p q : Nat × Nat), l[i]? = some p → l[i + 1]? = some q → p.1 = q.1 → q.2 % 2 = 0 := by
  induction h with
  | nil => intro i p q h1; simp at h1
  | @cons lo L l g hc ih =>
    intro i p q h1 h2 h3
    cases i with
    | succ i => exact ih i p q h1 h2 h3
    | zero =>
      simp at h1
      subst h1
      cases hc with
      | nil => simp at h2
      | @cons _ L' l' g' hc' =>
        simp at h2
        subst h2
        obtain rfl : L = L' := h3
        obtain ⟨q, hq⟩ := (down g g' (Nat.le_refl _) he).1
        show (lo + 2 ^ L) / 2 ^ L % 2 = 0
        rw [hq, Nat.pow_succ, Nat.mul_assoc, Nat.mul_div_cancel_left _ (pow_pos L)]
        omega
/-- Each piece is one, from where the one before it ends. -/
theorem Cov.at {B e lo : Nat} {l : List (Nat × Nat)} (h : Cov B e lo l) : ∀ (i : Nat) (p : Nat × Nat), l[i]? = some p → p.1 ≤ B ∧ lo ≤ p.2 * 2 ^ p.1 ∧ p.2 * 2 ^ p.1 + 2 ^ p.1 ≤ e := by
  induction h with
  | nil => intro i p h1; simp at h1
  | @cons lo L l g hc ih =>
    intro i p h1
    cases i with
    | zero =>
      simp at h1
      subst h1
      have h2 := Nat.div_mul_cancel g.2.1
      refine ⟨g.1, ?_, ?_⟩
      · show lo ≤ lo / 2 ^ L * 2 ^ L
        omega
      · show lo / 2 ^ L * 2 ^ L + 2 ^ L ≤ e
        rw [h2]
        exact g.2.2.1
    | succ i =>
      obtain ⟨h2, h3, h4⟩ := ih i p h1
      exact ⟨h2, Nat.le_trans (Nat.le_add_right lo (2 ^ L)) h3, h4⟩
theorem Cov.next {B e lo : Nat} {p : Nat × Nat} {l : List (Nat × Nat)} (h : Cov B e lo (p :: l)) : p.2 * 2 ^ p.1 = lo ∧ p.1 ≤ B ∧ lo + 2 ^ p.1 ≤ e ∧ Cov B e (lo + 2 ^ p.1) l := by
  cases h with
  | @cons _ L _ g hc => exact ⟨Nat.div_mul_cancel g.2.1, g.1, g.2.2.1, hc⟩
/-- A piece of all keys stands alone. -/
theorem Cov.whole {B e lo : Nat} {l : List (Nat × Nat)} (h : Cov B e lo l) (he : e ≤ 2 ^ B) : (∀ p ∈ l, p.1 < B) ∨ l = [(B, 0)] := by
  induction h with
  | nil => exact .inl (fun p hp => by simp at hp)
  | @cons lo L l g hc ih =>
    by_cases hL : L = B
    · subst hL
      have h1 := g.2.2.1
      obtain rfl : lo = 0 := by omega
      have h2 := hc.le
      cases hc with
      | nil => exact .inr (by simp)
      | @cons _ L' _ g' _ => have := g'.2.2.1; have := pow_pos L'; omega
    · rcases ih with h1 | h1
      · refine .inl (fun p hp => ?_)
        rcases List.mem_cons.1 hp with rfl | hp
        · have := g.1
          show L < B
          omega
        · exact h1 p hp
      · subst h1
        exfalso
        have h2 := hc.next
        have h3 : 0 * 2 ^ B = lo + 2 ^ L := h2.1
        have := pow_pos L
        rw [Nat.zero_mul] at h3
        omega
theorem len_up {m B : Nat} : ∀ {l : List Nat}, l.Pairwise (· < ·) → (∀ x ∈ l, m ≤ x ∧ x < B) → l.length ≤ B - m
  | [], _, _ => by simp
  | x :: l, h, hb => by
    have h0 := hb x (by simp)
    have h1 := List.pairwise_cons.1 h
    have ih := len_up (m := x + 1) (B := B) h1.2 (fun y hy => ⟨h1.1 y hy, (hb y (by simp [hy])).2⟩)
    rw [List.length_cons]
    omega
theorem len_down {B : Nat} : ∀ {l : List Nat}, l.Pairwise (· > ·) → (∀ x ∈ l, x < B) → l.length ≤ B
  | [], _, _ => by simp
  | x :: l, h, hb => by
    have h0 := hb x (by simp)
    have h1 := List.pairwise_cons.1 h
    have ih := len_down (B := x) h1.2 (fun y hy => h1.1 y hy)
    rw [List.length_cons]
    omega
theorem Cov.len {B e lo : Nat} {l : List (Nat × Nat)} (h : Cov B e lo l) (he : e ≤ 2 ^ B) (hB : 1 ≤ B) : l.length ≤ 2 * B := by
  rcases h.whole he with h1 | h1
  · obtain ⟨A, C, rfl, hA, hC⟩ := h.rise he
    have a1 := len_up (m := 0) (B := B) hA (fun x hx => by
      obtain ⟨p, hp, rfl⟩ := List.mem_map.1 hx
      exact ⟨by omega, h1 p (by simp [hp])⟩)
    have a2 := len_down (B := B) hC (fun x hx => by
      obtain ⟨p, hp, rfl⟩ := List.mem_map.1 hx
      exact h1 p (by simp [hp]))
    rw [List.length_map] at a1 a2
    rw [List.length_append]
    omega
  · rw [h1]
    simp
    omega
theorem count_up : ∀ {l : List Nat}, l.Pairwise (· < ·) → ∀ x, l.count x ≤ 1
  | [], _, x => by simp
  | y :: l, h, x => by
    have h1 := List.pairwise_cons.1 h
    have ih := count_up h1.2 x
    rw [List.count_cons]
    by_cases hy : y = x
    · subst hy
      have : l.count y = 0 := List.count_eq_zero.2 (fun hm => by have := h1.1 y hm; omega)
      rw [this]
      simp
    · simp [hy]
      exact ih
theorem count_down : ∀ {l : List Nat}, l.Pairwise (· > ·) → ∀ x, l.count x ≤ 1
  | [], _, x => by simp
  | y :: l, h, x => by
    have h1 := List.pairwise_cons.1 h
    have ih := count_down h1.2 x
    rw [List.count_cons]
    by_cases hy : y = x
    · subst hy
      have : l.count y = 0 := List.count_eq_zero.2 (fun hm => by have := h1.1 y hm; omega)
      rw [this]
      simp
    · simp [hy]
      exact ih
theorem Cov.two {B e lo : Nat} {l : List (Nat × Nat)} (h : Cov B e lo l) (he : e ≤ 2 ^ B) (i x : Nat) : ((l.take i).map (·.1)).count x ≤ 2 := by
  obtain ⟨A, C, e1, hA, hC⟩ := h.rise he
  have h1 := count_up hA x
  have h2 := count_down hC x
  have h3 : ((l.take i).map (·.1)).count x ≤ (l.map (·.1)).count x := ((List.take_sublist i l).map _).count_le x
  rw [e1, List.map_append, List.count_append] at h3
  rw [e1]
  omega
/-- From 0 on the levels fall from the first on. -/
theorem Cov.zero {B e : Nat} {l : List (Nat × Nat)} (h : Cov B e 0 l) (he : e ≤ 2 ^ B) : (l.map (·.1)).Pairwise (· > ·) :=
  (h.fall (B + 1) (Nat.dvd_zero _) (by have := pow_next B; have := pow_pos B; omega) (Nat.le_refl _)).2
theorem Cov.once {B e : Nat} {l : List (Nat × Nat)} (h : Cov B e 0 l) (he : e ≤ 2 ^ B) (i x : Nat) : ((l.take i).map (·.1)).count x ≤ 1 := by
  have h1 := count_down (h.zero he) x
  have h3 : ((l.take i).map (·.1)).count x ≤ (l.map (·.1)).count x := ((List.take_sublist i l).map _).count_le x
  omega
/-- A piece's own span. -/
theorem Cov.own {B L i : Nat} (hL : L ≤ B) (hi : (i + 1) * 2 ^ L ≤ 2 ^ B) : Cov B ((i + 1) * 2 ^ L) (i * 2 ^ L) [(L, i)] := by
  have h1 : (i + 1) * 2 ^ L = i * 2 ^ L + 2 ^ L := by rw [Nat.add_mul, Nat.one_mul]
  have hg : GL B (i * 2 ^ L) ((i + 1) * 2 ^ L) L := ⟨hL, Nat.dvd_mul_left _ _, by omega, .inr (.inr (by rw [pow_next]; have := pow_pos L; omega))⟩
  have hc := Cov.cons hg (by rw [← h1]; exact Cov.nil)
  rwa [Nat.mul_div_cancel _ (pow_pos L)] at hc
/-- From below: a first piece, and a last one. -/
theorem Cov.left {B k a b : Nat} {l : List (Nat × Nat)} (ha : a % 2 = 1) (hab : a < b) (hb : b * 2 ^ k ≤ 2 ^ B) (h : Cov B (b * 2 ^ k) ((a + 1) * 2 ^ k) l) : Cov B (b * 2 ^ k) (a * 2 ^ k) ((k, a) :: l) := by
  have hp := pow_pos k
  have h1 : (a + 1) * 2 ^ k = a * 2 ^ k + 2 ^ k := by rw [Nat.add_mul, Nat.one_mul]
  have h2 : (a + 1) * 2 ^ k ≤ b * 2 ^ k := Nat.mul_le_mul_right _ hab
  have hk : k ≤ B := by
    rcases Nat.lt_or_ge B k with g | g
    · have h3 : 2 ^ B < 2 ^ k := Nat.pow_lt_pow_right (by omega) g
      omega
    · exact g
  have hn : ¬ 2 ^ (k + 1) ∣ a * 2 ^ k := by
    rintro ⟨q, hq⟩
    rw [Nat.pow_succ, Nat.mul_assoc, Nat.mul_comm a] at hq
    have := Nat.eq_of_mul_eq_mul_left (by omega) hq
    omega
  have hg : GL B (a * 2 ^ k) (b * 2 ^ k) k := ⟨hk, Nat.dvd_mul_left _ _, by omega, .inr (.inl hn)⟩
  have hc := Cov.cons hg (by rw [← h1]; exact h)
  rwa [Nat.mul_div_cancel _ hp] at hc
theorem Cov.last {B k b lo : Nat} {l : List (Nat × Nat)} (hb : b % 2 = 0) (hB : (b + 1) * 2 ^ k ≤ 2 ^ B) (h : Cov B (b * 2 ^ k) lo l) : 2 ^ k ∣ lo → Cov B ((b + 1) * 2 ^ k) lo (l ++ [(k, b)]) := by
  have hp := pow_pos k
  have h1 : (b + 1) * 2 ^ k = b * 2 ^ k + 2 ^ k := by rw [Nat.add_mul, Nat.one_mul]
  have hk : k ≤ B := by
    rcases Nat.lt_or_ge B k with g | g
    · have h3 : 2 ^ B < 2 ^ k := Nat.pow_lt_pow_right (by omega) g
      omega
    · exact g
  obtain ⟨E, hE⟩ : ∃ E, b * 2 ^ k = E := ⟨_, rfl⟩
  have hEd : 2 ^ (k + 1) ∣ E := by
    refine ⟨b / 2, ?_⟩
    rw [← hE, Nat.pow_succ, Nat.mul_assoc, show 2 * (b / 2) = b by omega, Nat.mul_comm]
  rw [hE] at h h1
  rw [h1]
  induction h with
  | nil =>
    intro hd
    have hg : GL B E (E + 2 ^ k) k := ⟨hk, hd, Nat.le_refl _, .inr (.inr (by rw [pow_next]; omega))⟩
    have hc := Cov.cons hg Cov.nil
    rw [← hE, Nat.mul_div_cancel _ hp] at hc
    rw [← hE]
    exact hc
  | @cons lo L l g hc ih =>
    intro hd
    have hkL : k ≤ L := by
      rcases Nat.lt_or_ge L k with hlt | hge
      · exfalso
        rcases g.2.2.2 with e1 | e1 | e1
        · omega
        · exact e1 (Nat.dvd_trans (pow_dvd hlt) hd)
        · have h3 : 2 ^ (L + 1) ∣ E := Nat.dvd_trans (pow_dvd (by omega)) hEd
          have h4 : 2 ^ (L + 1) ∣ lo := Nat.dvd_trans (pow_dvd hlt) hd
          have h5 : 2 ^ (L + 1) ∣ E - lo := Nat.dvd_sub h3 h4
          have h6 := g.2.2.1
          have h7 := pow_pos L
          have h8 := Nat.le_of_dvd (by omega) h5
          omega
      · exact hge
    have hg : GL B lo (E + 2 ^ k) L := by
      refine ⟨g.1, g.2.1, by have := g.2.2.1; omega, ?_⟩
      rcases g.2.2.2 with e1 | e1 | e1
      · exact .inl e1
      · exact .inr (.inl e1)
      · by_cases hx : 2 ^ (L + 1) ∣ lo
        · refine .inr (.inr ?_)
          have h3 : 2 ^ (k + 1) ∣ lo + 2 ^ (L + 1) := Nat.dvd_add (Nat.dvd_trans (pow_dvd (by omega)) hx) (pow_dvd (by omega))
          have h4 : 2 ^ (k + 1) ∣ lo + 2 ^ (L + 1) - E := Nat.dvd_sub h3 hEd
          have h5 := Nat.le_of_dvd (by omega) h4
          rw [pow_next] at h5
          omega
        · exact .inr (.inl hx)
    exact Cov.cons hg (ih (Nat.dvd_add (Nat.dvd_trans (pow_dvd hkL) g.2.1) (pow_dvd hkL)))
end Go.Proofs.Ytdhljlhecoclfaa.Pcs
