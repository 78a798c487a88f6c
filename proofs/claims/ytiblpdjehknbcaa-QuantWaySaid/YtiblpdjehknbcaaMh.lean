/- Texts that the statements of this seat lean on, put together: PcsMath, PcsRef, PcsCov, PcsDef, PcsCode, SkRef, SkDoc, SkDocC, LevDef, LevRef, LevLoad, Lvl, Lrow, Cel, StkDef, SpnMath, QntMath, QntArr, SpnAdd. -/
import Derived.Test.YtiblpdjehknbcaaMa
import Derived.Test.YtiblpdjehknbcaaMb
import Derived.Test.YtiblpdjehknbcaaMc
import Derived.Test.YtiblpdjehknbcaaMd
import Derived.Test.YtiblpdjehknbcaaMe
import Derived.Test.YtiblpdjehknbcaaMf
import Derived.Test.YtiblpdjehknbcaaMg
import Derived.Deep.LoopGhost
import Derived.Deep.RegionHeld3
import Derived.Deep.DeepCutAuto
import Derived.Deep.QuietTactic
import Derived.BigQuiet
import Derived.WalkSpells
import Derived.Defers
import Derived.RangeFuncNested
import Derived.RangeFuncBound
import Derived.RangeFuncCalls
import Derived.RangeFuncLeaves
import Derived.Deep.MidRow
import Derived.Deep.WholeRow
/- Spans cut into prefixes, in plain numbers: the greatest piece from the left, again and again. For stage 14. -/
namespace Go.Proofs.Ytiblpdjehknbcaa.Pcs
set_option linter.unusedVariables false
/-- The level of the greatest piece that begins at lo and ends before e. -/
def GL (B lo e L : Nat) : Prop := L ≤ B ∧ 2 ^ L ∣ lo ∧ lo + 2 ^ L ≤ e ∧ (L = B ∨ ¬ 2 ^ (L + 1) ∣ lo ∨ e < lo + 2 ^ (L + 1))
theorem pow_dvd {a b : Nat} (h : a ≤ b) : 2 ^ a ∣ 2 ^ b := Nat.pow_dvd_pow 2 h
theorem pow_le {a b : Nat} (h : a ≤ b) : 2 ^ a ≤ 2 ^ b := Nat.pow_le_pow_right (by omega) h
theorem pow_lt {a b : Nat} (h : 2 ^ a < 2 ^ b) : a < b := by
  rcases Nat.lt_or_ge a b with g | g
  · exact g
  · have := pow_le g
    omega
theorem pow_pos (a : Nat) : 1 ≤ 2 ^ a := Nat.one_le_two_pow
theorem pow_next (a : Nat) : 2 ^ (a + 1) = 2 ^ a + 2 ^ a := by rw [Nat.pow_succ]; omega
theorem GL.no_lt {B lo e L L' : Nat} (h : GL B lo e L) (g : GL B lo e L') : ¬ L < L' := by
  intro hl
  rcases h.2.2.2 with e1 | e1 | e1
  · have := g.1
    omega
  · exact e1 (Nat.dvd_trans (pow_dvd hl) g.2.1)
  · have := pow_le (show L + 1 ≤ L' from hl)
    have := g.2.2.1
    omega
theorem GL.uniq {B lo e L L' : Nat} (h : GL B lo e L) (g : GL B lo e L') : L = L' := by
  have h1 := h.no_lt g
  have h2 := g.no_lt h
  omega
/-- The pieces from lo on, up to e, each as level and index. -/
inductive Cov (B e : Nat) : Nat → List (Nat × Nat) → Prop
  | nil : Cov B e e []
  | cons {lo L : Nat} {l : List (Nat × Nat)} : GL B lo e L → Cov B e (lo + 2 ^ L) l → Cov B e lo ((L, lo / 2 ^ L) :: l)
theorem Cov.le {B e lo : Nat} {l : List (Nat × Nat)} (h : Cov B e lo l) : lo ≤ e := by
  cases h with
  | nil => exact Nat.le_refl _
  | @cons _ L _ g _ => have := g.2.2.1; have := pow_pos L; omega
theorem Cov.uniq {B e lo : Nat} {l m : List (Nat × Nat)} (h : Cov B e lo l) (g : Cov B e lo m) : l = m := by
  induction h generalizing m with
  | nil =>
    cases g with
    | nil => rfl
    | @cons _ L _ g1 _ => have := g1.2.2.1; have := pow_pos L; omega
  | @cons lo L l h1 h2 ih =>
    cases g with
    | nil => have := h1.2.2.1; have := pow_pos L; omega
    | @cons _ L' _ g1 g2 =>
      obtain rfl := h1.uniq g1
      rw [ih g2]
theorem Cov.fall {B e lo : Nat} {l : List (Nat × Nat)} (h : Cov B e lo l) : ∀ k, 2 ^ k ∣ lo → e < lo + 2 ^ k → k ≤ B + 1 → (∀ p ∈ l, p.1 < k) ∧ (l.map (·.1)).Pairwise (· > ·) := by
  induction h with
  | nil => intro k _ _ _; exact ⟨fun p hp => by simp at hp, List.Pairwise.nil⟩
  | @cons lo L l g _ ih =>
    intro k hk he hkB
    have hL : L < k := pow_lt (by have := g.2.2.1; omega)
    have hn : e < lo + 2 ^ L + 2 ^ L := by
      rcases g.2.2.2 with e1 | e1 | e1
      · obtain rfl : k = B + 1 := by omega
        rw [pow_next] at he
        subst e1
        omega
      · exact absurd (Nat.dvd_trans (pow_dvd hL) hk) e1
      · rw [pow_next] at e1
        omega
    have hd : 2 ^ L ∣ lo + 2 ^ L := Nat.dvd_add g.2.1 (Nat.dvd_refl _)
    obtain ⟨h1, h2⟩ := ih L hd hn (by have := g.1; omega)
    refine ⟨fun p hp => ?_, ?_⟩
    · rcases List.mem_cons.1 hp with rfl | hp
      · exact hL
      · have := h1 p hp
        omega
    · rw [List.map_cons, List.pairwise_cons]
      refine ⟨fun x hx => ?_, h2⟩
      obtain ⟨p, hp, rfl⟩ := List.mem_map.1 hx
      exact h1 p hp
theorem down {B lo e L L' : Nat} (g : GL B lo e L) (g' : GL B (lo + 2 ^ L) e L') (hle : L' ≤ L) (he : e ≤ 2 ^ B) : 2 ^ (L' + 1) ∣ lo + 2 ^ L ∧ e < lo + 2 ^ L + 2 ^ (L' + 1) := by
  have hp := pow_pos L'
  have hLB : ¬ L = B := by
    rintro rfl
    have h1 := g.2.2.1
    have h2 := g'.2.2.1
    omega
  have hd : 2 ^ (L' + 1) ∣ lo + 2 ^ L := by
    by_cases hl : L' < L
    · exact Nat.dvd_add (Nat.dvd_trans (pow_dvd hl) g.2.1) (pow_dvd hl)
    · obtain rfl : L' = L := by omega
      by_cases hx : 2 ^ (L' + 1) ∣ lo
      · exfalso
        have h2 := g'.2.2.1
        rcases g.2.2.2 with e1 | e1 | e1
        · exact hLB e1
        · exact e1 hx
        · rw [pow_next] at e1
          omega
      · obtain ⟨q, hq⟩ := g.2.1
        rcases Nat.mod_two_eq_zero_or_one q with h | h
        · exfalso
          apply hx
          refine ⟨q / 2, ?_⟩
          rw [Nat.pow_succ, Nat.mul_assoc, show 2 * (q / 2) = q by omega]
          exact hq
        · refine ⟨q / 2 + 1, ?_⟩
          rw [Nat.pow_succ, Nat.mul_assoc, show 2 * (q / 2 + 1) = q + 1 by omega, Nat.mul_add, Nat.mul_one, hq]
  refine ⟨hd, ?_⟩
  rcases g'.2.2.2 with e1 | e1 | e1
  · have := g.1
    omega
  · exact absurd hd e1
  · exact e1
/-- The levels rise, and then fall. -/
theorem Cov.rise {B e lo : Nat} {l : List (Nat × Nat)} (h : Cov B e lo l) (he : e ≤ 2 ^ B) : ∃ A C, l = A ++ C ∧ (A.map (·.1)).Pairwise (· < ·) ∧ (C.map (·.1)).Pairwise (· > ·) := by
  induction h with
  | nil => exact ⟨[], [], rfl, List.Pairwise.nil, List.Pairwise.nil⟩
  | @cons lo L l g hc ih =>
    cases hc with
    | nil => exact ⟨[(L, lo / 2 ^ L)], [], rfl, by simp, List.Pairwise.nil⟩
    | @cons _ L' l' g' hc' =>
      by_cases hl : L < L'
      · obtain ⟨A, C, e1, hA, hC⟩ := ih
        cases A with
        | nil =>
          rw [List.nil_append] at e1
          exact ⟨[(L, lo / 2 ^ L)], C, by rw [e1]; rfl, by simp, hC⟩
        | cons a A =>
          rw [List.cons_append] at e1
          injection e1 with e2 e3
          refine ⟨(L, lo / 2 ^ L) :: a :: A, C, by rw [← e2, e3]; rfl, ?_, hC⟩
          rw [List.map_cons, List.pairwise_cons]
          refine ⟨fun x hx => ?_, hA⟩
          rw [List.map_cons] at hx hA
          have h1 := (List.pairwise_cons.1 hA).1
          rcases List.mem_cons.1 hx with rfl | hx
          · rw [← e2]; exact hl
          · have := h1 x hx
            rw [← e2] at this
            show L < x
            have h4 : L' < x := this
            omega
      · obtain ⟨d1, d2⟩ := down g g' (by omega) he
        have hf := (Cov.cons g' hc').fall (L' + 1) d1 d2 (by have := g'.1; omega)
        exact ⟨[(L, lo / 2 ^ L)], _, rfl, by simp, hf.2⟩
/-- No two that follow each other are the halves of one. -/
theorem Cov.halves {B e lo : Nat} {l : List (Nat × Nat)} (h : Cov B e lo l) (he : e ≤ 2 ^ B) : ∀ (i : Nat) (p q : Nat × Nat), l[i]? = some p → l[i + 1]? = some q → p.1 = q.1 → q.2 % 2 = 0 := by
  induction h with
  | nil => intro i p q h1; simp at h1
  | @cons lo L l g hc ih =>
    intro i p q h1 h2 h3
    cases i with
    | succ i => exact ih i p q h1 h2 h3
    | zero =>
      simp at h1
      subst h1
      cases hc with
      | nil => simp at h2
      | @cons _ L' l' g' hc' =>
        simp at h2
        subst h2
        obtain rfl : L = L' := h3
        obtain ⟨q, hq⟩ := (down g g' (Nat.le_refl _) he).1
        show (lo + 2 ^ L) / 2 ^ L % 2 = 0
        rw [hq, Nat.pow_succ, Nat.mul_assoc, Nat.mul_div_cancel_left _ (pow_pos L)]
        omega
/-- Each piece is one, from where the one before it ends. -/
theorem Cov.at {B e lo : Nat} {l : List (Nat × Nat)} (h : Cov B e lo l) : ∀ (i : Nat) (p : Nat × Nat), l[i]? = some p → p.1 ≤ B ∧ lo ≤ p.2 * 2 ^ p.1 ∧ p.2 * 2 ^ p.1 + 2 ^ p.1 ≤ e := by
  induction h with
  | nil => intro i p h1; simp at h1
  | @cons lo L l g hc ih =>
    intro i p h1
    cases i with
    | zero =>
      simp at h1
      subst h1
      have h2 := Nat.div_mul_cancel g.2.1
      refine ⟨g.1, ?_, ?_⟩
      · show lo ≤ lo / 2 ^ L * 2 ^ L
        omega
      · show lo / 2 ^ L * 2 ^ L + 2 ^ L ≤ e
        rw [h2]
        exact g.2.2.1
    | succ i =>
      obtain ⟨h2, h3, h4⟩ := ih i p h1
      exact ⟨h2, Nat.le_trans (Nat.le_add_right lo (2 ^ L)) h3, h4⟩
theorem Cov.next {B e lo : Nat} {p : Nat × Nat} {l : List (Nat × Nat)} (h : Cov B e lo (p :: l)) : p.2 * 2 ^ p.1 = lo ∧ p.1 ≤ B ∧ lo + 2 ^ p.1 ≤ e ∧ Cov B e (lo + 2 ^ p.1) l := by
  cases h with
  | @cons _ L _ g hc => exact ⟨Nat.div_mul_cancel g.2.1, g.1, g.2.2.1, hc⟩
/-- A piece of all keys stands alone. -/
theorem Cov.whole {B e lo : Nat} {l : List (Nat × Nat)} (h : Cov B e lo l) (he : e ≤ 2 ^ B) : (∀ p ∈ l, p.1 < B) ∨ l = [(B, 0)] := by
  induction h with
  | nil => exact .inl (fun p hp => by simp at hp)
  | @cons lo L l g hc ih =>
    by_cases hL : L = B
    · subst hL
      have h1 := g.2.2.1
      obtain rfl : lo = 0 := by omega
      have h2 := hc.le
      cases hc with
      | nil => exact .inr (by simp)
      | @cons _ L' _ g' _ => have := g'.2.2.1; have := pow_pos L'; omega
    · rcases ih with h1 | h1
      · refine .inl (fun p hp => ?_)
        rcases List.mem_cons.1 hp with rfl | hp
        · have := g.1
          show L < B
          omega
        · exact h1 p hp
      · subst h1
        exfalso
        have h2 := hc.next
        have h3 : 0 * 2 ^ B = lo + 2 ^ L := h2.1
        have := pow_pos L
        rw [Nat.zero_mul] at h3
        omega
theorem len_up {m B : Nat} : ∀ {l : List Nat}, l.Pairwise (· < ·) → (∀ x ∈ l, m ≤ x ∧ x < B) → l.length ≤ B - m
  | [], _, _ => by simp
  | x :: l, h, hb => by
    have h0 := hb x (by simp)
    have h1 := List.pairwise_cons.1 h
    have ih := len_up (m := x + 1) (B := B) h1.2 (fun y hy => ⟨h1.1 y hy, (hb y (by simp [hy])).2⟩)
    rw [List.length_cons]
    omega
theorem len_down {B : Nat} : ∀ {l : List Nat}, l.Pairwise (· > ·) → (∀ x ∈ l, x < B) → l.length ≤ B
  | [], _, _ => by simp
  | x :: l, h, hb => by
    have h0 := hb x (by simp)
    have h1 := List.pairwise_cons.1 h
    have ih := len_down (B := x) h1.2 (fun y hy => h1.1 y hy)
    rw [List.length_cons]
    omega
theorem Cov.len {B e lo : Nat} {l : List (Nat × Nat)} (h : Cov B e lo l) (he : e ≤ 2 ^ B) (hB : 1 ≤ B) : l.length ≤ 2 * B := by
  rcases h.whole he with h1 | h1
  · obtain ⟨A, C, rfl, hA, hC⟩ := h.rise he
    have a1 := len_up (m := 0) (B := B) hA (fun x hx => by
      obtain ⟨p, hp, rfl⟩ := List.mem_map.1 hx
      exact ⟨by omega, h1 p (by simp [hp])⟩)
    have a2 := len_down (B := B) hC (fun x hx => by
      obtain ⟨p, hp, rfl⟩ := List.mem_map.1 hx
      exact h1 p (by simp [hp]))
    rw [List.length_map] at a1 a2
    rw [List.length_append]
    omega
  · rw [h1]
    simp
    omega
theorem count_up : ∀ {l : List Nat}, l.Pairwise (· < ·) → ∀ x, l.count x ≤ 1
  | [], _, x => by simp
  | y :: l, h, x => by
    have h1 := List.pairwise_cons.1 h
    have ih := count_up h1.2 x
    rw [List.count_cons]
    by_cases hy : y = x
    · subst hy
      have : l.count y = 0 := List.count_eq_zero.2 (fun hm => by have := h1.1 y hm; omega)
      rw [this]
      simp
    · simp [hy]
      exact ih
theorem count_down : ∀ {l : List Nat}, l.Pairwise (· > ·) → ∀ x, l.count x ≤ 1
  | [], _, x => by simp
  | y :: l, h, x => by
    have h1 := List.pairwise_cons.1 h
    have ih := count_down h1.2 x
    rw [List.count_cons]
    by_cases hy : y = x
    · subst hy
      have : l.count y = 0 := List.count_eq_zero.2 (fun hm => by have := h1.1 y hm; omega)
      rw [this]
      simp
    · simp [hy]
      exact ih
theorem Cov.two {B e lo : Nat} {l : List (Nat × Nat)} (h : Cov B e lo l) (he : e ≤ 2 ^ B) (i x : Nat) : ((l.take i).map (·.1)).count x ≤ 2 := by
  obtain ⟨A, C, e1, hA, hC⟩ := h.rise he
  have h1 := count_up hA x
  have h2 := count_down hC x
  have h3 : ((l.take i).map (·.1)).count x ≤ (l.map (·.1)).count x := ((List.take_sublist i l).map _).count_le x
  rw [e1, List.map_append, List.count_append] at h3
  rw [e1]
  omega
/-- From 0 on the levels fall from the first on. -/
theorem Cov.zero {B e : Nat} {l : List (Nat × Nat)} (h : Cov B e 0 l) (he : e ≤ 2 ^ B) : (l.map (·.1)).Pairwise (· > ·) :=
  (h.fall (B + 1) (Nat.dvd_zero _) (by have := pow_next B; have := pow_pos B; omega) (Nat.le_refl _)).2
theorem Cov.once {B e : Nat} {l : List (Nat × Nat)} (h : Cov B e 0 l) (he : e ≤ 2 ^ B) (i x : Nat) : ((l.take i).map (·.1)).count x ≤ 1 := by
  have h1 := count_down (h.zero he) x
  have h3 : ((l.take i).map (·.1)).count x ≤ (l.map (·.1)).count x := ((List.take_sublist i l).map _).count_le x
  omega
/-- A piece's own span. -/
theorem Cov.own {B L i : Nat} (hL : L ≤ B) (hi : (i + 1) * 2 ^ L ≤ 2 ^ B) : Cov B ((i + 1) * 2 ^ L) (i * 2 ^ L) [(L, i)] := by
  have h1 : (i + 1) * 2 ^ L = i * 2 ^ L + 2 ^ L := by rw [Nat.add_mul, Nat.one_mul]
  have hg : GL B (i * 2 ^ L) ((i + 1) * 2 ^ L) L := ⟨hL, Nat.dvd_mul_left _ _, by omega, .inr (.inr (by rw [pow_next]; have := pow_pos L; omega))⟩
  have hc := Cov.cons hg (by rw [← h1]; exact Cov.nil)
  rwa [Nat.mul_div_cancel _ (pow_pos L)] at hc
/-- From below: a first piece, and a last one. -/
theorem Cov.left {B k a b : Nat} {l : List (Nat × Nat)} (ha : a % 2 = 1) (hab : a < b) (hb : b * 2 ^ k ≤ 2 ^ B) (h : Cov B (b * 2 ^ k) ((a + 1) * 2 ^ k) l) : Cov B (b * 2 ^ k) (a * 2 ^ k) ((k, a) :: l) := by
  have hp := pow_pos k
  have h1 : (a + 1) * 2 ^ k = a * 2 ^ k + 2 ^ k := by rw [Nat.add_mul, Nat.one_mul]
  have h2 : (a + 1) * 2 ^ k ≤ b * 2 ^ k := Nat.mul_le_mul_right _ hab
  have hk : k ≤ B := by
    rcases Nat.lt_or_ge B k with g | g
    · have h3 : 2 ^ B < 2 ^ k := Nat.pow_lt_pow_right (by omega) g
      omega
    · exact g
  have hn : ¬ 2 ^ (k + 1) ∣ a * 2 ^ k := by
    rintro ⟨q, hq⟩
    rw [Nat.pow_succ, Nat.mul_assoc, Nat.mul_comm a] at hq
    have := Nat.eq_of_mul_eq_mul_left (by omega) hq
    omega
  have hg : GL B (a * 2 ^ k) (b * 2 ^ k) k := ⟨hk, Nat.dvd_mul_left _ _, by omega, .inr (.inl hn)⟩
  have hc := Cov.cons hg (by rw [← h1]; exact h)
  rwa [Nat.mul_div_cancel _ hp] at hc
theorem Cov.last {B k b lo : Nat} {l : List (Nat × Nat)} (hb : b % 2 = 0) (hB : (b + 1) * 2 ^ k ≤ 2 ^ B) (h : Cov B (b * 2 ^ k) lo l) : 2 ^ k ∣ lo → Cov B ((b + 1) * 2 ^ k) lo (l ++ [(k, b)]) := by
  have hp := pow_pos k
  have h1 : (b + 1) * 2 ^ k = b * 2 ^ k + 2 ^ k := by rw [Nat.add_mul, Nat.one_mul]
  have hk : k ≤ B := by
    rcases Nat.lt_or_ge B k with g | g
    · have h3 : 2 ^ B < 2 ^ k := Nat.pow_lt_pow_right (by omega) g
      omega
    · exact g
  obtain ⟨E, hE⟩ : ∃ E, b * 2 ^ k = E := ⟨_, rfl⟩
  have hEd : 2 ^ (k + 1) ∣ E := by
    refine ⟨b / 2, ?_⟩
    rw [← hE, Nat.pow_succ, Nat.mul_assoc, show 2 * (b / 2) = b by omega, Nat.mul_comm]
  rw [hE] at h h1
  rw [h1]
  induction h with
  | nil =>
    intro hd
    have hg : GL B E (E + 2 ^ k) k := ⟨hk, hd, Nat.le_refl _, .inr (.inr (by rw [pow_next]; omega))⟩
    have hc := Cov.cons hg Cov.nil
    rw [← hE, Nat.mul_div_cancel _ hp] at hc
    rw [← hE]
    exact hc
  | @cons lo L l g hc ih =>
    intro hd
    have hkL : k ≤ L := by
      rcases Nat.lt_or_ge L k with hlt | hge
      · exfalso
        rcases g.2.2.2 with e1 | e1 | e1
        · omega
        · exact e1 (Nat.dvd_trans (pow_dvd hlt) hd)
        · have h3 : 2 ^ (L + 1) ∣ E := Nat.dvd_trans (pow_dvd (by omega)) hEd
          have h4 : 2 ^ (L + 1) ∣ lo := Nat.dvd_trans (pow_dvd hlt) hd
          have h5 : 2 ^ (L + 1) ∣ E - lo := Nat.dvd_sub h3 h4
          have h6 := g.2.2.1
          have h7 := pow_pos L
          have h8 := Nat.le_of_dvd (by omega) h5
          omega
      · exact hge
    have hg : GL B lo (E + 2 ^ k) L := by
      refine ⟨g.1, g.2.1, by have := g.2.2.1; omega, ?_⟩
      rcases g.2.2.2 with e1 | e1 | e1
      · exact .inl e1
      · exact .inr (.inl e1)
      · by_cases hx : 2 ^ (L + 1) ∣ lo
        · refine .inr (.inr ?_)
          have h3 : 2 ^ (k + 1) ∣ lo + 2 ^ (L + 1) := Nat.dvd_add (Nat.dvd_trans (pow_dvd (by omega)) hx) (pow_dvd (by omega))
          have h4 : 2 ^ (k + 1) ∣ lo + 2 ^ (L + 1) - E := Nat.dvd_sub h3 hEd
          have h5 := Nat.le_of_dvd (by omega) h4
          rw [pow_next] at h5
          omega
        · exact .inr (.inl hx)
    exact Cov.cons hg (ih (Nat.dvd_add (Nat.dvd_trans (pow_dvd hkL) g.2.1) (pow_dvd hkL)))
end Go.Proofs.Ytiblpdjehknbcaa.Pcs
/- The document's two, Is, Span, Same of pieces. Printed by wip/gen/pcsref.py. -/
namespace Go.Proofs.Ytiblpdjehknbcaa.Pcs
open Go Go.RowKit Lw
set_option linter.unusedVariables false
set_option linter.unusedSimpArgs false
theorem ret_b {a b : Bool} (h : a = b) : Ending.returned (.bool a) = Ending.returned (.bool b) := by rw [h]
/-- Two to the power of k, as a number of the program. -/
def p2 (k : Nat) : Int := ((2 ^ k : Nat) : Int)
theorem p2_0 : p2 0 = 1 := rfl
theorem p2_next (k : Nat) : p2 k + p2 k = p2 (k + 1) := by unfold p2; rw [pow_next]; omega
theorem p2_pos (k : Nat) : 1 ≤ p2 k := by unfold p2; have := pow_pos k; omega
theorem p2_mono {a b : Nat} (h : a ≤ b) : p2 a ≤ p2 b := by unfold p2; have := pow_le h; omega
theorem p2_60 : p2 60 = 1152921504606846976 := rfl
theorem p2_bd {k : Nat} (h : k ≤ 60) : 1 ≤ p2 k ∧ p2 k ≤ 1152921504606846976 := ⟨p2_pos k, by rw [← p2_60]; exact p2_mono h⟩
theorem p2_mul {a b : Nat} (h : a ≤ b) : p2 (b - a) * p2 a = p2 b := by
  unfold p2
  rw [← Int.natCast_mul, ← Nat.pow_add, Nat.sub_add_cancel h]
theorem u64_in {x : Int} (h0 : 0 ≤ x) (h1 : x ≤ 18446744073709551615) : IntKind.u64.wrap x = x := by rw [IntKind.wrap_u64]; omega
/-- Is there such a piece? -/
def isP (b L i : Int) : Bool := decide (1 ≤ b ∧ b ≤ 59 ∧ 0 ≤ L ∧ L ≤ b ∧ i < p2 (b - L).toNat)
def spLo (b L i : Int) : Int := if isP b L i = true then i * p2 L.toNat else 0
def spHi (b L i : Int) : Int := if isP b L i = true then i * p2 L.toNat + p2 L.toNat - 1 else 0
theorem isP_bd {b L i : Int} (h : isP b L i = true) (hi0 : 0 ≤ i) : 1 ≤ b ∧ b ≤ 59 ∧ 0 ≤ L ∧ L ≤ b ∧ i < p2 (b - L).toNat ∧ 0 ≤ i * p2 L.toNat ∧ i * p2 L.toNat + p2 L.toNat ≤ p2 b.toNat := by
  obtain ⟨h1, h2, h3, h4, h5⟩ := of_decide_eq_true h
  have hp := p2_pos L.toNat
  refine ⟨h1, h2, h3, h4, h5, Int.mul_nonneg hi0 (by omega), ?_⟩
  have e : (b - L).toNat = b.toNat - L.toNat := by omega
  rw [e] at h5
  have e2 := p2_mul (show L.toNat ≤ b.toNat by omega)
  have h6 : (i + 1) * p2 L.toNat ≤ p2 (b.toNat - L.toNat) * p2 L.toNat := Int.mul_le_mul_of_nonneg_right (by omega) (by omega)
  rw [e2, Int.add_mul, Int.one_mul] at h6
  exact h6
theorem PcV.two {w : World} {A : Option Addr} {n c : Nat} {ps : List (Int × Int)} (h : PcV w A n c ps) {k : Nat} {p : Int × Int} (hp : ps[k]? = some p) : ∃ ad g q, A = some ad ∧ ad.add (k * 2) = ⟨g, q, none⟩ ∧ w.cell? ⟨g, q, none⟩ = some (.int .i64 p.1) ∧ w.cell? ⟨g, q + 1, none⟩ = some (.int .u64 p.2) := by
  obtain ⟨a, g, q, h1, h2, h3, h4, _⟩ := h.at hp
  exact ⟨a, g, q, h1, h2, h3, h4⟩
set_option maxRecDepth 100000 in
set_option maxHeartbeats 4000000 in
theorem psame_any (A B : Option Addr) (n m ca cb : Nat) (xs ys : List (Int × Int)) (w : World) (ha : PcV w A n ca xs) (hb : PcV w B m cb ys) :
    Calls Try.prog 12 #[.slice A n ca, .slice B m cb] w fun e w' => e = .returned (.bool (decide (xs = ys))) ∧ Below w.heap.size w w' := by
  have HA := Lib.hid ha
  have HB := Lib.hid hb
  have HLA := Lib.hid ha.len
  have HLB := Lib.hid hb.len
  have hn1 := ha.nc
  have hn2 := ha.cm
  have hm1 := hb.nc
  have hm2 := hb.cm
  unfold maxLen at hn2 hm2
  clear ha hb
  by_cases hnm : n = m
  · subst hnm
    go_enter Try.func12, Try.ntmps12
    go_wp2
    go_loopw [5] (fun i wr => ∃ k d : Nat, k ≤ n ∧ i = .int .i64 k ∧ xs.take k = ys.take k ∧ wr = w.drewN d) (fun i _ => n - (intOf i).toNat)
    case atStart => exact ⟨0, 0, Nat.zero_le _, rfl, rfl, rfl⟩
    case round =>
      obtain ⟨k, d, hk, rfl, heq, rfl⟩ := hrel
      have HE := Lib.hid heq
      clear heq
      by_cases hlt : k < n
      · obtain ⟨x, hx⟩ : ∃ x, xs[k]? = some x := ⟨_, List.getElem?_eq_getElem (by have := HLA.out; omega)⟩
        obtain ⟨y, hy⟩ : ∃ y, ys[k]? = some y := ⟨_, List.getElem?_eq_getElem (by have := HLB.out; omega)⟩
        obtain ⟨ad, g1, q1, rfl, had, x1, x2⟩ := HA.out.two hx
        obtain ⟨bd, g2, q2, rfl, hbd, y1, y2⟩ := HB.out.two hy
        obtain ⟨xa, xb⟩ := x
        obtain ⟨ya, yb⟩ := y
        simp only at x1 x2 y1 y2
        have HHX := Lib.hid hx
        have HHY := Lib.hid hy
        clear hx hy
        by_cases hxy : (xa, xb) = (ya, yb)
        · have HN : Hid (xs.take (k + 1) = ys.take (k + 1)) := Lib.hid (by
            rw [List.take_add_one, List.take_add_one, HE.out, HHX.out, HHY.out, hxy])
          injection hxy with e1 e2
          subst e1 e2
          go_wp2
          go_quiet (fail)
          go_wp2
          go_roundw
          case rel => exact ⟨k + 1, _, by omega, by go_num, HN.out, rfl⟩
          case measure => simp [intOf]; omega
        · have HD : Hid (decide (xs = ys) = false) := Lib.hid (decide_eq_false (fun e => hxy (by have h1 := HHX.out; rw [e, HHY.out] at h1; injection h1 with h1; exact h1.symm)))
          have hc : ¬ xa = ya ∨ (xa = ya ∧ ¬ xb = yb) := by
            by_cases h1 : xa = ya
            · exact .inr ⟨h1, fun h2 => hxy (by rw [h1, h2])⟩
            · exact .inl h1
          clear hxy
          rcases hc with h1 | ⟨rfl, h1⟩
          · have q1 : (xa == ya) = false := by simpa using h1
            have q2 : (xa != ya) = true := by simpa using h1
            clear h1
            go_wp2
            go_quiet (fail)
            go_wp2
            go_ret
            exact ⟨ret_b HD.out.symm, by first | exact below_drewN (Below.refl _ _) _ | exact below_drewN (below_drewN (Below.refl _ _) _) _⟩
          · have q1 : (xb == yb) = false := by simpa using h1
            have q2 : (xb != yb) = true := by simpa using h1
            clear h1
            go_wp2
            go_quiet (fail)
            go_wp2
            go_ret
            exact ⟨ret_b HD.out.symm, by first | exact below_drewN (Below.refl _ _) _ | exact below_drewN (below_drewN (Below.refl _ _) _) _⟩
      · have e : k = n := by omega
        subst e
        have HD : Hid (decide (xs = ys) = true) := Lib.hid (decide_eq_true (by
          have := HE.out
          rwa [List.take_of_length_le (by have := HLA.out; omega), List.take_of_length_le (by have := HLB.out; omega)] at this))
        go_wp2
        go_ret
        exact ⟨ret_b HD.out.symm, by first | exact below_drewN (Below.refl _ _) _ | exact below_drewN (below_drewN (Below.refl _ _) _) _⟩
  · have hne : ((n : Int) == (m : Int)) = false := by simp; omega
    have hne2 : ((n : Int) != (m : Int)) = true := by simp; omega
    have HD : Hid (decide (xs = ys) = false) := Lib.hid (decide_eq_false (fun e => hnm (by rw [← HLA.out, ← HLB.out, e])))
    clear hnm
    go_enter Try.func12, Try.ntmps12
    go_wp2
    go_ret
    exact ⟨ret_b HD.out.symm, Below.refl _ _⟩
end Go.Proofs.Ytiblpdjehknbcaa.Pcs
/- The document's Cover of pieces. Printed by wip/gen/pcsref.py. -/
namespace Go.Proofs.Ytiblpdjehknbcaa.Pcs
open Go Go.RowKit Lw
set_option linter.unusedVariables false
set_option linter.unusedSimpArgs false
/-- There is always a next piece. -/
theorem GL.ex_from {B lo e : Nat} : ∀ (d L : Nat), B - L = d → L ≤ B → 2 ^ L ∣ lo → lo + 2 ^ L ≤ e → ∃ L', GL B lo e L'
  | 0, L, h, h1, h2, h3 => ⟨L, h1, h2, h3, .inl (by omega)⟩
  | d + 1, L, h, h1, h2, h3 => by
    by_cases g1 : 2 ^ (L + 1) ∣ lo
    · by_cases g2 : lo + 2 ^ (L + 1) ≤ e
      · exact GL.ex_from d (L + 1) (by omega) (by omega) g1 g2
      · exact ⟨L, h1, h2, h3, .inr (.inr (by omega))⟩
    · exact ⟨L, h1, h2, h3, .inr (.inl g1)⟩
theorem GL.ex {B lo e : Nat} (h : lo < e) : ∃ L, GL B lo e L :=
  GL.ex_from B 0 (by omega) (by omega) (by simp) (by simp; omega)
theorem Cov.ex {B e : Nat} : ∀ (d lo : Nat), e - lo = d → lo ≤ e → ∃ l, Cov B e lo l := by
  intro d
  induction d using Nat.strongRecOn with
  | ind d ih =>
    intro lo h1 h2
    by_cases h : lo = e
    · subst h
      exact ⟨[], Cov.nil⟩
    · obtain ⟨L, hg⟩ := GL.ex (B := B) (show lo < e by omega)
      have hp := pow_pos L
      have hf := hg.2.2.1
      obtain ⟨l, hl⟩ := ih (e - (lo + 2 ^ L)) (by omega) (lo + 2 ^ L) rfl hf
      exact ⟨_, Cov.cons hg hl⟩
def ints (l : List (Nat × Nat)) : List (Int × Int) := l.map (fun p => ((p.1 : Int), (p.2 : Int)))
theorem ints_len (l : List (Nat × Nat)) : (ints l).length = l.length := List.length_map _
theorem ints_get {l : List (Nat × Nat)} {k : Nat} {p : Nat × Nat} (h : l[k]? = some p) : (ints l)[k]? = some ((p.1 : Int), (p.2 : Int)) := by
  unfold ints
  rw [List.getElem?_map, h]
  rfl
theorem ints_app (l m : List (Nat × Nat)) : ints (l ++ m) = ints l ++ ints m := List.map_append
theorem ints_inj : ∀ {l m : List (Nat × Nat)}, ints l = ints m → l = m
  | [], [], _ => rfl
  | [], _ :: _, h => by simp [ints] at h
  | _ :: _, [], h => by simp [ints] at h
  | (a, b) :: l, (c, d) :: m, h => by
    unfold ints at h
    rw [List.map_cons, List.map_cons] at h
    injection h with e1 e2
    injection e1 with e3 e4
    have e5 := ints_inj (l := l) (m := m) e2
    simp only at e3 e4
    obtain rfl : a = c := by omega
    obtain rfl : b = d := by omega
    rw [e5]
def okC (b lo hi : Int) : Bool := decide (1 ≤ b ∧ b ≤ 59 ∧ lo ≤ hi ∧ hi < p2 b.toNat)
theorem dvd_tmod {j k : Nat} : Int.tmod (j : Int) (p2 k) = ((j % 2 ^ k : Nat) : Int) := by
  unfold p2
  rw [Int.tmod_eq_emod_of_nonneg (by omega), Int.natCast_emod]
theorem div_tdiv {j k : Nat} : Int.tdiv (j : Int) (p2 k) = ((j / 2 ^ k : Nat) : Int) := by
  unfold p2
  rw [Int.tdiv_eq_ediv_of_nonneg (by omega), Int.natCast_ediv]
/-- What Cover answers: a row of pieces of its own. -/
def CovR (w w' : World) (e : Ending) (b lo hi : Int) : Prop :=
  ∃ (A : Option Addr) (n cap : Nat) (l : List (Nat × Nat)), e = .returned (.tuple #[.slice A n cap, .bool (okC b lo hi)]) ∧ (pcT A n cap (ints l)).I w' ∧ (∀ k, (pcT A n cap (ints l)).F k → w.heap.size ≤ k) ∧ Below w.heap.size w w' ∧ (okC b lo hi = true → Cov b.toNat (hi.toNat + 1) lo.toNat l) ∧ (okC b lo hi = false → l = [])
theorem pc_alloc {X : World} {n : Nat} {vs : Array Value} {t : TypeId} (h : X.heap.size = n) : (X.alloc (.cells vs t)).heap[n]? = some (.cells vs t (0, 0)) := by
  subst h
  exact heap_alloc_new X _
theorem pcT_nil (w : World) (A : Option Addr) (h : ∀ a, A = some a → a.block < w.heap.size) : (pcT A 0 0 (ints [])).I w :=
  ⟨⟨fun _ => ⟨rfl, rfl⟩, Nat.le_refl _, by decide, rfl, fun i q hq => by simp [ints] at hq⟩, h⟩
end Go.Proofs.Ytiblpdjehknbcaa.Pcs
/- What Halves answers. Printed by wip/gen/pcslaws.py. -/
namespace Go.Proofs.Ytiblpdjehknbcaa.Pcs
open Go Go.RowKit Lw
set_option linter.unusedVariables false
set_option linter.unusedSimpArgs false
def haB (b L i : Int) : Bool := isP b L i && decide (0 < L)
def haL (b L i : Int) : Int := if haB b L i = true then L - 1 else 0
def haX (b L i : Int) : Int := if haB b L i = true then 2 * i else 0
def haY (b L i : Int) : Int := if haB b L i = true then 2 * i + 1 else 0
end Go.Proofs.Ytiblpdjehknbcaa.Pcs
/- The walks of package pieces (the code's). Printed by wip/gen/pcscode.py. -/
namespace Go.Proofs.Ytiblpdjehknbcaa.Pcs
open Go Go.RowKit Lw
set_option linter.unusedVariables false
set_option linter.unusedSimpArgs false
theorem shlc {b : Int} (h0 : 0 ≤ b) (h1 : b ≤ 63) : IntKind.u64.wrap (2 ^ min b.toNat 64) = p2 b.toNat := by
  have e : min b.toNat 64 = b.toNat := by omega
  rw [e]
  have h2 : ((2 : Int) ^ b.toNat) = p2 b.toNat := by unfold p2; simp
  rw [h2]
  have h3 := p2_mono (show b.toNat ≤ 63 by omega)
  have h4 : p2 63 = 9223372036854775808 := rfl
  have h5 := p2_pos b.toNat
  exact u64_in (by omega) (by omega)
/-- How many pieces of a level there are. -/
def cntP (b L : Int) : Int := if 1 ≤ b ∧ b ≤ 59 ∧ 0 ≤ L ∧ L ≤ b then p2 (b - L).toNat else 0
theorem isP_cnt {b L i : Int} (h0 : 0 ≤ i) : isP b L i = decide (i < cntP b L) := by
  unfold isP cntP
  by_cases h : 1 ≤ b ∧ b ≤ 59 ∧ 0 ≤ L ∧ L ≤ b
  · rw [if_pos h]
    exact decide_eq_decide.2 ⟨fun g => g.2.2.2.2, fun g => ⟨h.1, h.2.1, h.2.2.1, h.2.2.2, g⟩⟩
  · rw [if_neg h]
    exact decide_eq_decide.2 ⟨fun g => absurd ⟨g.1, g.2.1, g.2.2.1, g.2.2.2.1⟩ h, fun g => by omega⟩
theorem cntP_bd (b L : Int) : 0 ≤ cntP b L ∧ cntP b L ≤ 1152921504606846976 := by
  unfold cntP
  split
  · have := p2_bd (show (b - L).toNat ≤ 60 by omega)
    omega
  · omega
set_option maxRecDepth 100000 in
theorem count_n1 (b L : Int) (w : World) (hb0 : -9223372036854775808 ≤ b) (hb1 : b ≤ 9223372036854775807) (hL0 : -9223372036854775808 ≤ L) (hL1 : L ≤ 9223372036854775807)  (h1 : ¬ 1 ≤ b) :
    Calls Try.prog 41 #[.int .i64 b, .int .i64 L] w fun e w' => e = .returned (.int .u64 (0)) ∧ w' = w := by
  have d1 : decide (b < 1) = true := decide_eq_true (by omega)
  have f1 : b < 1 := by omega
  clear hb0 hb1 hL0 hL1 h1
  go_enter Try.func41, Try.ntmps41
  go_wp2
  go_ret
  exact ⟨rfl, rfl⟩
set_option maxRecDepth 100000 in
theorem count_n2 (b L : Int) (w : World) (hb0 : -9223372036854775808 ≤ b) (hb1 : b ≤ 9223372036854775807) (hL0 : -9223372036854775808 ≤ L) (hL1 : L ≤ 9223372036854775807) (h1 : 1 ≤ b) (h2 : ¬ b ≤ 59) :
    Calls Try.prog 41 #[.int .i64 b, .int .i64 L] w fun e w' => e = .returned (.int .u64 (0)) ∧ w' = w := by
  have d1 : decide (b < 1) = false := decide_eq_false (by omega)
  have f1 : ¬ b < 1 := by omega
  have d2 : decide (59 < b) = true := decide_eq_true (by omega)
  have f2 : 59 < b := by omega
  clear hb0 hb1 hL0 hL1 h1 h2
  go_enter Try.func41, Try.ntmps41
  go_wp2
  go_ret
  exact ⟨rfl, rfl⟩
set_option maxRecDepth 100000 in
theorem count_n3 (b L : Int) (w : World) (hb0 : -9223372036854775808 ≤ b) (hb1 : b ≤ 9223372036854775807) (hL0 : -9223372036854775808 ≤ L) (hL1 : L ≤ 9223372036854775807) (h1 : 1 ≤ b) (h2 : b ≤ 59) (h3 : ¬ 0 ≤ L) :
    Calls Try.prog 41 #[.int .i64 b, .int .i64 L] w fun e w' => e = .returned (.int .u64 (0)) ∧ w' = w := by
  have d1 : decide (b < 1) = false := decide_eq_false (by omega)
  have f1 : ¬ b < 1 := by omega
  have d2 : decide (59 < b) = false := decide_eq_false (by omega)
  have f2 : ¬ 59 < b := by omega
  have d3 : decide (L < 0) = true := decide_eq_true (by omega)
  have f3 : L < 0 := by omega
  clear hb0 hb1 hL0 hL1 h1 h2 h3
  go_enter Try.func41, Try.ntmps41
  go_wp2
  go_ret
  exact ⟨rfl, rfl⟩
set_option maxRecDepth 100000 in
theorem count_n4 (b L : Int) (w : World) (hb0 : -9223372036854775808 ≤ b) (hb1 : b ≤ 9223372036854775807) (hL0 : -9223372036854775808 ≤ L) (hL1 : L ≤ 9223372036854775807) (h1 : 1 ≤ b) (h2 : b ≤ 59) (h3 : 0 ≤ L) (h4 : ¬ L ≤ b) :
    Calls Try.prog 41 #[.int .i64 b, .int .i64 L] w fun e w' => e = .returned (.int .u64 (0)) ∧ w' = w := by
  have d1 : decide (b < 1) = false := decide_eq_false (by omega)
  have f1 : ¬ b < 1 := by omega
  have d2 : decide (59 < b) = false := decide_eq_false (by omega)
  have f2 : ¬ 59 < b := by omega
  have d3 : decide (L < 0) = false := decide_eq_false (by omega)
  have f3 : ¬ L < 0 := by omega
  have d4 : decide (b < L) = true := decide_eq_true (by omega)
  have f4 : b < L := by omega
  clear hb0 hb1 hL0 hL1 h1 h2 h3 h4
  go_enter Try.func41, Try.ntmps41
  go_wp2
  go_ret
  exact ⟨rfl, rfl⟩
set_option maxRecDepth 100000 in
theorem count_y (b L : Int) (w : World) (hb0 : -9223372036854775808 ≤ b) (hb1 : b ≤ 9223372036854775807) (hL0 : -9223372036854775808 ≤ L) (hL1 : L ≤ 9223372036854775807) (h1 : 1 ≤ b) (h2 : b ≤ 59) (h3 : 0 ≤ L) (h4 : L ≤ b) :
    Calls Try.prog 41 #[.int .i64 b, .int .i64 L] w fun e w' => e = .returned (.int .u64 (p2 (b - L).toNat)) ∧ w' = w := by
  have d1 : decide (b < 1) = false := decide_eq_false (by omega)
  have f1 : ¬ b < 1 := by omega
  have d2 : decide (59 < b) = false := decide_eq_false (by omega)
  have f2 : ¬ 59 < b := by omega
  have d3 : decide (L < 0) = false := decide_eq_false (by omega)
  have f3 : ¬ L < 0 := by omega
  have d4 : decide (b < L) = false := decide_eq_false (by omega)
  have f4 : ¬ b < L := by omega
  have q0 : ¬ b - L < 0 := by omega
  have q1 : wrap64 (b - L) = b - L := IntWalk.wrap64_in _ ⟨by omega, by omega⟩
  have q2 : IntKind.i64.wrap (b - L) = b - L := IntWalk.i64_in _ ⟨by omega, by omega⟩
  have q3 := shlc (b := b - L) (by omega) (by omega)
  obtain ⟨X, hX⟩ : ∃ X, p2 (b - L).toNat = X := ⟨_, rfl⟩
  rw [hX] at q3 ⊢
  clear hX
  obtain ⟨D, hD⟩ : ∃ D, b - L = D := ⟨_, rfl⟩
  rw [hD] at q0 q1 q2 q3
  have q4 : wrap64 (b - L) = D := by rw [hD]; exact q1
  have q5 : IntKind.i64.wrap (b - L) = D := by rw [hD]; exact q2
  clear hD
  clear hb0 hb1 hL0 hL1 h1 h2 h3 h4
  go_enter Try.func41, Try.ntmps41
  go_wp2
  go_ret
  exact ⟨rfl, rfl⟩
theorem count_any (b L : Int) (w : World) (hb0 : -9223372036854775808 ≤ b) (hb1 : b ≤ 9223372036854775807) (hL0 : -9223372036854775808 ≤ L) (hL1 : L ≤ 9223372036854775807) :
    Calls Try.prog 41 #[.int .i64 b, .int .i64 L] w fun e w' => e = .returned (.int .u64 (cntP b L)) ∧ w' = w := by
  unfold cntP
  by_cases h1 : 1 ≤ b
  · by_cases h2 : b ≤ 59
    · by_cases h3 : 0 ≤ L
      · by_cases h4 : L ≤ b
        · rw [if_pos ⟨h1, h2, h3, h4⟩]; exact count_y b L w hb0 hb1 hL0 hL1 h1 h2 h3 h4
        · rw [if_neg (fun h => h4 h.2.2.2)]; exact count_n4 b L w hb0 hb1 hL0 hL1 h1 h2 h3 h4
      · rw [if_neg (fun h => h3 h.2.2.1)]; exact count_n3 b L w hb0 hb1 hL0 hL1 h1 h2 h3
    · rw [if_neg (fun h => h2 h.2.1)]; exact count_n2 b L w hb0 hb1 hL0 hL1 h1 h2
  · rw [if_neg (fun h => h1 h.1)]; exact count_n1 b L w hb0 hb1 hL0 hL1 h1
set_option maxRecDepth 100000 in
set_option maxHeartbeats 4000000 in
theorem chalves_0 (b i : Int) (w : World) :
    Calls Try.prog 38 #[.int .i64 b, .agg #[.int .i64 0, .int .u64 i]] w fun e w' => e = .returned (.tuple #[.agg #[.int .i64 0, .int .u64 0], .agg #[.int .i64 0, .int .u64 0], .bool false]) ∧ Below w.heap.size w w' := by
  go_enter Try.func38, Try.ntmps38
  go_upto_region 1 with fail
  refine wp_region_held_drew (S := (fun w' => w'.cell? ⟨w.heap.size, 0, none⟩ = some (.int .i64 0) ∧ w'.cell? ⟨w.heap.size, 1, none⟩ = some (.int .u64 i))) (by kernel_rfl) (by simp [go_sem]) (fun hHeld => ?_)
  refine wpAnyH_take (i := 0) (v := ?_) rfl (by kernel_rfl) (by kernel_rfl) (by kernel_rfl) (fun _ _ _ h => h) (Or.inl ⟨by rfl, ?_⟩) hHeld ?_
  rotate_left
  · intro w hSw
    (try dsimp only at hSw)
    go_simp
    (try with_reducible rfl)
  (try simp only [List.getElem_toArray, List.getElem_cons_zero, List.getElem_cons_succ, Act.put, List.setIfInBounds_toArray, List.set_cons_zero, List.set_cons_succ])
  refine wpAnyH_take (i := 1) (v := ?_) rfl (by kernel_rfl) (by kernel_rfl) (by kernel_rfl) (fun _ _ _ h => h) (Or.inl ⟨by rfl, ?_⟩) hHeld ?_
  rotate_left
  · intro w hSw
    (try dsimp only at hSw)
    go_simp
    (try with_reducible rfl)
  (try simp only [List.getElem_toArray, List.getElem_cons_zero, List.getElem_cons_succ, Act.put, List.setIfInBounds_toArray, List.set_cons_zero, List.set_cons_succ])
  refine wpAnyH_take (i := 2) (v := ?_) rfl (by kernel_rfl) (by kernel_rfl) (by kernel_rfl) (fun _ _ _ h => h) (Or.inl ⟨by rfl, ?_⟩) hHeld ?_
  rotate_left
  · intro w hSw
    (try dsimp only at hSw)
    go_simp
    (try with_reducible rfl)
  (try simp only [List.getElem_toArray, List.getElem_cons_zero, List.getElem_cons_succ, Act.put, List.setIfInBounds_toArray, List.set_cons_zero, List.set_cons_succ])
  refine wpAnyH_take (i := 3) (v := ?_) rfl (by kernel_rfl) (by kernel_rfl) (by kernel_rfl) (fun _ _ _ h => h) (Or.inl ⟨by rfl, ?_⟩) hHeld ?_
  rotate_left
  · intro w hSw
    (try dsimp only at hSw)
    go_simp
    (try with_reducible rfl)
  (try simp only [List.getElem_toArray, List.getElem_cons_zero, List.getElem_cons_succ, Act.put, List.setIfInBounds_toArray, List.set_cons_zero, List.set_cons_succ])
  refine wpAnyH_take (i := 4) (v := undef) rfl (by kernel_rfl) (by kernel_rfl) (by kernel_rfl) (fun _ _ _ h => h) (Or.inr ⟨by rfl, rfl⟩) hHeld ?_
  (try simp only [List.getElem_toArray, List.getElem_cons_zero, List.getElem_cons_succ, Act.put, List.setIfInBounds_toArray, List.set_cons_zero, List.set_cons_succ])
  refine wpAnyH_take (i := 5) (v := undef) rfl (by kernel_rfl) (by kernel_rfl) (by kernel_rfl) (fun _ _ _ h => h) (Or.inr ⟨by rfl, rfl⟩) hHeld ?_
  (try simp only [List.getElem_toArray, List.getElem_cons_zero, List.getElem_cons_succ, Act.put, List.setIfInBounds_toArray, List.set_cons_zero, List.set_cons_succ])
  refine wpAnyH_take (i := 6) (v := undef) rfl (by kernel_rfl) (by kernel_rfl) (by kernel_rfl) (fun _ _ _ h => h) (Or.inr ⟨by rfl, rfl⟩) hHeld ?_
  (try simp only [List.getElem_toArray, List.getElem_cons_zero, List.getElem_cons_succ, Act.put, List.setIfInBounds_toArray, List.set_cons_zero, List.set_cons_succ])
  refine wpAnyH_take (i := 7) (v := undef) rfl (by kernel_rfl) (by kernel_rfl) (by kernel_rfl) (fun _ _ _ h => h) (Or.inr ⟨by rfl, rfl⟩) hHeld ?_
  (try simp only [List.getElem_toArray, List.getElem_cons_zero, List.getElem_cons_succ, Act.put, List.setIfInBounds_toArray, List.set_cons_zero, List.set_cons_succ])
  refine wpAnyH_take (i := 8) (v := undef) rfl (by kernel_rfl) (by kernel_rfl) (by kernel_rfl) (fun _ _ _ h => h) (Or.inr ⟨by rfl, rfl⟩) hHeld ?_
  (try simp only [List.getElem_toArray, List.getElem_cons_zero, List.getElem_cons_succ, Act.put, List.setIfInBounds_toArray, List.set_cons_zero, List.set_cons_succ])
  refine wpAnyH_ready (rs := [9]) (by kernel_rfl) (by simp) ?_
  refine AllReadyH.cons rfl (fun K hK => ?_) AllReadyH.nil
  go_simp
  refine hK.out _ _ (by simp [go_sem]) (fun hHeld => ?_)
  clear hK K
  (try simp only [List.getElem_toArray, List.getElem_cons_zero, List.getElem_cons_succ, Act.put, List.setIfInBounds_toArray, List.set_cons_zero, List.set_cons_succ])
  refine wpAnyH_take (i := 10) (v := undef) rfl (by kernel_rfl) (by kernel_rfl) (by kernel_rfl) (fun _ _ _ h => h) (Or.inr ⟨by rfl, rfl⟩) hHeld ?_
  (try simp only [List.getElem_toArray, List.getElem_cons_zero, List.getElem_cons_succ, Act.put, List.setIfInBounds_toArray, List.set_cons_zero, List.set_cons_succ])
  refine wpAnyH_take (i := 11) (v := ?_) rfl (by kernel_rfl) (by kernel_rfl) (by kernel_rfl) (fun _ _ _ h => h) (Or.inl ⟨by rfl, ?_⟩) hHeld ?_
  rotate_left
  · intro w hSw
    (try dsimp only at hSw)
    go_simp
    (try with_reducible rfl)
  (try simp only [List.getElem_toArray, List.getElem_cons_zero, List.getElem_cons_succ, Act.put, List.setIfInBounds_toArray, List.set_cons_zero, List.set_cons_succ])
  refine wpAnyH_done (by kernel_rfl) ?_ _
  go_wp2
  all_goals refine bodyPost_ret (v := .tuple #[.agg #[.int .i64 0, .int .u64 0], .agg #[.int .i64 0, .int .u64 0], .bool false]) (by simp [results, Try.results38, go_sem, *]) rfl ?_
  all_goals exact ⟨rfl, (by repeat' (first | (with_reducible exact Below.refl _ _) | (with_reducible assumption) | (with_reducible refine below_over ?_ _ _) | (with_reducible refine Lw.below_alloc ?_ _) | (with_reducible refine Below.drew ?_) | (with_reducible refine below_drewN ?_ _) | (with_reducible refine Below.setCell ?_ ?_ _) | go_size))⟩
set_option maxRecDepth 100000 in
set_option maxHeartbeats 4000000 in
theorem chalves_n (b L i : Int) (w : World) (hb0 : -9223372036854775808 ≤ b) (hb1 : b ≤ 9223372036854775807) (hL0 : -9223372036854775808 ≤ L) (hL1 : L ≤ 9223372036854775807) (hi0 : 0 ≤ i) (hi1 : i ≤ 18446744073709551615) (hP : isP b L i = false) (hL : ¬ L = 0) :
    Calls Try.prog 38 #[.int .i64 b, .agg #[.int .i64 L, .int .u64 i]] w fun e w' => e = .returned (.tuple #[.agg #[.int .i64 0, .int .u64 0], .agg #[.int .i64 0, .int .u64 0], .bool false]) ∧ Below w.heap.size w w' := by
  have CC := Lib.hid (fun w => count_any b L w hb0 hb1 hL0 hL1)
  obtain ⟨X, hX⟩ : ∃ X, cntP b L = X := ⟨_, rfl⟩
  rw [isP_cnt hi0] at hP
  rw [hX] at CC hP
  have hP := of_decide_eq_false hP
  have d1 : decide (X ≤ i) = true := decide_eq_true (by omega)
  have f1 : X ≤ i := by omega
  have f2 : ¬ i < X := hP
  have l1 : (L == 0) = false := by simpa using hL
  clear hb0 hb1 hL0 hL1 hi0 hi1 hX hP
  go_enter Try.func38, Try.ntmps38
  go_upto_region 1 with fail
  go_quiet (first | (go_at_call 41; with_reducible refine Calls.quiet_of_same (CC.out _)))
  all_goals go_wp2
  all_goals refine bodyPost_ret (v := .tuple #[.agg #[.int .i64 0, .int .u64 0], .agg #[.int .i64 0, .int .u64 0], .bool false]) (by simp [results, Try.results38, go_sem, *]) rfl ?_
  all_goals exact ⟨rfl, (by repeat' (first | (with_reducible exact Below.refl _ _) | (with_reducible assumption) | (with_reducible refine below_over ?_ _ _) | (with_reducible refine Lw.below_alloc ?_ _) | (with_reducible refine Below.drew ?_) | (with_reducible refine below_drewN ?_ _) | (with_reducible refine Below.setCell ?_ ?_ _) | go_size))⟩
set_option maxRecDepth 100000 in
set_option maxHeartbeats 4000000 in
theorem chalves_y (b L i : Int) (w : World) (hb0 : -9223372036854775808 ≤ b) (hb1 : b ≤ 9223372036854775807) (hL0 : -9223372036854775808 ≤ L) (hL1 : L ≤ 9223372036854775807) (hi0 : 0 ≤ i) (hi1 : i ≤ 18446744073709551615) (hP : isP b L i = true) (hL : ¬ L = 0) :
    Calls Try.prog 38 #[.int .i64 b, .agg #[.int .i64 L, .int .u64 i]] w fun e w' => e = .returned (.tuple #[.agg #[.int .i64 (L - 1), .int .u64 (2 * i)], .agg #[.int .i64 (L - 1), .int .u64 (2 * i + 1)], .bool true]) ∧ Below w.heap.size w w' := by
  have CC := Lib.hid (fun w => count_any b L w hb0 hb1 hL0 hL1)
  obtain ⟨h1, h2, h3, h4, h5, h6, h7⟩ := isP_bd hP hi0
  have hq := p2_bd (show (b - L).toNat ≤ 60 by omega)
  have w1 : wrap64 (L - 1) = L - 1 := IntWalk.wrap64_in _ ⟨by omega, by omega⟩
  have w2 : IntKind.i64.wrap (L - 1) = L - 1 := IntWalk.i64_in _ ⟨by omega, by omega⟩
  have w3 : IntKind.u64.wrap (2 * i) = 2 * i := u64_in (by omega) (by omega)
  have w4 : IntKind.u64.wrap (2 * i + 1) = 2 * i + 1 := u64_in (by omega) (by omega)
  obtain ⟨X, hX⟩ : ∃ X, cntP b L = X := ⟨_, rfl⟩
  rw [isP_cnt hi0] at hP
  rw [hX] at CC hP
  have hP := of_decide_eq_true hP
  have d1 : decide (X ≤ i) = false := decide_eq_false (by omega)
  have f1 : ¬ X ≤ i := by omega
  have f2 : i < X := hP
  have l1 : (L == 0) = false := by simpa using hL
  clear hb0 hb1 hL0 hL1 hi0 hi1 hX hP h1 h2 h3 h4 h5 h6 h7 hq
  go_enter Try.func38, Try.ntmps38
  go_upto_region 1 with fail
  go_quiet (first | (go_at_call 41; with_reducible refine Calls.quiet_of_same (CC.out _)))
  all_goals go_upto_region 5 with fail
  all_goals go_region
  all_goals go_wp2
  all_goals refine bodyPost_ret (v := .tuple #[.agg #[.int .i64 (L - 1), .int .u64 (2 * i)], .agg #[.int .i64 (L - 1), .int .u64 (2 * i + 1)], .bool true]) (by simp [results, Try.results38, go_sem, *]) rfl ?_
  all_goals exact ⟨rfl, (by repeat' (first | (with_reducible exact Below.refl _ _) | (with_reducible assumption) | (with_reducible refine below_over ?_ _ _) | (with_reducible refine Lw.below_alloc ?_ _) | (with_reducible refine Below.drew ?_) | (with_reducible refine below_drewN ?_ _) | (with_reducible refine Below.setCell ?_ ?_ _) | go_size))⟩
theorem chalves_any (b L i : Int) (w : World) (hb0 : -9223372036854775808 ≤ b) (hb1 : b ≤ 9223372036854775807) (hL0 : -9223372036854775808 ≤ L) (hL1 : L ≤ 9223372036854775807) (hi0 : 0 ≤ i) (hi1 : i ≤ 18446744073709551615) :
    Calls Try.prog 38 #[.int .i64 b, .agg #[.int .i64 L, .int .u64 i]] w fun e w' => e = .returned (.tuple #[.agg #[.int .i64 (haL b L i), .int .u64 (haX b L i)], .agg #[.int .i64 (haL b L i), .int .u64 (haY b L i)], .bool (haB b L i)]) ∧ Below w.heap.size w w' := by
  unfold haL haX haY haB
  by_cases hL : L = 0
  · subst hL
    have e : (isP b 0 i && decide ((0 : Int) < 0)) = false := by simp
    rw [e, if_neg (by simp), if_neg (by simp), if_neg (by simp)]
    exact chalves_0 b i w
  · cases h : isP b L i with
    | false =>
      have e : (false && decide ((0 : Int) < L)) = false := rfl
      rw [e, if_neg (by simp), if_neg (by simp), if_neg (by simp)]
      exact chalves_n b L i w hb0 hb1 hL0 hL1 hi0 hi1 h hL
    | true =>
      obtain ⟨h1, h2, h3, h4, h5, h6, h7⟩ := isP_bd h hi0
      have e : (true && decide ((0 : Int) < L)) = true := by simp; omega
      rw [e, if_pos rfl, if_pos rfl, if_pos rfl]
      exact chalves_y b L i w hb0 hb1 hL0 hL1 hi0 hi1 h hL
theorem flatP_app (us vs : List (Int × Int)) : flatP (us ++ vs) = flatP us ++ flatP vs := List.flatMap_append
/-- What cut holds: the row of the left pieces in a cell, and a block for each right piece, the last one first. -/
structure CutI (w0 w : World) (N : Nat) (xs : List (Nat × Nat)) (rs : List (Nat × Nat × Nat)) (v : Value) : Prop where
  cell : w.heap[w0.heap.size]? = some (.cells #[v] 37 (0, 0))
  own : w.ownsRow w0.heap.size 41 2 v xs.length (flatP (ints xs))
  ne : ∀ k, v.ownBlock = some k → k ≠ w0.heap.size ∧ ∀ r ∈ rs, k ≠ r.1
  bx : ∀ r ∈ rs, w.heap[r.1]? = some (.cells #[.int .i64 (r.2.1 : Int), .int .u64 (r.2.2 : Int)] 41 (0, 0)) ∧ r.1 ≠ w0.heap.size ∧ w0.heap.size ≤ r.1
  below : Below w0.heap.size w0 w
  len : xs.length + rs.length ≤ N
theorem hp_lt {w : World} {b : Nat} {o : Obj} (h : w.heap[b]? = some o) : b < w.heap.size := by
  rcases Nat.lt_or_ge b w.heap.size with h1 | h1
  · exact h1
  · rw [Array.getElem?_eq_none h1] at h; cases h
theorem CutI.cl {w0 w : World} {N : Nat} {xs : List (Nat × Nat)} {rs : List (Nat × Nat × Nat)} {v : Value} (h : CutI w0 w N xs rs v) : w.cell? ⟨w0.heap.size, 0, none⟩ = some v ∧ w.frozen? ⟨w0.heap.size, 0, none⟩ = false ∧ w0.heap.size < w.heap.size := by
  have h1 := h.cell
  exact ⟨box_cell h1 rfl, by simp [World.frozen?, h1], hp_lt h1⟩
theorem ints_one (k a : Nat) : ints [(k, a)] = [((k : Int), (a : Int))] := rfl
/-- A piece put behind the row. -/
theorem CutI.app {w0 w w1 w2 : World} {N : Nat} {xs : List (Nat × Nat)} {rs : List (Nat × Nat × Nat)} {v v' : Value} {k a : Nat} (h : CutI w0 w N xs rs v) (hb : Below w.heap.size w w1) (hlt : w.heap.size < w1.heap.size)
    (ho : w2.ownsRow w0.heap.size 41 2 v' (xs.length + 1) (flatP (ints xs) ++ [.int .i64 (k : Int), .int .u64 (a : Int)])) (hg : w1.grownBy w2 v.ownBlock) (hv' : ∀ k, v'.ownBlock = some k → v.ownBlock = some k ∨ w1.heap.size ≤ k) :
    CutI w0 (w2.setCell ⟨w0.heap.size, 0, none⟩ v') (N + 1) (xs ++ [(k, a)]) rs v' := by
  have hl := h.cl.2.2
  have hnv : ∀ b, b < w.heap.size → (∀ k, v.ownBlock = some k → k ≠ b) → w2.heap[b]? = w.heap[b]? := fun b hlb hb1 => by
    rw [hg.block b (by have := hb.4; omega) (fun e => hb1 b e.symm rfl)]
    exact hb.5 b hlb
  have hs : ∀ b, b ≠ w0.heap.size → (w2.setCell ⟨w0.heap.size, 0, none⟩ v').heap[b]? = w2.heap[b]? := fun b hb1 => by
    simp only [World.setCell, Array.getElem?_modify]
    rw [if_neg (fun e => hb1 e.symm)]
  have hc2 : w2.heap[w0.heap.size]? = some (.cells #[v] 37 (0, 0)) := by
    rw [hnv _ hl (fun k hk => (h.ne k hk).1)]
    exact h.cell
  have hn' : ∀ k, v'.ownBlock = some k → k ≠ w0.heap.size ∧ ∀ r ∈ rs, k ≠ r.1 := fun k hk => by
    rcases hv' k hk with g | g
    · exact h.ne k g
    · have h4 := hb.4
      exact ⟨by omega, fun r hr => by have := hp_lt (h.bx r hr).1; omega⟩
  refine ⟨?_, ?_, hn', ?_, ?_, ?_⟩
  · simp [World.setCell, Array.getElem?_modify, hc2]
  · rw [List.length_append, ints_app, flatP_app, ints_one]
    refine ⟨ho.1, ?_⟩
    rcases ho.2 with g | ⟨g, cap, cur, e1, e2, e3, e4⟩
    · exact .inl g
    · refine .inr ⟨g, cap, cur, e1, e2, ?_, e4⟩
      rw [hs g (hn' g (by rw [e1]; rfl)).1]
      exact e3
  · intro r hr
    obtain ⟨g1, g2, g3⟩ := h.bx r hr
    refine ⟨?_, g2, g3⟩
    rw [hs _ g2, hnv _ (hp_lt g1) (fun k hk => (h.ne k hk).2 r hr)]
    exact g1
  · have hbl := h.below
    have h1 : Below w0.heap.size w0 w1 := hbl.trans (hb.mono hbl.4)
    have h2 : Kept (fun _ => False) w0 w2 := (Kept.of_below (F := fun _ => False) h1).grown hg (fun q hq => .inr (by rcases h.own.lt q hq with ⟨g, _⟩; exact g))
    exact (h2.set (.inr (Nat.le_refl _)) 0 v').below
  · rw [List.length_append]
    have := h.len
    simp
    omega
theorem CutI.st {w0 w w1 w2 : World} {N : Nat} {xs : List (Nat × Nat)} {rs : List (Nat × Nat × Nat)} {v : Value} (h : CutI w0 w N xs rs v) (hb : Below w.heap.size w w1) (hg : w1.grownBy w2 v.ownBlock) : w2.cell? ⟨w0.heap.size, 0, none⟩ = some v ∧ w2.frozen? ⟨w0.heap.size, 0, none⟩ = false := by
  have hl := h.cl.2.2
  have h1 : w2.heap[w0.heap.size]? = some (.cells #[v] 37 (0, 0)) := by
    rw [hg.block _ (by have := hb.4; omega) (fun e => (h.ne _ e.symm).1 rfl), hb.5 _ hl]
    exact h.cell
  exact ⟨box_cell h1 rfl, by simp [World.frozen?, h1]⟩
theorem own_slice {w : World} {base : Nat} {e : TypeId} {size : Nat} {v : Value} {n : Nat} {xs : List Value} (h : w.ownsRow base e size v n xs) : ∃ (A : Option Addr) (m cap : Nat), v = .slice A m cap := by
  rcases h.2 with ⟨h1, _⟩ | ⟨g, cap, cur, h1, _⟩
  · exact ⟨_, _, _, h1⟩
  · exact ⟨_, _, _, h1⟩
theorem CutI.same {w0 w : World} {N : Nat} {xs : List (Nat × Nat)} {rs : List (Nat × Nat × Nat)} {v : Value} (h : CutI w0 w N xs rs v) : w.setCell ⟨w0.heap.size, 0, none⟩ v = w := by
  have h1 := h.cell
  have h2 : (w.setCell ⟨w0.heap.size, 0, none⟩ v).heap = w.heap := by
    apply Array.ext_getElem?
    intro i
    simp only [World.setCell, Array.getElem?_modify]
    by_cases hi : w0.heap.size = i
    · subst hi
      rw [if_pos rfl, h1]
      rfl
    · rw [if_neg hi]
  have h3 : w.setCell ⟨w0.heap.size, 0, none⟩ v = { w with heap := (w.setCell ⟨w0.heap.size, 0, none⟩ v).heap } := rfl
  rw [h3, h2]
theorem CutI.mono {w0 w : World} {N M : Nat} {xs : List (Nat × Nat)} {rs : List (Nat × Nat × Nat)} {v : Value} (h : CutI w0 w N xs rs v) (hN : N ≤ M) : CutI w0 w M xs rs v :=
  ⟨h.cell, h.own, h.ne, h.bx, h.below, Nat.le_trans h.len hN⟩
/-- A block for one more right piece. -/
theorem own2_up' {w w' : World} {base : Nat} {e : TypeId} {size : Nat} {v : Value} {n : Nat} {xs : List Value} (h : w.ownsRow base e size v n xs) (hb : Below w.heap.size w w') : w'.ownsRow base e size v n xs :=
  (Kept.of_below (F := fun _ => False) hb).own h (fun _ _ h => h)
theorem CutI.right {w0 w w1 : World} {N : Nat} {xs : List (Nat × Nat)} {rs : List (Nat × Nat × Nat)} {v : Value} {k a g : Nat} (h : CutI w0 w N xs rs v) (hb : Below w.heap.size w w1) (hg : w.heap.size ≤ g) (hc : w1.heap[g]? = some (.cells #[.int .i64 (k : Int), .int .u64 (a : Int)] 41 (0, 0))) :
    CutI w0 w1 (N + 1) xs ((g, k, a) :: rs) v := by
  have hl := h.cl.2.2
  have hk : ∀ b, b < w.heap.size → w1.heap[b]? = w.heap[b]? := hb.5
  refine ⟨?_, own2_up' h.own hb, fun q hq => ?_, fun r hr => ?_, h.below.trans (hb.mono h.below.4), ?_⟩
  · rw [hk _ hl]
    exact h.cell
  · refine ⟨(h.ne q hq).1, fun r hr => ?_⟩
    rcases List.mem_cons.1 hr with rfl | hr
    · have := (h.own.lt q hq).2
      show q ≠ g
      omega
    · exact (h.ne q hq).2 r hr
  · rcases List.mem_cons.1 hr with rfl | hr
    · exact ⟨hc, by show g ≠ _; omega, by show _ ≤ g; omega⟩
    · obtain ⟨g1, g2, g3⟩ := h.bx r hr
      exact ⟨by rw [hk _ (hp_lt g1)]; exact g1, g2, g3⟩
  · have := h.len
    simp
    omega
theorem CutI.two {w0 w : World} {N : Nat} {xs : List (Nat × Nat)} {rs : List (Nat × Nat × Nat)} {v : Value} {g k a : Nat} (h : CutI w0 w N xs ((g, k, a) :: rs) v) : w.cell? ⟨g, 0, none⟩ = some (.int .i64 (k : Int)) ∧ w.cell? ⟨g, 1, none⟩ = some (.int .u64 (a : Int)) := by
  have h1 := (h.bx (g, k, a) (List.mem_cons_self ..)).1
  exact ⟨box_cell h1 rfl, box_cell h1 rfl⟩
theorem CutI.tail {w0 w : World} {N : Nat} {xs : List (Nat × Nat)} {rs : List (Nat × Nat × Nat)} {v : Value} {r : Nat × Nat × Nat} (h : CutI w0 w (N + 1) xs (r :: rs) v) : CutI w0 w N xs rs v :=
  ⟨h.cell, h.own, fun k hk => ⟨(h.ne k hk).1, fun q hq => (h.ne k hk).2 q (List.mem_cons_of_mem _ hq)⟩, fun q hq => h.bx q (List.mem_cons_of_mem _ hq), h.below, by have := h.len; simp at this; omega⟩
theorem loop_k {P : Program} {Q : Exit → Act → World → Prop} {a : Act} {w : World} {c : Code} (I : Act → World → Prop) (μ : Act → World → Nat) (h₀ : I a w)
    (round : ∀ a w, I a w → ∀ (K : Act → World → Prop), (∀ a' w', I a' w' → μ a' w' < μ a w → K a' w') → c.wp P (Exit.then K Q) a w) : (Code.loop c).wp P Q a w :=
  wp_loop I μ h₀ (fun a w h => round a w h _ (fun _ _ h1 h2 => ⟨h1, h2⟩))
/-- What the loop of cut keeps. -/
def CutL (w0 : World) (B E S : Nat) (j e L : Nat) (xs : List (Nat × Nat)) (rs : List (Nat × Nat × Nat)) (v : Value) (w : World) : Prop :=
  CutI w0 w (2 * L) xs rs v ∧ (j ≤ e ∧ L ≤ B + 1) ∧ e * 2 ^ L ≤ 2 ^ B ∧ ∀ m, Cov B (e * 2 ^ L) (j * 2 ^ L) m → Cov B E S (xs ++ m ++ rs.map (·.2))
theorem CutL.lev {w0 w : World} {B E S j e L : Nat} {xs : List (Nat × Nat)} {rs : List (Nat × Nat × Nat)} {v : Value} (h : CutL w0 B E S j e L xs rs v w) (hj : j < e) : L ≤ B := by
  rcases Nat.lt_or_ge B L with g | g
  · have h3 : 2 ^ B < 2 ^ L := Nat.pow_lt_pow_right (by omega) g
    have h4 := h.2.2.1
    have h5 : 1 * 2 ^ L ≤ e * 2 ^ L := Nat.mul_le_mul_right _ (by omega)
    omega
  · exact g
theorem half_pow {a L : Nat} (h : a % 2 = 0) : a / 2 * 2 ^ (L + 1) = a * 2 ^ L := by
  rw [Nat.pow_succ, Nat.mul_comm (2 ^ L), ← Nat.mul_assoc, Nat.div_mul_cancel (Nat.dvd_of_mod_eq_zero h)]
/-- One level up: both even. -/
theorem CutL.up {w0 w : World} {B E S j e L : Nat} {xs : List (Nat × Nat)} {rs : List (Nat × Nat × Nat)} {v : Value} (hL : L ≤ B) (h : CutI w0 w (2 * (L + 1)) xs rs v) (hj : j ≤ e) (hj2 : j % 2 = 0) (he2 : e % 2 = 0) (hb : e * 2 ^ L ≤ 2 ^ B) (hc : ∀ m, Cov B (e * 2 ^ L) (j * 2 ^ L) m → Cov B E S (xs ++ m ++ rs.map (·.2))) :
    CutL w0 B E S (j / 2) (e / 2) (L + 1) xs rs v w :=
  ⟨h, ⟨by omega, by omega⟩, by rw [half_pow he2]; exact hb, fun m hm => hc m (by rw [half_pow he2, half_pow hj2] at hm; exact hm)⟩
theorem cov_left {B E S j e L : Nat} {xs : List (Nat × Nat)} {ms : List (Nat × Nat)} (hj : j < e) (hj1 : j % 2 = 1) (hb : e * 2 ^ L ≤ 2 ^ B) (hc : ∀ m, Cov B (e * 2 ^ L) (j * 2 ^ L) m → Cov B E S (xs ++ m ++ ms)) : ∀ m, Cov B (e * 2 ^ L) ((j + 1) * 2 ^ L) m → Cov B E S ((xs ++ [(L, j)]) ++ m ++ ms) := fun m hm => by
  have h1 := hc _ (hm.left hj1 hj hb)
  rw [List.append_assoc xs, List.singleton_append]
  exact h1
theorem cov_right {B E S j e L : Nat} {xs : List (Nat × Nat)} {ms : List (Nat × Nat)} (he1 : (e + 1) % 2 = 1) (hb : (e + 1) * 2 ^ L ≤ 2 ^ B) (hc : ∀ m, Cov B ((e + 1) * 2 ^ L) (j * 2 ^ L) m → Cov B E S (xs ++ m ++ ms)) : ∀ m, Cov B (e * 2 ^ L) (j * 2 ^ L) m → Cov B E S (xs ++ m ++ (L, e) :: ms) := fun m hm => by
  have h1 := hc _ (hm.last (by omega) hb (Nat.dvd_mul_left _ _))
  rw [← List.append_assoc, List.append_assoc (xs ++ m), List.singleton_append] at h1
  exact h1
theorem okC_cnt {b lo hi : Int} (h0 : 0 ≤ hi) : okC b lo hi = (decide (lo ≤ hi) && decide (hi < cntP b 0)) := by
  unfold okC cntP
  by_cases h : 1 ≤ b ∧ b ≤ 59
  · rw [if_pos ⟨h.1, h.2, by omega, by omega⟩, show (b - 0).toNat = b.toNat by rw [Int.sub_zero], ← Bool.decide_and]
    exact decide_eq_decide.2 ⟨fun g => g.2.2, fun g => ⟨h.1, h.2, g⟩⟩
  · rw [if_neg (fun g => h ⟨g.1, g.2.1⟩), ← Bool.decide_and]
    exact decide_eq_decide.2 ⟨fun g => absurd ⟨g.1, g.2.1⟩ h, fun g => by omega⟩
end Go.Proofs.Ytiblpdjehknbcaa.Pcs
/- The document's sketch: a block of its config, its level and its grid; New, Update. Printed by wip/gen/skref.py. -/
namespace Go.Proofs.Ytiblpdjehknbcaa.Sk
open Go Go.RowKit Lw Grd Lin Con Shp
set_option linter.unusedVariables false
set_option linter.unusedSimpArgs false
end Go.Proofs.Ytiblpdjehknbcaa.Sk
/- The document's sketch: Point, Join. Printed by wip/gen/skdoc.py. -/
namespace Go.Proofs.Ytiblpdjehknbcaa.Sk
open Go Go.RowKit Lw Grd Lin Con Shp
set_option linter.unusedVariables false
set_option linter.unusedSimpArgs false
end Go.Proofs.Ytiblpdjehknbcaa.Sk
/- The document's sketch: Copy. Printed by wip/gen/skdocc.py. -/
namespace Go.Proofs.Ytiblpdjehknbcaa.Sk
open Go Go.RowKit Lw Grd Lin Con Shp
set_option linter.unusedVariables false
set_option linter.unusedSimpArgs false
theorem nums_set (R : List Row) (K : Nat) (x : Row) : nums (R.set K x) = (nums R).set K x.2.2 := by unfold nums; rw [List.map_set]
theorem take_drop_set {L Z : List (List Int)} {r : Nat} {xs : List Int} (h : L[r]? = some xs) (hl : L.length = Z.length) : (L.take r ++ Z.drop r).set r xs = L.take (r + 1) ++ Z.drop (r + 1) := by
  obtain ⟨h1, h2⟩ := List.getElem?_eq_some_iff.1 h
  apply List.ext_getElem?
  intro j
  rw [List.getElem?_set, List.getElem?_append, List.getElem?_append]
  simp only [List.length_append, List.length_take, List.length_drop]
  by_cases hj : r = j
  · subst hj
    rw [if_pos rfl, if_pos (by omega), if_pos (by omega), List.getElem?_take, if_pos (by omega), h]
  · rw [if_neg hj]
    by_cases hj2 : j < r
    · rw [if_pos (by omega), if_pos (by omega), List.getElem?_take, List.getElem?_take, if_pos hj2, if_pos (by omega)]
    · rw [if_neg (by omega), if_neg (by omega), List.getElem?_drop, List.getElem?_drop]
      congr 1
      omega
theorem own_zero {w : World} {B : Nat} {e : TypeId} {v : Value} {n : Nat} {xs : List Value} (h : w.ownsRow B e 1 v n xs) : w.ownsRow 0 e 1 v n xs := by
  refine ⟨h.1, ?_⟩
  rcases h.2 with h1 | ⟨g, cap, cur, h1, h2, h3⟩
  · exact .inl h1
  · exact .inr ⟨g, cap, cur, h1, Nat.zero_le _, h3⟩
theorem frozen_below {w w' : World} {g j : Nat} (h : Below w.heap.size w w') (hg : g < w.heap.size) : w'.frozen? ⟨g, j, none⟩ = w.frozen? ⟨g, j, none⟩ := by
  unfold World.frozen?
  rw [h.block g hg]
end Go.Proofs.Ytiblpdjehknbcaa.Sk
/- The document's level as a thing: a block of two pointers, of which one leads to an array or a sketch. Printed by wip/gen/levref.py. -/
namespace Go.Proofs.Ytiblpdjehknbcaa.Lev
open Go Go.RowKit Lw Grd Lin Con Shp Sk Exa
set_option linter.unusedVariables false
set_option linter.unusedSimpArgs false
end Go.Proofs.Ytiblpdjehknbcaa.Lev
/- The walks of gaugerref13 (the document's level): New, Copy, Update, Point, Cells, Join. Printed by wip/gen/levref.py. -/
namespace Go.Proofs.Ytiblpdjehknbcaa.Lev
open Go Go.RowKit Lw Grd Lin Con Shp Sk Exa
set_option linter.unusedVariables false
set_option linter.unusedSimpArgs false
theorem tup (t : Thing) {w w' : World} (h : t.I w) (hb : Below w.heap.size w w') : t.I w' := t.keep w w' (fun _ => False) h (Kept.of_below hb) (fun _ _ h => h)
end Go.Proofs.Ytiblpdjehknbcaa.Lev
/- The walk of gaugerref13's Load. Printed by wip/gen/levload.py. -/
namespace Go.Proofs.Ytiblpdjehknbcaa.Lev
open Go Go.RowKit Lw Grd Lin Con Shp Sk Exa
set_option linter.unusedVariables false
set_option linter.unusedSimpArgs false
end Go.Proofs.Ytiblpdjehknbcaa.Lev
/- Levels of both kinds alike: what a level has (LS), the document's level (DLV), the code's (ELV). For stages from 15 on. Printed by wip/gen/lvl.py. -/
namespace Go.Proofs.Ytiblpdjehknbcaa.Stk
open Go Go.RowKit Lw Grd Lin Con Shp Sk Exa Lev
set_option linter.unusedVariables false
set_option linter.unusedSimpArgs false
/-- What a level has: an array's numbers, or a sketch's cells. -/
inductive LS where
  | A (L : List Int)
  | S (L : List (List Int))
def LS.fl : LS → List Int
  | .A L => L
  | .S L => L.flatten
def LS.ar : LS → Bool
  | .A _ => true
  | .S _ => false
def lsZero (c : Cfg) (l : Int) : LS := if exactB c l = true then .A (List.replicate (keys c l).toNat 0) else .S (zerosL (rws c) (wds c))
def lsCode (c : Cfg) (l : Int) (st : LS) (k d : Int) : Int := match st with
  | .A L => exCode c.md L k d
  | .S L => upCode c l L k d
def lsRes (c : Cfg) (l : Int) (st : LS) (k d : Int) : LS := match st with
  | .A L => .A (exRes c.md L k d)
  | .S L => .S (upRes c l L k d)
def lsPtV (c : Cfg) (l : Int) (st : LS) (k : Int) : Int := match st with
  | .A L => Exa.ptV L k
  | .S L => ptVal c l L k
def lsPtC (c : Cfg) (l : Int) (st : LS) (k : Int) : Int := match st with
  | .A L => Exa.ptC L k
  | .S _ => ptCode c l k
/-- The code's level, as the value that an interface holds. -/
def ELV (w : World) (v : Value) (F : Nat → Prop) (c : Cfg) (l : Int) (st : LS) : Prop := exactB c l = st.ar ∧ match st with
  | .A L => ∃ p, v = .iface 81 (.pointer (some p)) ∧ EX w p F c l L
  | .S L => ∃ p, v = .iface 84 (.pointer (some p)) ∧ SK w p F c l L
theorem ELV.keep {w w' : World} {v : Value} {F H : Nat → Prop} {c : Cfg} {l : Int} {st : LS} (h : ELV w v F c l st) (hk : Kept H w w') (hf : ∀ k, F k → ¬ H k) : ELV w' v F c l st := by
  refine ⟨h.1, ?_⟩
  cases st with
  | A L =>
    obtain ⟨p, e, h2⟩ := h.2
    exact ⟨p, e, h2.keep hk hf⟩
  | S L =>
    obtain ⟨p, e, h2⟩ := h.2
    exact ⟨p, e, (skT p F c l L).keep w w' H h2 hk hf⟩
def elvT (v : Value) (F : Nat → Prop) (c : Cfg) (l : Int) (st : LS) : Thing where
  I := fun w => ELV w v F c l st
  F := F
  keep := fun w w' H h hk hf => h.keep hk hf
  lt := fun w h k hk => by
    cases st with
    | A L =>
      obtain ⟨p, e, h2⟩ := h.2
      exact h2.lt k hk
    | S L =>
      obtain ⟨p, e, h2⟩ := h.2
      exact (skT p F c l L).lt w h2 k hk
theorem ev_new (c : Cfg) (l : Int) (w : World) (h : c.Ok) (hr : IsRight c) (l0 : 0 ≤ l) (l1 : l ≤ c.bt) :
    Calls Try.prog 20 #[.agg #[.int .i64 c.bt, .int .i64 c.rw, .int .i64 c.wd, .int .i64 c.md, .int .u64 c.sd], .int .i64 l] w fun e w' => ∃ (v : Value) (F : Nat → Prop), e = .returned (.tuple #[v, .int .i64 0]) ∧ ELV w' v F c l (lsZero c l) ∧ (∀ k, F k → w.heap.size ≤ k) ∧ Below w.heap.size w w' := by
  have hb := hr.2.1
  have hb1 := hr.1
  have hk : 1 ≤ keys c l := keys_pos.2 ⟨hr, l0, l1⟩
  unfold lsZero
  cases hx : exactB c l with
  | true =>
    rw [if_pos rfl]
    exact (vnew_A c l w h (by omega) (by omega) hx).mono (fun e w' ⟨p, F, h1, h2, h3, h4⟩ => ⟨_, F, h1, ⟨hx, p, rfl, h2⟩, h3, h4⟩)
  | false =>
    rw [if_neg (by simp)]
    exact (vnew_S c l w h (by omega) (by omega) hk hx).mono (fun e w' ⟨p, F, h1, h2, h3, h4⟩ => ⟨_, F, h1, ⟨hx, p, rfl, h2⟩, h3, h4⟩)
end Go.Proofs.Ytiblpdjehknbcaa.Stk
/- A row of levels: values, the things that they point to, and what each has. For stages from 15 on. -/
namespace Go.Proofs.Ytiblpdjehknbcaa.Stk
open Go Go.RowKit Lw Grd Lin Con Shp Sk Exa Lev
set_option linter.unusedVariables false
theorem set_split {α : Type} {ts : List α} {j : Nat} {t : α} (h : ts[j]? = some t) : ts = ts.take j ++ t :: ts.drop (j + 1) := by
  obtain ⟨h1, h2⟩ := List.getElem?_eq_some_iff.1 h
  rw [← h2]
  exact (List.take_append_drop j ts).symm.trans (by rw [List.drop_eq_getElem_cons h1])
theorem set_at {α : Type} {ts : List α} {j : Nat} {t t' : α} (h : ts[j]? = some t) : ts.set j t' = ts.take j ++ t' :: ts.drop (j + 1) := by
  obtain ⟨h1, h2⟩ := List.getElem?_eq_some_iff.1 h
  exact List.set_eq_take_append_cons_drop.trans (by rw [if_pos h1])
/-- One of the things of a row is turned by a call. -/
theorem Hold.set {F0 : Nat → Prop} {w0 w w' : World} {pre ts post : List Thing} {j : Nat} {t : Thing} (h : Hold F0 w0 w (pre ++ (ts ++ post))) (hj : ts[j]? = some t) (t' : Thing) (ht : t'.I w') (hk : Kept t.F w w') (hF : ∀ k, t'.F k → t.F k ∨ w.heap.size ≤ k) : Hold F0 w0 w' (pre ++ (ts.set j t' ++ post)) := by
  have e1 : pre ++ (ts ++ post) = (pre ++ ts.take j) ++ t :: (ts.drop (j + 1) ++ post) := by
    conv => lhs; rw [set_split hj]
    simp
  have e2 : pre ++ (ts.set j t' ++ post) = (pre ++ ts.take j) ++ t' :: (ts.drop (j + 1) ++ post) := by
    rw [set_at hj]
    simp
  rw [e1] at h
  rw [e2]
  exact h.turn t' ht hk hF
theorem Have.set {w0 w w' : World} {pre ts post : List Thing} {j : Nat} {t : Thing} (h : Have w0 w (pre ++ (ts ++ post))) (hj : ts[j]? = some t) (t' : Thing) (ht : t'.I w') (hk : Kept t.F w w') (hF : ∀ k, t'.F k → t.F k ∨ w.heap.size ≤ k) : Have w0 w' (pre ++ (ts.set j t' ++ post)) := by
  have e1 : pre ++ (ts ++ post) = (pre ++ ts.take j) ++ t :: (ts.drop (j + 1) ++ post) := by
    conv => lhs; rw [set_split hj]
    simp
  have e2 : pre ++ (ts.set j t' ++ post) = (pre ++ ts.take j) ++ t' :: (ts.drop (j + 1) ++ post) := by
    rw [set_at hj]
    simp
  rw [e1] at h
  rw [e2]
  exact Have.turnX t' ht hk hF h
/-- A row of levels, each made by mk of its value, its blocks, the config, its number and what it has. -/
structure LRow (mk : Value → (Nat → Prop) → Cfg → Int → LS → Thing) (c : Cfg) (vals : List Value) (ts : List Thing) (sts : List LS) : Prop where
  lv : vals.length = sts.length
  lt : ts.length = sts.length
  each : ∀ (j : Nat) (st : LS), sts[j]? = some st → ∃ v Q, vals[j]? = some v ∧ ts[j]? = some (mk v Q c (j : Int) st)
theorem LRow.nil (mk : Value → (Nat → Prop) → Cfg → Int → LS → Thing) (c : Cfg) : LRow mk c [] [] [] := ⟨rfl, rfl, fun j st h => by simp at h⟩
theorem LRow.snoc {mk : Value → (Nat → Prop) → Cfg → Int → LS → Thing} {c : Cfg} {vals : List Value} {ts : List Thing} {sts : List LS} (h : LRow mk c vals ts sts) {n : Nat} (hn : sts.length = n) (v : Value) (Q : Nat → Prop) (st : LS) : LRow mk c (vals ++ [v]) (ts ++ [mk v Q c (n : Int) st]) (sts ++ [st]) := by
  refine ⟨by simp [h.lv], by simp [h.lt], fun j s hj => ?_⟩
  rcases Nat.lt_or_ge j n with h1 | h1
  · rw [List.getElem?_append_left (by omega)] at hj
    obtain ⟨v2, Q2, h2, h3⟩ := h.each j s hj
    exact ⟨v2, Q2, by rw [List.getElem?_append_left (by rw [h.lv]; omega)]; exact h2, by rw [List.getElem?_append_left (by rw [h.lt]; omega)]; exact h3⟩
  · rw [List.getElem?_append_right (by omega), hn] at hj
    have e : j = n := by
      rcases Nat.eq_zero_or_pos (j - n) with h2 | h2
      · omega
      · rw [List.getElem?_eq_none (by simp; omega)] at hj
        cases hj
    subst e
    rw [Nat.sub_self] at hj
    simp at hj
    subst hj
    exact ⟨v, Q, by rw [List.getElem?_append_right (by rw [h.lv]; omega), h.lv, hn]; simp, by rw [List.getElem?_append_right (by rw [h.lt]; omega), h.lt, hn]; simp⟩
theorem LRow.put {mk : Value → (Nat → Prop) → Cfg → Int → LS → Thing} {c : Cfg} {vals : List Value} {ts : List Thing} {sts : List LS} (h : LRow mk c vals ts sts) {j : Nat} {v : Value} (hv : vals[j]? = some v) (Q : Nat → Prop) (st : LS) : LRow mk c vals (ts.set j (mk v Q c (j : Int) st)) (sts.set j st) := by
  have hj := (List.getElem?_eq_some_iff.1 hv).1
  refine ⟨by simp [h.lv], by simp [h.lt], fun i s hi => ?_⟩
  rw [List.getElem?_set] at hi
  by_cases hij : j = i
  · subst hij
    rw [if_pos rfl, if_pos (by rw [← h.lv]; exact hj)] at hi
    injection hi with hi
    subst hi
    exact ⟨v, Q, hv, by rw [List.getElem?_set, if_pos rfl, if_pos (by rw [h.lt, ← h.lv]; exact hj)]⟩
  · rw [if_neg hij] at hi
    obtain ⟨v2, Q2, h2, h3⟩ := h.each i s hi
    exact ⟨v2, Q2, h2, by rw [List.getElem?_set, if_neg hij]; exact h3⟩
theorem LRow.at {mk : Value → (Nat → Prop) → Cfg → Int → LS → Thing} {c : Cfg} {vals : List Value} {ts : List Thing} {sts : List LS} (h : LRow mk c vals ts sts) {j : Nat} (hj : j < sts.length) : ∃ st v Q, sts[j]? = some st ∧ vals[j]? = some v ∧ ts[j]? = some (mk v Q c (j : Int) st) := by
  obtain ⟨v, Q, h1, h2⟩ := h.each j _ (List.getElem?_eq_getElem hj)
  exact ⟨_, v, Q, List.getElem?_eq_getElem hj, h1, h2⟩
/-- A row that grows: a slice of one's own, by its header. -/
def ownT (B : Nat) (e : TypeId) (hdr : Value) (vals : List Value) : Thing where
  I := fun w => w.ownsRow B e 1 hdr vals.length vals
  F := fun k => hdr.ownBlock = some k
  keep := fun w w' H h hk hf => hk.own h (fun q hq => hf q hq)
  lt := fun w h k hk => own_lt h hk
end Go.Proofs.Ytiblpdjehknbcaa.Stk
/- Things whose blocks hold cells: a range over a function turns its own records, which are none, and leaves them. For stages from 15 on. -/
namespace Go.Proofs.Ytiblpdjehknbcaa.Stk
open Go Go.RowKit Lw Grd Lin Con Shp Sk Exa Lev
set_option linter.unusedVariables false
/-- Each block of F holds cells. -/
def Cel (F : Nat → Prop) (w : World) : Prop := ∀ k, F k → ∃ o : Obj, w.heap[k]? = some o ∧ o.isCells = true
theorem cel_mid {w : World} {g i : Nat} {Z : List Int} (h : Ord.Mid w g i Z) : ∃ o : Obj, w.heap[g]? = some o ∧ o.isCells = true := by
  obtain ⟨vs, e, h1, h2⟩ := h
  exact ⟨_, h1, rfl⟩
theorem cel_pg {w : World} {p : Addr} {F : Nat → Prop} {m n : Nat} {L : List (List Int)} (h : PG w p F m n L) : Cel F w := by
  obtain ⟨hd, b, g, cap, rfl, hb, hm, h1, h2, h3, rfl⟩ := h
  rintro k (rfl | rfl)
  · exact ⟨_, hb, rfl⟩
  · exact cel_mid hm
theorem cel_ex {w : World} {p : Addr} {F : Nat → Prop} {c : Cfg} {l : Int} {L : List Int} (h : EX w p F c l L) : Cel F w := by
  obtain ⟨hr, hok, hl0, hl1, hlk, hn1, hn8, b, gp, G, rfl, hb, hg, hGb, rfl⟩ := h
  rintro k (rfl | hk)
  · exact ⟨_, hb, rfl⟩
  · exact cel_pg hg k hk
theorem cel_sk {w : World} {p : Addr} {F : Nat → Prop} {c : Cfg} {l : Int} {L : List (List Int)} (h : SK w p F c l L) : Cel F w := by
  obtain ⟨hr, hok, hl0, hl1, b, gp, G, rfl, hb, hg, hGb, rfl⟩ := h
  rintro k (rfl | hk)
  · exact ⟨_, hb, rfl⟩
  · exact cel_pg hg k hk
theorem cel_elv {w : World} {v : Value} {F : Nat → Prop} {c : Cfg} {l : Int} {st : LS} (h : ELV w v F c l st) : Cel F w := by
  cases st with
  | A L =>
    obtain ⟨p, e, h2⟩ := h.2
    exact cel_ex h2
  | S L =>
    obtain ⟨p, e, h2⟩ := h.2
    exact cel_sk h2
theorem cel_box {w : World} {b : Nat} {e : TypeId} {vs : Array Value} (h : (boxT b e vs).I w) : Cel (boxT b e vs).F w := by
  rintro k hk
  have hk2 : k = b := hk
  subst hk2
  exact ⟨_, h, rfl⟩
theorem cel_own {w : World} {B : Nat} {e : TypeId} {hdr : Value} {vals : List Value} (h : (ownT B e hdr vals).I w) : Cel (ownT B e hdr vals).F w := by
  rintro k hk
  have h2 : w.ownsRow B e 1 hdr vals.length vals := h
  have hk2 : hdr.ownBlock = some k := hk
  rcases h2.2 with h0 | ⟨g, cap, cur, rfl, hb, hg, h3⟩
  · rw [h0.1] at hk2
    cases hk2
  · have h4 : some g = some k := hk2
    injection h4 with h4
    subst h4
    exact ⟨_, hg, rfl⟩
/-- A block that is no cells is none of a thing's. -/
theorem Thing.turned {t : Thing} {w w' : World} {row : Option Nat} (h : t.I w) (hc : Cel t.F w) (hg : w.grownBy w' row) (hr : ∀ r, row = some r → ∃ o : Obj, w.heap[r]? = some o ∧ o.isCells = false) : t.I w' ∧ Cel t.F w' := by
  have hne : ∀ k, t.F k → ¬ row = some k := fun k hk e => by
    obtain ⟨o, h1, h2⟩ := hc k hk
    obtain ⟨o', h3, h4⟩ := hr k e
    rw [h1] at h3
    injection h3 with h3
    subst h3
    rw [h2] at h4
    cases h4
  refine ⟨t.keep w w' (fun k => row = some k) h ((Kept.refl _ w).grown hg (fun q e => .inl e)) hne, fun k hk => ?_⟩
  obtain ⟨o, h1, h2⟩ := hc k hk
  exact ⟨o, (hg.block k (t.lt w h k hk) (fun e => hne k hk e.symm)).trans h1, h2⟩
/-- Things held, each in blocks that hold cells. -/
def HoldC (F0 : Nat → Prop) (w0 w : World) (ts : List Thing) : Prop := Hold F0 w0 w ts ∧ ∀ t ∈ ts, Cel t.F w
theorem HoldC.own {β : Type} {F0 : Nat → Prop} {w0 : World} {B : Nat} (hB : w0.heap.size ≤ B) (ts : β → List Thing) : OwnFrom B (fun s W => HoldC F0 w0 W (ts s)) := by
  intro s W W' row h hg hr
  have hr2 : ∀ r, row = some r → ∃ o : Obj, W.heap[r]? = some o ∧ o.isCells = false := fun r e => (hr r e).2
  refine ⟨⟨Kept.grown h.1.1 hg (fun q e => .inr (Nat.le_trans hB (hr q e).1)), fun t ht => ⟨(Thing.turned (h.1.2.1 t ht).1 (h.2 t ht) hg hr2).1, (h.1.2.1 t ht).2⟩, h.1.2.2⟩, fun t ht => (Thing.turned (h.1.2.1 t ht).1 (h.2 t ht) hg hr2).2⟩
theorem HoldC.up {F0 : Nat → Prop} {w0 w w' : World} {ts : List Thing} (h : HoldC F0 w0 w ts) (hb : Below w.heap.size w w') : HoldC F0 w0 w' ts := by
  refine ⟨h.1.up hb, fun t ht k hk => ?_⟩
  obtain ⟨o, h1, h2⟩ := h.2 t ht k hk
  exact ⟨o, (hb.5 k (t.lt w (h.1.2.1 t ht).1 k hk)).trans h1, h2⟩
theorem HoldC.i {F0 : Nat → Prop} {w0 w : World} {ts : List Thing} (h : HoldC F0 w0 w ts) {t : Thing} (ht : t ∈ ts) : t.I w := h.1.i ht
theorem HoldC.push {F0 : Nat → Prop} {w0 w w' : World} {ts : List Thing} (h : HoldC F0 w0 w ts) (t : Thing) (hb : Below w.heap.size w w') (ht : t.I w') (hn : ∀ k, t.F k → w.heap.size ≤ k) (hc : Cel t.F w') : HoldC F0 w0 w' (t :: ts) := by
  refine ⟨h.1.push t hb ht hn, fun u hu => ?_⟩
  rcases List.mem_cons.1 hu with rfl | hu
  · exact hc
  · exact (h.up hb).2 u hu
/-- One of them is turned by a call. -/
theorem HoldC.turn {F0 : Nat → Prop} {w0 w w' : World} {fs : List Thing} {t : Thing} {ts : List Thing} (h : HoldC F0 w0 w (fs ++ t :: ts)) (t' : Thing) (ht : t'.I w') (hk : Kept t.F w w') (hF : ∀ k, t'.F k → t.F k ∨ w.heap.size ≤ k) (hc : Cel t'.F w') : HoldC F0 w0 w' (fs ++ t' :: ts) := by
  refine ⟨h.1.turn t' ht hk hF, fun u hu => ?_⟩
  have hap := Asun.append.1 h.1.2.2
  have hoth : u ∈ fs ∨ u ∈ ts → Cel u.F w' := by
    intro hu2 k h1
    have hin : u ∈ fs ++ t :: ts := by
      rcases hu2 with g | g <;> simp [g]
    obtain ⟨o, h2, h3⟩ := h.2 u hin k h1
    refine ⟨o, (hk.block k (u.lt w (h.i hin) k h1) (fun h4 => ?_)).trans h2, h3⟩
    rcases hu2 with g | g
    · exact hap.2.2 u g t (by simp) k h1 h4
    · exact hap.2.1.1 u g k h4 h1
  rcases List.mem_append.1 hu with g | g
  · exact hoth (.inl g)
  · rcases List.mem_cons.1 g with rfl | g
    · exact hc
    · exact hoth (.inr g)
theorem HoldC.set {F0 : Nat → Prop} {w0 w w' : World} {pre ts post : List Thing} {j : Nat} {t : Thing} (h : HoldC F0 w0 w (pre ++ (ts ++ post))) (hj : ts[j]? = some t) (t' : Thing) (ht : t'.I w') (hk : Kept t.F w w') (hF : ∀ k, t'.F k → t.F k ∨ w.heap.size ≤ k) (hc : Cel t'.F w') : HoldC F0 w0 w' (pre ++ (ts.set j t' ++ post)) := by
  have e1 := set_split hj
  have e2 := set_at (t' := t') hj
  rw [e2]
  rw [e1] at h
  have e3 : ∀ t : Thing, pre ++ ((ts.take j ++ t :: ts.drop (j + 1)) ++ post) = (pre ++ ts.take j) ++ t :: (ts.drop (j + 1) ++ post) := by simp
  rw [e3] at h ⊢
  exact h.turn t' ht hk hF hc
/-- What is turned is apart from what is beside it. -/
theorem HoldC.apart {F0 : Nat → Prop} {w0 w : World} {us gs ts : List Thing} (h : HoldC F0 w0 w (us ++ (gs ++ ts))) {t : Thing} (ht : t ∈ ts) {u : Thing} (hu : u ∈ gs) {k : Nat} (hk : u.F k) : ¬ t.F k :=
  ((Asun.append.1 (Asun.append.1 h.1.2.2).2.1).2.2 u hu t ht k hk)
/-- What a call that turns a thing leaves: all that is no cells. -/
theorem others_of {F : Nat → Prop} {w w' : World} (hk : Kept F w w') (hc : Cel F w) : KeepsOthers w w' :=
  ⟨hk.size, fun k o h1 h2 => by
    refine (hk.block k (size_of_heap h1) (fun h3 => ?_)).trans h1
    obtain ⟨o', h4, h5⟩ := hc k h3
    rw [h1] at h4
    injection h4 with h4
    subst h4
    rw [h2] at h5
    cases h5⟩
/-- What a round over levels keeps: the blocks that the iterator reads. -/
structure KeptG (G : Nat → Prop) (w w' : World) : Prop where
  size : w.heap.size ≤ w'.heap.size
  block : ∀ k, G k → w'.heap[k]? = w.heap[k]?
theorem KeptG.refl (G : Nat → Prop) (w : World) : KeptG G w w := ⟨Nat.le_refl _, fun _ _ => rfl⟩
theorem KeptG.trans {G : Nat → Prop} {x y z : World} (h : KeptG G x y) (k : KeptG G y z) : KeptG G x z := ⟨Nat.le_trans h.size k.size, fun i h1 => (k.block i h1).trans (h.block i h1)⟩
theorem KeptG.of_below {G : Nat → Prop} {w w' : World} (hG : ∀ k, G k → k < w.heap.size) (h : Below w.heap.size w w') : KeptG G w w' := ⟨h.4, fun k hk => h.5 k (hG k hk)⟩
theorem KeptG.of_kept {G F : Nat → Prop} {w w' : World} (hG : ∀ k, G k → k < w.heap.size) (h : Kept F w w') (hf : ∀ k, G k → ¬ F k) : KeptG G w w' := ⟨h.size, fun k hk => h.block k (hG k hk) (hf k hk)⟩
theorem KeptG.put {m : Nat} {G : Nat → Prop} (hm : ∀ k, G k → k < m) (W : World) (l : Nat) (o o' : Obj) (hl : m ≤ l) (h1 : W.heap[l]? = some o) (h2 : o.isCells = false) (h3 : o.isWalk = false) : KeptG G W (W.putObj l o') :=
  ⟨by simp, fun k hk => World.putObj_heap_other (by have := hm k hk; omega)⟩
theorem KeptG.cell {G : Nat → Prop} {w w' : World} (h : KeptG G w w') {a : Addr} {v : Value} (hc : w.cell? a = some v) (ha : G a.block) : w'.cell? a = some v := by
  rw [World.cell?_of_block (h.block a.block ha), hc]
end Go.Proofs.Ytiblpdjehknbcaa.Stk
/- What a stack has, in numbers: all levels updated, the first error of all, the levels that were fed. For stages from 15 on. -/
namespace Go.Proofs.Ytiblpdjehknbcaa.Stk
open Go Go.RowKit Lw Grd Lin Con Shp Sk Exa Lev
set_option linter.unusedVariables false
/-- The key to which a key belongs at a level. -/
def upK (k : Int) (n : Nat) : Int := k / ((2 ^ n : Nat) : Int)
/-- The first error of all levels from the n-th on. -/
def ers (c : Cfg) (k d : Int) : Nat → List LS → Int
  | _, [] => 0
  | n, st :: sts => if lsCode c n st (upK k n) d = 0 then ers c k d (n + 1) sts else lsCode c n st (upK k n) d
/-- All levels from the n-th on, updated. -/
def rss (c : Cfg) (k d : Int) : Nat → List LS → List LS
  | _, [] => []
  | n, st :: sts => lsRes c n st (upK k n) d :: rss c k d (n + 1) sts
theorem rss_len (c : Cfg) (k d : Int) : ∀ (n : Nat) (sts : List LS), (rss c k d n sts).length = sts.length
  | _, [] => rfl
  | n, st :: sts => by
    show (rss c k d (n + 1) sts).length + 1 = sts.length + 1
    rw [rss_len c k d (n + 1) sts]
theorem rss_get (c : Cfg) (k d : Int) : ∀ (n : Nat) (sts : List LS) (j : Nat) (st : LS), sts[j]? = some st → (rss c k d n sts)[j]? = some (lsRes c ((n + j : Nat) : Int) st (upK k (n + j)) d)
  | n, [], j, st, h => by simp at h
  | n, s :: sts, 0, st, h => by
    simp at h
    subst h
    rfl
  | n, s :: sts, j + 1, st, h => by
    have ih := rss_get c k d (n + 1) sts j st (by simpa using h)
    have e : n + 1 + j = n + (j + 1) := by omega
    rw [e] at ih
    simpa [rss] using ih
theorem ers_first (c : Cfg) (k d : Int) : ∀ (n : Nat) (sts : List LS) (j : Nat) (st : LS), (∀ (i : Nat) (s : LS), i < j → sts[i]? = some s → lsCode c ((n + i : Nat) : Int) s (upK k (n + i)) d = 0) → sts[j]? = some st → ¬ lsCode c ((n + j : Nat) : Int) st (upK k (n + j)) d = 0 → ers c k d n sts = lsCode c ((n + j : Nat) : Int) st (upK k (n + j)) d
  | n, [], j, st, _, h, _ => by simp at h
  | n, s :: sts, 0, st, _, h, hne => by
    simp at h
    subst h
    exact if_neg hne
  | n, s :: sts, j + 1, st, ha, h, hne => by
    have h0 : lsCode c (n : Int) s (upK k n) d = 0 := ha 0 s (by omega) rfl
    have e : n + 1 + j = n + (j + 1) := by omega
    have ih := ers_first c k d (n + 1) sts j st (fun i q hi hq => by
      have h1 := ha (i + 1) q (by omega) (by simpa using hq)
      have e2 : n + 1 + i = n + (i + 1) := by omega
      rw [e2]
      exact h1) (by simpa using h) (by rw [e]; exact hne)
    rw [e] at ih
    show (if lsCode c n s (upK k n) d = 0 then ers c k d (n + 1) sts else lsCode c n s (upK k n) d) = _
    rw [if_pos h0]
    exact ih
theorem ers_none (c : Cfg) (k d : Int) : ∀ (n : Nat) (sts : List LS), (∀ (i : Nat) (s : LS), sts[i]? = some s → lsCode c ((n + i : Nat) : Int) s (upK k (n + i)) d = 0) → ers c k d n sts = 0
  | n, [], _ => rfl
  | n, s :: sts, ha => by
    have h0 : lsCode c (n : Int) s (upK k n) d = 0 := ha 0 s rfl
    show (if lsCode c n s (upK k n) d = 0 then ers c k d (n + 1) sts else lsCode c n s (upK k n) d) = _
    rw [if_pos h0]
    refine ers_none c k d (n + 1) sts (fun i q hq => ?_)
    have h1 := ha (i + 1) q (by simpa using hq)
    have e2 : n + 1 + i = n + (i + 1) := by omega
    rw [e2]
    exact h1
theorem ers_ok (c : Cfg) (k d : Int) : ∀ (n : Nat) (sts : List LS), ers c k d n sts = 0 → ∀ (i : Nat) (s : LS), sts[i]? = some s → lsCode c ((n + i : Nat) : Int) s (upK k (n + i)) d = 0
  | n, [], _, i, s, h => by simp at h
  | n, s :: sts, he, i, q, h => by
    by_cases h0 : lsCode c n s (upK k n) d = 0
    · have he2 : ers c k d (n + 1) sts = 0 := by
        have h1 : ers c k d n (s :: sts) = ers c k d (n + 1) sts := if_pos h0
        rw [← h1]
        exact he
      cases i with
      | zero =>
        simp at h
        subst h
        exact h0
      | succ i =>
        have ih := ers_ok c k d (n + 1) sts he2 i q (by simpa using h)
        have e2 : n + 1 + i = n + (i + 1) := by omega
        rw [e2] at ih
        exact ih
    · have h1 : ers c k d n (s :: sts) = lsCode c n s (upK k n) d := if_neg h0
      rw [he] at h1
      exact absurd h1.symm h0
/-- What Update answers, and what it leaves. -/
def sucode (c : Cfg) (sts : List LS) (k d : Int) : Int := if keys c 0 ≤ k then 2 else if c.md = 2 ∧ d < 0 then 3 else ers c k d 0 sts
def sures (c : Cfg) (sts : List LS) (k d : Int) : List LS := if sucode c sts k d = 0 then rss c k d 0 sts else sts
/-- Updates as they reach a level. -/
def upN (us : Ups) (n : Nat) : Ups := us.map (fun u => (upK u.1 n, u.2))
theorem upN_app (us vs : Ups) (n : Nat) : upN (us ++ vs) n = upN us n ++ upN vs n := List.map_append
theorem upN_len (us : Ups) (n : Nat) : (upN us n).length = us.length := List.length_map _
theorem upK_keys {c : Cfg} (hr : IsRight c) {k : Int} {n : Nat} (h0 : 0 ≤ k) (hk : k < keys c 0) (hn : (n : Int) ≤ c.bt) : 0 ≤ upK k n ∧ upK k n < keys c n := by
  have hp : (0 : Int) < ((2 ^ n : Nat) : Int) := by
    have := Nat.one_le_two_pow (n := n)
    omega
  have hb := hr.1
  have e0 : keys c 0 = 2 ^ (c.bt - 0).toNat := keys_yes hr (by omega) (by omega)
  have e1 : keys c n = 2 ^ (c.bt - n).toNat := keys_yes hr (by omega) hn
  refine ⟨Int.ediv_nonneg h0 (Int.le_of_lt hp), ?_⟩
  unfold upK
  rw [Int.ediv_lt_iff_lt_mul hp, e1]
  have e2 : (2 : Int) ^ (c.bt - n).toNat * ((2 ^ n : Nat) : Int) = 2 ^ (c.bt - 0).toNat := by
    have e3 : (c.bt - 0).toNat = (c.bt - n).toNat + n := by omega
    rw [e3, Int.pow_add]
    simp
  rw [e2, ← e0]
  exact hk
theorem upN_in {c : Cfg} (hr : IsRight c) {us : Ups} (h : UpsIn c 0 us) {n : Nat} (hn : (n : Int) ≤ c.bt) : UpsIn c n (upN us n) := by
  refine ⟨fun u hu => ?_, fun hm u hu => ?_⟩
  · obtain ⟨v, hv, rfl⟩ := List.mem_map.1 hu
    have h1 := h.1 v hv
    have h2 := upK_keys hr h1.1 h1.2.1 hn
    exact ⟨h2.1, h2.2, h1.2.2⟩
  · obtain ⟨v, hv, rfl⟩ := List.mem_map.1 hu
    exact h.2 hm v hv
/-- A level that was fed. -/
def stOf (c : Cfg) (us : Ups) (n : Nat) : LS := if exactB c n = true then .A (sums (keys c n).toNat (upN us n)) else .S (cells c n (upN us n))
theorem stOf_nil (c : Cfg) (n : Nat) : stOf c [] n = lsZero c n := by
  unfold stOf lsZero upN
  split
  · rw [List.map_nil, sums_nil]
  · rw [List.map_nil, cells_nil]
/-- In the midst of sixty updates: the next one reaches the level. -/
theorem stOf_step {c : Cfg} (hr : IsRight c) {us : Ups} (h : UpsIn c 0 us) (hl : us.length ≤ 60) {u : Int × Int} (hu : UpsIn c 0 [u]) {n : Nat} (hn : (n : Int) ≤ c.bt) :
    lsCode c n (stOf c us n) (upK u.1 n) u.2 = 0 ∧ lsRes c n (stOf c us n) (upK u.1 n) u.2 = stOf c (us ++ [u]) n := by
  have h1 := upN_in hr h hn
  have h2 := upN_in hr hu hn
  have hu1 := h2.1 (upK u.1 n, u.2) (by simp [upN])
  have hl2 : (upN us n).length ≤ 60 := by rw [upN_len]; exact hl
  unfold stOf
  rw [upN_app]
  by_cases hx : exactB c n = true
  · rw [if_pos hx, if_pos hx]
    have hk : ((keys c n).toNat : Int) = keys c n := Int.toNat_of_nonneg (by omega)
    have hs := sums_step (md := c.md) (K := (keys c n).toNat) (us := upN us n) (u := (upK u.1 n, u.2)) hu1.1 (by rw [hk]; exact hu1.2.1) hl2 (fun v hv => by
      rcases List.mem_append.1 hv with h3 | h3
      · exact ⟨(h1.1 v h3).2.2.1, (h1.1 v h3).2.2.2⟩
      · rw [List.mem_singleton.1 h3]
        exact ⟨hu1.2.2.1, hu1.2.2.2⟩) (fun hm => h2.2 hm (upK u.1 n, u.2) (by simp [upN]))
    refine ⟨hs.1, ?_⟩
    show LS.A (exRes c.md _ _ _) = _
    rw [hs.2]
    rfl
  · rw [if_neg hx, if_neg hx]
    have hs := up_ok hr h1 hl2 (u := (upK u.1 n, u.2)) h2
    refine ⟨hs.1, ?_⟩
    show LS.S (upRes c n _ _ _) = _
    rw [hs.2]
    rfl
/-- All levels of a stack that was fed. -/
def stsOf (c : Cfg) (us : Ups) : List LS := (List.range (c.bt.toNat + 1)).map (stOf c us)
theorem stsOf_len (c : Cfg) (us : Ups) : (stsOf c us).length = c.bt.toNat + 1 := by unfold stsOf; simp
theorem stsOf_get {c : Cfg} {us : Ups} {n : Nat} (h : n < c.bt.toNat + 1) : (stsOf c us)[n]? = some (stOf c us n) := by
  unfold stsOf
  rw [List.getElem?_map, List.getElem?_range h]
  rfl
theorem stsOf_step {c : Cfg} (hr : IsRight c) {us : Ups} (h : UpsIn c 0 us) (hl : us.length ≤ 60) {u : Int × Int} (hu : UpsIn c 0 [u]) :
    sucode c (stsOf c us) u.1 u.2 = 0 ∧ sures c (stsOf c us) u.1 u.2 = stsOf c (us ++ [u]) := by
  have hb := hr.1
  have hu1 := hu.1 u (by simp)
  have e1 : ers c u.1 u.2 0 (stsOf c us) = 0 := by
    refine ers_none c u.1 u.2 0 _ (fun i s hi => ?_)
    have hi2 := (List.getElem?_eq_some_iff.1 hi).1
    rw [stsOf_len] at hi2
    rw [stsOf_get hi2] at hi
    injection hi with hi
    rw [Nat.zero_add, ← hi]
    exact (stOf_step hr h hl hu (by omega)).1
  have hk : ¬ keys c 0 ≤ u.1 := by omega
  have hm : ¬ (c.md = 2 ∧ u.2 < 0) := fun g => by have := hu.2 g.1 u (by simp); omega
  have e2 : sucode c (stsOf c us) u.1 u.2 = 0 := by
    unfold sucode
    rw [if_neg hk, if_neg hm]
    exact e1
  refine ⟨e2, ?_⟩
  unfold sures
  rw [if_pos e2]
  apply List.ext_getElem?
  intro j
  by_cases hj : j < c.bt.toNat + 1
  · rw [rss_get c u.1 u.2 0 _ j _ (stsOf_get hj), stsOf_get hj, Nat.zero_add]
    rw [(stOf_step hr h hl hu (by omega)).2]
  · rw [List.getElem?_eq_none (by rw [rss_len, stsOf_len]; omega), List.getElem?_eq_none (by rw [stsOf_len]; omega)]
end Go.Proofs.Ytiblpdjehknbcaa.Stk
/- Sums over the pieces of a span: what the pieces have is what the span has. For stages from 16 on. -/
namespace Go.Proofs.Ytiblpdjehknbcaa.Spn
open Go Go.RowKit Lw Grd Lin Con Shp Sk Exa Lev Stk Pcs
set_option linter.unusedVariables false
/-- What the keys from lo on, below e, have. -/
def btw (lo e : Nat) : Ups → Int
  | [] => 0
  | u :: us => (if (lo : Int) ≤ u.1 ∧ u.1 < (e : Int) then u.2 else 0) + btw lo e us
theorem btw_add {lo m e : Nat} (h1 : lo ≤ m) (h2 : m ≤ e) : ∀ us : Ups, btw lo m us + btw m e us = btw lo e us
  | [] => rfl
  | u :: us => by
    have ih := btw_add h1 h2 us
    simp only [btw]
    by_cases a1 : (lo : Int) ≤ u.1 ∧ u.1 < (m : Int)
    · rw [if_pos a1, if_neg (by omega), if_pos (by omega)]
      omega
    · rw [if_neg a1]
      by_cases a2 : (m : Int) ≤ u.1 ∧ u.1 < (e : Int)
      · rw [if_pos a2, if_pos (by omega)]
        omega
      · rw [if_neg a2, if_neg (by omega)]
        omega
theorem btw_none (lo : Nat) : ∀ us : Ups, btw lo lo us = 0
  | [] => rfl
  | u :: us => by
    simp only [btw]
    rw [if_neg (by omega), btw_none lo us]
    rfl
theorem piece_iff {lo L : Nat} (hd : 2 ^ L ∣ lo) {k : Int} (k0 : 0 ≤ k) : upK k L = ((lo / 2 ^ L : Nat) : Int) ↔ ((lo : Int) ≤ k ∧ k < ((lo + 2 ^ L : Nat) : Int)) := by
  obtain ⟨q, rfl⟩ := hd
  obtain ⟨m, rfl⟩ : ∃ m : Nat, k = m := ⟨k.toNat, by omega⟩
  have hp : 0 < 2 ^ L := Nat.two_pow_pos L
  have e1 : upK (m : Int) L = ((m / 2 ^ L : Nat) : Int) := by
    unfold upK
    exact (Int.natCast_ediv m (2 ^ L)).symm
  rw [e1, Nat.mul_div_cancel_left q hp]
  constructor
  · intro h
    have h1 : m / 2 ^ L = q := by omega
    have h2 := Nat.div_add_mod m (2 ^ L)
    have h3 := Nat.mod_lt m hp
    rw [h1] at h2
    constructor <;> omega
  · rintro ⟨h1, h2⟩
    have h3 : m / 2 ^ L = q := by
      refine Nat.div_eq_of_lt_le ?_ ?_
      · rw [Nat.mul_comm]; omega
      · rw [Nat.mul_comm, Nat.mul_succ]; omega
    rw [h3]
theorem btw_piece {lo L : Nat} (hd : 2 ^ L ∣ lo) : ∀ us : Ups, (∀ u ∈ us, 0 ≤ u.1) → hasK ((lo / 2 ^ L : Nat) : Int) (upN us L) = btw lo (lo + 2 ^ L) us
  | [], _ => rfl
  | u :: us, h => by
    have ih := btw_piece hd us (fun v hv => h v (List.mem_cons_of_mem _ hv))
    show (if upK u.1 L = ((lo / 2 ^ L : Nat) : Int) then u.2 else 0) + hasK ((lo / 2 ^ L : Nat) : Int) (upN us L) = _
    rw [ih]
    simp only [btw]
    by_cases a : upK u.1 L = ((lo / 2 ^ L : Nat) : Int)
    · rw [if_pos a, if_pos ((piece_iff hd (h u (by simp))).1 a)]
    · rw [if_neg a, if_neg (fun g => a ((piece_iff hd (h u (by simp))).2 g))]
/-- What the pieces of a span have is what the span has. -/
theorem cov_sum {B e lo : Nat} {l : List (Nat × Nat)} (h : Cov B e lo l) {us : Ups} (hu : ∀ u ∈ us, 0 ≤ u.1) : (l.map (fun p => hasK ((p.2 : Nat) : Int) (upN us p.1))).sum = btw lo e us := by
  induction h with
  | nil => exact (btw_none e us).symm
  | @cons lo L l g hc ih =>
    rw [List.map_cons, List.sum_cons, ih, btw_piece g.2.1 us hu, btw_add (Nat.le_add_right _ _) hc.le]
/-- The pieces of a span. -/
noncomputable def covL (n lo hi : Nat) : List (Nat × Nat) := by
  classical exact if h : ∃ l, Cov n (hi + 1) lo l then Classical.choose h else []
theorem covL_eq {n lo hi : Nat} {l : List (Nat × Nat)} (h : Cov n (hi + 1) lo l) : covL n lo hi = l := by
  unfold covL
  have h2 : ∃ l, Cov n (hi + 1) lo l := ⟨l, h⟩
  rw [dif_pos h2]
  exact (Classical.choose_spec h2).uniq h
theorem sum_le {α : Type} {f g : α → Int} : ∀ {l : List α}, (∀ p ∈ l, f p ≤ g p) → (l.map f).sum ≤ (l.map g).sum
  | [], _ => Int.le_refl _
  | p :: l, h => by
    have ih := sum_le (l := l) (fun q hq => h q (List.mem_cons_of_mem _ hq))
    have h1 := h p (by simp)
    simp only [List.map_cons, List.sum_cons]
    omega
theorem sum_bd {α : Type} {f : α → Int} {b : Int} : ∀ {l : List α}, (∀ p ∈ l, -b ≤ f p ∧ f p ≤ b) → -(b * l.length) ≤ (l.map f).sum ∧ (l.map f).sum ≤ b * l.length
  | [], _ => by simp
  | p :: l, h => by
    have ih := sum_bd (l := l) (fun q hq => h q (List.mem_cons_of_mem _ hq))
    have h1 := h p (by simp)
    simp only [List.map_cons, List.sum_cons, List.length_cons]
    have e : b * ((l.length + 1 : Nat) : Int) = b * (l.length : Int) + b := by
      rw [Int.natCast_add, Int.mul_add]
      simp
    omega
/-- What a span is told to have, and with what error. -/
noncomputable def parts (c : Cfg) (pt : Nat → Int → Int) (lo hi : Int) : List Int := (covL c.bt.toNat lo.toNat hi.toNat).map (fun p => pt p.1 ((p.2 : Nat) : Int))
def ptC2 (c : Cfg) (lo hi : Int) : Int := if hi < lo then 1 else if keys c 0 ≤ hi then 2 else 0
noncomputable def ptL (c : Cfg) (pt : Nat → Int → Int) (lo hi : Int) : List Int := if ptC2 c lo hi = 0 then parts c pt lo hi else []
noncomputable def rgC (c : Cfg) (pt : Nat → Int → Int) (lo hi : Int) : Int := if ptC2 c lo hi = 0 then (if Wid.fit64 (parts c pt lo hi).sum = true then 0 else 4) else ptC2 c lo hi
noncomputable def rgV (c : Cfg) (pt : Nat → Int → Int) (lo hi : Int) : Int := if rgC c pt lo hi = 0 then (parts c pt lo hi).sum else 0
end Go.Proofs.Ytiblpdjehknbcaa.Spn
/- The way to a rank's key, in numbers: what all keys below it have, and what it is told too much. For stages from 17 on. By hand. -/
namespace Go.Proofs.Ytiblpdjehknbcaa.Qnt
open Go Go.RowKit Lw Grd Lin Con Shp Sk Exa Lev Stk Pcs Spn
set_option linter.unusedVariables false
/-- The pieces with which one goes on, from the piece i of the level on; none: what is left of the rank does not fit. -/
def wayQ (pt : Nat → Int → Int) : Nat → Nat → Int → Option (List (Nat × Nat))
  | 0, i, _ => some [(0, i)]
  | L + 1, i, k =>
    if k ≤ pt L ((2 * i : Nat) : Int) then (wayQ pt L (2 * i) k).map (fun l => (L + 1, i) :: l)
    else if Wid.fit64 (k - pt L ((2 * i : Nat) : Int)) = true then (wayQ pt L (2 * i + 1) (k - pt L ((2 * i : Nat) : Int))).map (fun l => (L + 1, i) :: l)
    else none
/-- The way's last piece's index. -/
def keyQ (l : List (Nat × Nat)) : Nat := ((l.getLast?).map (fun p => p.2)).getD 0
theorem keyQ_cons (p : Nat × Nat) {l : List (Nat × Nat)} (h : l ≠ []) : keyQ (p :: l) = keyQ l := by
  unfold keyQ
  cases l with
  | nil => exact absurd rfl h
  | cons q l => simp
theorem wayQ_left {pt : Nat → Int → Int} {L i : Nat} {k : Int} (h : k ≤ pt L ((2 * i : Nat) : Int)) : wayQ pt (L + 1) i k = (wayQ pt L (2 * i) k).map (fun l => (L + 1, i) :: l) := by
  rw [wayQ, if_pos h]
theorem wayQ_right {pt : Nat → Int → Int} {L i : Nat} {k : Int} (h : ¬ k ≤ pt L ((2 * i : Nat) : Int)) (hf : Wid.fit64 (k - pt L ((2 * i : Nat) : Int)) = true) : wayQ pt (L + 1) i k = (wayQ pt L (2 * i + 1) (k - pt L ((2 * i : Nat) : Int))).map (fun l => (L + 1, i) :: l) := by
  rw [wayQ, if_neg h, if_pos hf]
theorem wayQ_none {pt : Nat → Int → Int} {L i : Nat} {k : Int} (h : ¬ k ≤ pt L ((2 * i : Nat) : Int)) (hf : Wid.fit64 (k - pt L ((2 * i : Nat) : Int)) = false) : wayQ pt (L + 1) i k = none := by
  rw [wayQ, if_neg h, if_neg (by rw [hf]; decide)]
/-- One piece more behind those that were gone through. -/
theorem way_push {pt : Nat → Int → Int} {L i j : Nat} {k m : Int} {xs : List (Nat × Nat)} {o : Option (List (Nat × Nat))} (h : o = (wayQ pt (L + 1) i k).map (fun l => xs ++ l)) (h2 : wayQ pt (L + 1) i k = (wayQ pt L j m).map (fun l => (L + 1, i) :: l)) : o = (wayQ pt L j m).map (fun l => (xs ++ [(L + 1, i)]) ++ l) := by
  rw [h, h2, Option.map_map]
  congr 1
  funext l
  simp
/-- A way from a piece down to a key, from half to half. -/
inductive Path : Nat → Nat → List (Nat × Nat) → Prop
  | key (i : Nat) : Path 0 i [(0, i)]
  | half {L i j : Nat} {l : List (Nat × Nat)} (hj : j = 2 * i ∨ j = 2 * i + 1) (h : Path L j l) : Path (L + 1) i ((L + 1, i) :: l)
theorem wayQ_path {pt : Nat → Int → Int} : ∀ {L i : Nat} {k : Int} {l : List (Nat × Nat)}, wayQ pt L i k = some l → Path L i l
  | 0, i, k, l, h => by
    injection h with h
    subst h
    exact .key i
  | L + 1, i, k, l, h => by
    by_cases h1 : k ≤ pt L ((2 * i : Nat) : Int)
    · rw [wayQ_left h1] at h
      obtain ⟨m, h2, rfl⟩ := Option.map_eq_some_iff.1 h
      exact .half (.inl rfl) (wayQ_path h2)
    · cases hf : Wid.fit64 (k - pt L ((2 * i : Nat) : Int)) with
      | true =>
        rw [wayQ_right h1 hf] at h
        obtain ⟨m, h2, rfl⟩ := Option.map_eq_some_iff.1 h
        exact .half (.inr rfl) (wayQ_path h2)
      | false =>
        rw [wayQ_none h1 hf] at h
        cases h
theorem Path.ne {L i : Nat} {l : List (Nat × Nat)} (h : Path L i l) : l ≠ [] := by
  cases h <;> simp
theorem Path.len {L i : Nat} {l : List (Nat × Nat)} (h : Path L i l) : l.length = L + 1 := by
  induction h with
  | key i => rfl
  | half hj h ih => rw [List.length_cons, ih]
theorem Path.first {L i : Nat} {l : List (Nat × Nat)} (h : Path L i l) : l[0]? = some (L, i) := by
  cases h <;> rfl
/-- The key lies in the piece. -/
theorem Path.in {L i : Nat} {l : List (Nat × Nat)} (h : Path L i l) : i * 2 ^ L ≤ keyQ l ∧ keyQ l < (i + 1) * 2 ^ L := by
  induction h with
  | key i =>
    show i * 2 ^ 0 ≤ i ∧ i < (i + 1) * 2 ^ 0
    rw [Nat.pow_zero]
    omega
  | @half L i j l hj h ih =>
    rw [keyQ_cons _ h.ne]
    have e1 : i * 2 ^ (L + 1) = (2 * i) * 2 ^ L := by rw [Nat.pow_succ, Nat.mul_comm 2 i, Nat.mul_assoc, Nat.mul_comm 2]
    have e2 : (i + 1) * 2 ^ (L + 1) = (2 * i + 1 + 1) * 2 ^ L := by
      have e3 : 2 * i + 1 + 1 = 2 * (i + 1) := by omega
      rw [e3, Nat.pow_succ, Nat.mul_comm 2 (i + 1), Nat.mul_assoc, Nat.mul_comm 2]
    have e4 : (2 * i + 1) * 2 ^ L = 2 * i * 2 ^ L + 2 ^ L := by rw [Nat.succ_mul]
    have e5 : (2 * i + 1 + 1) * 2 ^ L = 2 * i * 2 ^ L + 2 ^ L + 2 ^ L := by rw [Nat.succ_mul, Nat.succ_mul]
    have hp := Nat.two_pow_pos L
    rw [e1, e2, e5]
    rcases hj with rfl | rfl
    · rw [e4] at ih
      omega
    · rw [e4, e5] at ih
      omega
/-- Each piece of the way: its level, and of which it is a half. -/
theorem Path.at {L i : Nat} {l : List (Nat × Nat)} (h : Path L i l) : ∀ (j : Nat) (p : Nat × Nat), l[j]? = some p → p.1 + j = L ∧ i * 2 ^ j ≤ p.2 ∧ p.2 < (i + 1) * 2 ^ j := by
  induction h with
  | key i =>
    intro j p hj
    cases j with
    | zero =>
      simp at hj
      subst hj
      simp
    | succ j => simp at hj
  | @half L i j0 l hj h ih =>
    intro j p hjp
    cases j with
    | zero =>
      simp at hjp
      subst hjp
      simp
    | succ j =>
      have h2 := ih j p (by simpa using hjp)
      have hp := Nat.two_pow_pos j
      have e1 : i * 2 ^ (j + 1) = (2 * i) * 2 ^ j := by rw [Nat.pow_succ, Nat.mul_comm 2 i, Nat.mul_assoc, Nat.mul_comm 2]
      have e2 : (i + 1) * 2 ^ (j + 1) = (2 * i + 1 + 1) * 2 ^ j := by
        have e3 : 2 * i + 1 + 1 = 2 * (i + 1) := by omega
        rw [e3, Nat.pow_succ, Nat.mul_comm 2 (i + 1), Nat.mul_assoc, Nat.mul_comm 2]
      have e4 : (2 * i + 1) * 2 ^ j = 2 * i * 2 ^ j + 2 ^ j := by rw [Nat.succ_mul]
      have e5 : (2 * i + 1 + 1) * 2 ^ j = 2 * i * 2 ^ j + 2 ^ j + 2 ^ j := by rw [Nat.succ_mul, Nat.succ_mul]
      rw [e1, e2, e5]
      obtain ⟨g1, g2, g3⟩ := h2
      rcases hj with rfl | rfl
      · rw [e4] at g3
        omega
      · rw [e4] at g2
        rw [e5] at g3
        omega
theorem Path.next {L i : Nat} {l : List (Nat × Nat)} (h : Path L i l) : ∀ (j : Nat) (p q : Nat × Nat), l[j]? = some p → l[j + 1]? = some q → q.1 + 1 = p.1 ∧ (q.2 = 2 * p.2 ∨ q.2 = 2 * p.2 + 1) := by
  induction h with
  | key i =>
    intro j p q _ hq
    simp at hq
  | @half L i j0 l hj h ih =>
    intro j p q hp hq
    cases j with
    | zero =>
      simp at hp hq
      subst hp
      rw [h.first] at hq
      injection hq with hq
      subst hq
      exact ⟨rfl, hj⟩
    | succ j => exact ih j p q (by simpa using hp) (by simpa using hq)
theorem Path.last {L i : Nat} {l : List (Nat × Nat)} (h : Path L i l) : l[L]? = some (0, keyQ l) := by
  induction h with
  | key i => rfl
  | @half L i j l hj h ih =>
    rw [keyQ_cons _ h.ne]
    simpa using ih
/-- What keys below the piece have. -/
theorem has_piece {us : Ups} (hu : ∀ u ∈ us, 0 ≤ u.1) (L i : Nat) : hasK ((i : Nat) : Int) (upN us L) = btw (i * 2 ^ L) (i * 2 ^ L + 2 ^ L) us := by
  have h := btw_piece (lo := i * 2 ^ L) (L := L) ⟨i, Nat.mul_comm _ _⟩ us hu
  rw [Nat.mul_div_cancel _ (Nat.two_pow_pos L)] at h
  exact h
theorem below_half {us : Ups} (L i : Nat) : btw 0 ((2 * i) * 2 ^ L) us = btw 0 (i * 2 ^ (L + 1)) us := by
  have e1 : i * 2 ^ (L + 1) = (2 * i) * 2 ^ L := by rw [Nat.pow_succ, Nat.mul_comm 2 i, Nat.mul_assoc, Nat.mul_comm 2]
  rw [e1]
theorem below_right {us : Ups} (hu : ∀ u ∈ us, 0 ≤ u.1) (L i : Nat) : btw 0 ((i + 1) * 2 ^ L) us = btw 0 (i * 2 ^ L) us + hasK ((i : Nat) : Int) (upN us L) := by
  rw [has_piece hu, btw_add (Nat.zero_le _) (Nat.le_add_right _ _), Nat.succ_mul]
theorem has_halves {us : Ups} (hu : ∀ u ∈ us, 0 ≤ u.1) (L i : Nat) : hasK ((i : Nat) : Int) (upN us (L + 1)) = hasK ((2 * i : Nat) : Int) (upN us L) + hasK ((2 * i + 1 : Nat) : Int) (upN us L) := by
  have h1 := below_right hu (L + 1) i
  have h2 := below_right hu L (2 * i)
  have h3 := below_right hu L (2 * i + 1)
  have e1 : (2 * i + 1 + 1) * 2 ^ L = (i + 1) * 2 ^ (L + 1) := by
    have e3 : 2 * i + 1 + 1 = 2 * (i + 1) := by omega
    rw [e3, Nat.pow_succ, Nat.mul_comm 2 (i + 1), Nat.mul_assoc, Nat.mul_comm 2]
  rw [e1] at h3
  rw [below_half] at h2
  omega
/-- How much too much is told of a piece's first half. -/
def ovQ (pt : Nat → Int → Int) (us : Ups) (p : Nat × Nat) : Int := if p.1 = 0 then 0 else pt (p.1 - 1) ((2 * p.2 : Nat) : Int) - hasK ((2 * p.2 : Nat) : Int) (upN us (p.1 - 1))
/-- All below the key have less than the rank, and it is not more than what all up to it have, and how much too much is told on the way. -/
theorem way_bounds {pt : Nat → Int → Int} {us : Ups} (hu : ∀ u ∈ us, 0 ≤ u.1) {B : Nat} (ho : ∀ (L i : Nat), L ≤ B → i < 2 ^ (B - L) → hasK ((i : Nat) : Int) (upN us L) ≤ pt L ((i : Nat) : Int)) :
    ∀ {L i : Nat} {k O : Int} {l : List (Nat × Nat)}, L ≤ B → i < 2 ^ (B - L) → wayQ pt L i k = some l → 1 ≤ k → 0 ≤ O → k ≤ hasK ((i : Nat) : Int) (upN us L) + O →
      btw 0 (keyQ l) us < k + btw 0 (i * 2 ^ L) us ∧ k + btw 0 (i * 2 ^ L) us ≤ btw 0 (keyQ l + 1) us + O + (l.map (ovQ pt us)).sum
  | 0, i, k, O, l, hL, hi, h, k1, hO, hk => by
    injection h with h
    subst h
    have e1 : keyQ [(0, i)] = i := rfl
    have e2 := below_right hu 0 i
    rw [Nat.pow_zero, Nat.mul_one, Nat.mul_one] at e2
    rw [e1, Nat.pow_zero, Nat.mul_one, e2]
    have e3 : ([(0, i)].map (ovQ pt us)).sum = 0 := by simp [ovQ]
    rw [e3]
    omega
  | L + 1, i, k, O, l, hL, hi, h, k1, hO, hk => by
    have hpw : 2 ^ (B - L) = 2 * 2 ^ (B - (L + 1)) := by
      have e : B - L = B - (L + 1) + 1 := by omega
      rw [e, Nat.pow_succ, Nat.mul_comm]
    have hov := ho L (2 * i) (by omega) (by omega)
    have e1 := has_halves hu L i
    have e2 := below_half (us := us) L i
    have e3 := below_right hu L (2 * i)
    have eo : ovQ pt us (L + 1, i) = pt L ((2 * i : Nat) : Int) - hasK ((2 * i : Nat) : Int) (upN us L) := by
      unfold ovQ
      rw [if_neg (by simp)]
      rfl
    by_cases h1 : k ≤ pt L ((2 * i : Nat) : Int)
    · rw [wayQ_left h1] at h
      obtain ⟨m, h2, rfl⟩ := Option.map_eq_some_iff.1 h
      have ih := way_bounds hu ho (O := pt L ((2 * i : Nat) : Int) - hasK ((2 * i : Nat) : Int) (upN us L)) (by omega) (by omega) h2 k1 (by omega) (by omega)
      rw [keyQ_cons _ (wayQ_path h2).ne, List.map_cons, List.sum_cons, eo]
      omega
    · cases hf : Wid.fit64 (k - pt L ((2 * i : Nat) : Int)) with
      | true =>
        rw [wayQ_right h1 hf] at h
        obtain ⟨m, h2, rfl⟩ := Option.map_eq_some_iff.1 h
        have ih := way_bounds hu ho (O := O) (by omega) (by omega) h2 (by omega) hO (by omega)
        rw [keyQ_cons _ (wayQ_path h2).ne, List.map_cons, List.sum_cons, eo]
        omega
      | false =>
        rw [wayQ_none h1 hf] at h
        cases h
theorem way_over {pt : Nat → Int → Int} {us : Ups} {B : Nat} (ho : ∀ (L i : Nat), L ≤ B → i < 2 ^ (B - L) → hasK ((i : Nat) : Int) (upN us L) ≤ pt L ((i : Nat) : Int)) {l : List (Nat × Nat)} (hl : Path B 0 l) : 0 ≤ (l.map (ovQ pt us)).sum := by
  have h2 : ∀ p ∈ l, (fun _ => (0 : Int)) p ≤ ovQ pt us p := by
    intro p hp
    obtain ⟨j, hj⟩ := List.getElem?_of_mem hp
    obtain ⟨g1, g2, g3⟩ := hl.at j p hj
    show 0 ≤ ovQ pt us p
    unfold ovQ
    by_cases h0 : p.1 = 0
    · rw [if_pos h0]
      exact Int.le_refl _
    · rw [if_neg h0]
      have e : B - (p.1 - 1) = j + 1 := by omega
      have h3 := ho (p.1 - 1) (2 * p.2) (by omega) (by rw [e, Nat.pow_succ]; omega)
      omega
  have h3 := sum_le h2
  have h4 : (l.map (fun _ => (0 : Int))).sum = 0 := by
    clear h2 h3 hl
    induction l with
    | nil => rfl
    | cons p l ih => rw [List.map_cons, List.sum_cons, ih]; rfl
  omega
/-- The rank always fits, where no more than M is told of any piece. -/
theorem way_fits {pt : Nat → Int → Int} {B : Nat} {M : Int} (hM : 0 ≤ M) (hp : ∀ (L i : Nat), L ≤ B → i < 2 ^ (B - L) → -M ≤ pt L ((i : Nat) : Int)) : ∀ {L i : Nat} {k : Int}, L ≤ B → i < 2 ^ (B - L) → 1 ≤ k → k + M * L ≤ 4611686018427387904 → ∃ l, wayQ pt L i k = some l
  | 0, i, k, _, _, _, _ => ⟨_, rfl⟩
  | L + 1, i, k, hL, hi, k1, hk => by
    have hpw : 2 ^ (B - L) = 2 * 2 ^ (B - (L + 1)) := by
      have e : B - L = B - (L + 1) + 1 := by omega
      rw [e, Nat.pow_succ, Nat.mul_comm]
    have e : M * ((L + 1 : Nat) : Int) = M * (L : Int) + M := by rw [Int.natCast_add, Int.mul_add]; simp
    have hML : 0 ≤ M * (L : Int) := Int.mul_nonneg hM (by omega)
    have h2 := hp L (2 * i) (by omega) (by omega)
    rw [e] at hk
    by_cases h1 : k ≤ pt L ((2 * i : Nat) : Int)
    · obtain ⟨l, hl⟩ := way_fits hM hp (L := L) (i := 2 * i) (k := k) (by omega) (by omega) k1 (by omega)
      exact ⟨_, by rw [wayQ_left h1, hl]; rfl⟩
    · have hf : Wid.fit64 (k - pt L ((2 * i : Nat) : Int)) = true := decide_eq_true (by omega)
      obtain ⟨l, hl⟩ := way_fits hM hp (L := L) (i := 2 * i + 1) (k := k - pt L ((2 * i : Nat) : Int)) (by omega) (by omega) (by omega) (by omega)
      exact ⟨_, by rw [wayQ_right h1 hf, hl]; rfl⟩
/-- A greater rank never leads to a lesser key. -/
theorem way_rises {pt : Nat → Int → Int} : ∀ {L i : Nat} {k m : Int} {l1 l2 : List (Nat × Nat)}, wayQ pt L i k = some l1 → wayQ pt L i m = some l2 → k ≤ m → keyQ l1 ≤ keyQ l2
  | 0, i, k, m, l1, l2, h1, h2, _ => by
    injection h1 with h1
    injection h2 with h2
    subst h1
    subst h2
    exact Nat.le_refl _
  | L + 1, i, k, m, l1, l2, h1, h2, hkm => by
    by_cases a1 : k ≤ pt L ((2 * i : Nat) : Int)
    · rw [wayQ_left a1] at h1
      obtain ⟨x1, g1, rfl⟩ := Option.map_eq_some_iff.1 h1
      rw [keyQ_cons _ (wayQ_path g1).ne]
      by_cases a2 : m ≤ pt L ((2 * i : Nat) : Int)
      · rw [wayQ_left a2] at h2
        obtain ⟨x2, g2, rfl⟩ := Option.map_eq_some_iff.1 h2
        rw [keyQ_cons _ (wayQ_path g2).ne]
        exact way_rises g1 g2 hkm
      · cases hf : Wid.fit64 (m - pt L ((2 * i : Nat) : Int)) with
        | true =>
          rw [wayQ_right a2 hf] at h2
          obtain ⟨x2, g2, rfl⟩ := Option.map_eq_some_iff.1 h2
          rw [keyQ_cons _ (wayQ_path g2).ne]
          have b1 := (wayQ_path g1).in
          have b2 := (wayQ_path g2).in
          omega
        | false =>
          rw [wayQ_none a2 hf] at h2
          cases h2
    · have a2 : ¬ m ≤ pt L ((2 * i : Nat) : Int) := by omega
      cases hf : Wid.fit64 (k - pt L ((2 * i : Nat) : Int)) with
      | true =>
        rw [wayQ_right a1 hf] at h1
        obtain ⟨x1, g1, rfl⟩ := Option.map_eq_some_iff.1 h1
        cases hf2 : Wid.fit64 (m - pt L ((2 * i : Nat) : Int)) with
        | true =>
          rw [wayQ_right a2 hf2] at h2
          obtain ⟨x2, g2, rfl⟩ := Option.map_eq_some_iff.1 h2
          rw [keyQ_cons _ (wayQ_path g1).ne, keyQ_cons _ (wayQ_path g2).ne]
          exact way_rises g1 g2 (by omega)
        | false =>
          rw [wayQ_none a2 hf2] at h2
          cases h2
      | false =>
        rw [wayQ_none a1 hf] at h1
        cases h1
/-- Where just what is there is told, the key is the first one up to which all have the rank. -/
theorem btw_rises {us : Ups} (hn : ∀ (i : Nat), 0 ≤ hasK ((i : Nat) : Int) us) (hu : ∀ u ∈ us, 0 ≤ u.1) {a : Nat} : ∀ {b : Nat}, a ≤ b → btw 0 a us ≤ btw 0 b us
  | 0, h => by
    obtain rfl : a = 0 := by omega
    exact Int.le_refl _
  | b + 1, h => by
    by_cases e : a = b + 1
    · subst e
      exact Int.le_refl _
    · have ih := btw_rises hn hu (a := a) (b := b) (by omega)
      have h2 := below_right hu 0 b
      rw [Nat.pow_zero, Nat.mul_one, Nat.mul_one] at h2
      have h3 := hn b
      have h4 : upN us 0 = us := by
        unfold upN
        have : (fun u : Int × Int => (upK u.1 0, u.2)) = id := by
          funext u
          simp [upK]
        rw [this, List.map_id]
      rw [h4] at h2
      omega
/-- What Way and Quantile answer. -/
def qnC (c : Cfg) (pt : Nat → Int → Int) (k : Int) : Int := if k < 1 ∨ pt c.bt.toNat 0 < k then 6 else if (wayQ pt c.bt.toNat 0 k).isSome = true then 0 else 4
def qnL (c : Cfg) (pt : Nat → Int → Int) (k : Int) : List (Nat × Nat) := if qnC c pt k = 0 then (wayQ pt c.bt.toNat 0 k).getD [] else []
def qnV (c : Cfg) (pt : Nat → Int → Int) (k : Int) : Int := ((keyQ (qnL c pt k) : Nat) : Int)
theorem qn_yes {c : Cfg} {pt : Nat → Int → Int} {k : Int} {l : List (Nat × Nat)} (h1 : 1 ≤ k) (h2 : k ≤ pt c.bt.toNat 0) (h : wayQ pt c.bt.toNat 0 k = some l) : qnC c pt k = 0 ∧ qnL c pt k = l ∧ qnV c pt k = ((keyQ l : Nat) : Int) := by
  have e1 : qnC c pt k = 0 := by unfold qnC; rw [if_neg (by omega), h]; rfl
  have e2 : qnL c pt k = l := by unfold qnL; rw [if_pos e1, h]; rfl
  exact ⟨e1, e2, by unfold qnV; rw [e2]⟩
theorem qn_over {c : Cfg} {pt : Nat → Int → Int} {k : Int} (h1 : 1 ≤ k) (h2 : k ≤ pt c.bt.toNat 0) (h : wayQ pt c.bt.toNat 0 k = none) : qnC c pt k = 4 ∧ qnL c pt k = [] ∧ qnV c pt k = 0 := by
  have e1 : qnC c pt k = 4 := by unfold qnC; rw [if_neg (by omega), h]; rfl
  have e2 : qnL c pt k = [] := by unfold qnL; rw [if_neg (by omega)]
  exact ⟨e1, e2, by unfold qnV; rw [e2]; rfl⟩
theorem qn_rank {c : Cfg} {pt : Nat → Int → Int} {k : Int} (h : k < 1 ∨ pt c.bt.toNat 0 < k) : qnC c pt k = 6 ∧ qnL c pt k = [] ∧ qnV c pt k = 0 := by
  have e1 : qnC c pt k = 6 := by unfold qnC; rw [if_pos h]
  have e2 : qnL c pt k = [] := by unfold qnL; rw [if_neg (by omega)]
  exact ⟨e1, e2, by unfold qnV; rw [e2]; rfl⟩
end Go.Proofs.Ytiblpdjehknbcaa.Qnt
/- An array of sixty pieces, of which the first are laid. By hand. -/
namespace Go.Proofs.Ytiblpdjehknbcaa.Qnt
open Go Go.RowKit Lw
set_option linter.unusedVariables false
/-- The j-th cell of the array whose first pieces are these. -/
def celP (ps : List (Nat × Nat)) (j : Nat) : Value := if j % 2 = 0 then .int .i64 ((((ps[j / 2]?).map (fun p => p.1)).getD 0 : Nat) : Int) else .int .u64 ((((ps[j / 2]?).map (fun p => p.2)).getD 0 : Nat) : Int)
def arrP (ps : List (Nat × Nat)) : Array Value := ((List.range 120).map (celP ps)).toArray
theorem arrP_size (ps : List (Nat × Nat)) : (arrP ps).size = 120 := by unfold arrP; simp
theorem arrP_get {ps : List (Nat × Nat)} {j : Nat} (h : j < 120) : (arrP ps)[j]? = some (celP ps j) := by
  unfold arrP
  rw [List.getElem?_toArray, List.getElem?_map, List.getElem?_range h]
  rfl
theorem celP_lev {ps : List (Nat × Nat)} {j : Nat} {p : Nat × Nat} (h : ps[j]? = some p) : celP ps (j * 2) = .int .i64 (p.1 : Int) := by
  unfold celP
  rw [if_pos (by omega), Nat.mul_div_cancel _ (by omega), h]
  rfl
theorem celP_ix {ps : List (Nat × Nat)} {j : Nat} {p : Nat × Nat} (h : ps[j]? = some p) : celP ps (j * 2 + 1) = .int .u64 (p.2 : Int) := by
  have e : (j * 2 + 1) / 2 = j := by omega
  unfold celP
  rw [if_neg (by omega), e, h]
  rfl
theorem celP_one (ps : List (Nat × Nat)) (j : Nat) : (celP ps j).oneCell' = true := by
  unfold celP
  split <;> rfl
theorem arrP_one (ps : List (Nat × Nat)) : (arrP ps).all (·.oneCell') = true := by
  rw [Array.all_eq_true_iff_forall_mem]
  intro v hv
  unfold arrP at hv
  simp only [List.mem_toArray, List.mem_map] at hv
  obtain ⟨j, -, rfl⟩ := hv
  exact celP_one ps j
/-- One piece more. -/
theorem arrP_set {ps : List (Nat × Nat)} {j L i : Nat} (hl : ps.length = j) (hj : j < 60) : ((arrP ps).setIfInBounds (j * 2) (.int .i64 (L : Int))).setIfInBounds (j * 2 + 1) (.int .u64 (i : Int)) = arrP (ps ++ [(L, i)]) := by
  apply Array.ext_getElem?
  intro m
  rw [Array.getElem?_setIfInBounds, Array.getElem?_setIfInBounds]
  have hat : (ps ++ [(L, i)])[j]? = some (L, i) := by
    subst hl
    rw [List.getElem?_append_right (Nat.le_refl _)]
    simp
  by_cases hm : m < 120
  · rw [arrP_get hm, arrP_get hm]
    by_cases h1 : j * 2 + 1 = m
    · subst h1
      rw [if_pos rfl, if_pos (by rw [Array.size_setIfInBounds, arrP_size]; exact hm), celP_ix hat]
    · rw [if_neg h1]
      by_cases h2 : j * 2 = m
      · subst h2
        rw [if_pos rfl, if_pos (by rw [arrP_size]; exact hm), celP_lev hat]
      · rw [if_neg h2]
        congr 1
        unfold celP
        have h3 : m / 2 ≠ j := by omega
        have h4 : (ps ++ [(L, i)])[m / 2]? = ps[m / 2]? := by
          by_cases h5 : m / 2 < ps.length
          · rw [List.getElem?_append_left h5]
          · rw [List.getElem?_eq_none (by rw [List.length_append, List.length_singleton]; omega), List.getElem?_eq_none (by omega)]
        rw [h4]
  · have h1 : ¬ j * 2 + 1 = m := by omega
    have h2 : ¬ j * 2 = m := by omega
    rw [if_neg h1, if_neg h2, Array.getElem?_eq_none (by rw [arrP_size]; omega), Array.getElem?_eq_none (by rw [arrP_size]; omega)]
theorem celP_nil (j : Nat) : celP [] j = if j % 2 = 0 then .int .i64 0 else .int .u64 0 := by
  unfold celP
  split <;> rfl
theorem celP_nil_ix (j : Nat) : celP [] (j * 2 + 1) = .int .u64 0 := by
  rw [celP_nil, if_neg (by omega)]
/-- The pieces' cells, in order. -/
theorem flat_arr {ps : List (Nat × Nat)} (h : ps.length ≤ 60) : ∀ (j : Nat) (v : Value), (Pcs.flatP (Pcs.ints ps))[j]? = some v → (arrP ps)[j]? = some v := by
  intro j v hv
  have hlen : (Pcs.flatP (Pcs.ints ps)).length = 2 * ps.length := by rw [Pcs.flatP_len, Pcs.ints_len]
  have hj : j < 2 * ps.length := by
    have := (List.getElem?_eq_some_iff.1 hv).1
    omega
  rw [arrP_get (by omega)]
  obtain ⟨p, hp⟩ : ∃ p, ps[j / 2]? = some p := ⟨_, List.getElem?_eq_getElem (by omega)⟩
  have h2 := Pcs.flatP_get (Pcs.ints_get hp)
  by_cases hm : j % 2 = 0
  · have e : j = j / 2 * 2 := by omega
    rw [e] at hv ⊢
    rw [h2.1] at hv
    rw [celP_lev hp]
    exact hv
  · have e : j = j / 2 * 2 + 1 := by omega
    rw [e] at hv ⊢
    rw [h2.2] at hv
    rw [celP_ix hp]
    exact hv
theorem way_size : (Try.prog.info? 57).map (·.size) = some 120 := by kernel_rfl
theorem way_und : Try.prog.underlying 57 = some (.array 60 41) := by kernel_rfl
theorem way_zero : Try.zeroCells57 = arrP [] := by kernel_rfl
end Go.Proofs.Ytiblpdjehknbcaa.Qnt
/- add of layer 16's laws; the low bits of a number. Printed by wip/gen/spn8.py. -/
namespace Go.Proofs.Ytiblpdjehknbcaa.Spn
open Go Go.RowKit Lw Grd Lin Con Shp Sk Exa Lev Stk Pcs
set_option linter.unusedVariables false
set_option linter.unusedSimpArgs false
theorem and_low (a : Int) (m : Nat) (hm : m < 4611686018427387904) : ∃ v : Nat, v ≤ m ∧ bits .and .i64 a (m : Int) = (v : Int) := by
  refine ⟨(BitVec.ofInt 64 a &&& BitVec.ofInt 64 (m : Int)).toNat, ?_, ?_⟩
  · rw [BitVec.toNat_and]
    have h : (BitVec.ofInt 64 (m : Int)).toNat = m := by
      rw [BitVec.toNat_ofInt]
      omega
    rw [h]
    exact Nat.and_le_right
  · rw [and_i64, BitVec.toInt_eq_toNat_cond]
    have h : (BitVec.ofInt 64 a &&& BitVec.ofInt 64 (m : Int)).toNat ≤ m := by
      rw [BitVec.toNat_and]
      have h : (BitVec.ofInt 64 (m : Int)).toNat = m := by
        rw [BitVec.toNat_ofInt]
        omega
      rw [h]
      exact Nat.and_le_right
    rw [if_pos (by omega)]
theorem wrap3 (x : Int) (h0 : -18446744073709551616 ≤ x) (h1 : x ≤ 18446744073709551614) : (Wid.fit64 x = true ∧ wrap64 x = x) ∨ (Wid.fit64 x = false ∧ 9223372036854775808 ≤ x ∧ wrap64 x = x - 18446744073709551616) ∨ (Wid.fit64 x = false ∧ x < -9223372036854775808 ∧ wrap64 x = x + 18446744073709551616) := by
  by_cases h : -9223372036854775808 ≤ x ∧ x < 9223372036854775808
  · exact .inl ⟨decide_eq_true h, IntWalk.wrap64_in _ ⟨by omega, by omega⟩⟩
  · have hf : Wid.fit64 x = false := decide_eq_false h
    by_cases h2 : 9223372036854775808 ≤ x
    · refine .inr (.inl ⟨hf, h2, ?_⟩)
      unfold wrap64
      omega
    · refine .inr (.inr ⟨hf, by omega, ?_⟩)
      unfold wrap64
      omega
end Go.Proofs.Ytiblpdjehknbcaa.Spn
