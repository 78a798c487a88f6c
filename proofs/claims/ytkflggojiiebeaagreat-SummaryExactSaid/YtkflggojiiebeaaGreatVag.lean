/- Texts that statements lean on, put together: QntArr, SmrDef, SmrTopM, SmrSort, StkCut, StkDst, SpnBtw, StkThing, SpnIn, StkIt, StkFst, StkPt, SpnNum, SmrCuts, StkUpd, StkApp. -/
import Derived.Test.YtkflggojiiebeaaGreatVaf
import Derived.Deep.WholeRow
import Derived.Shelf.SlSortCmp.NoneTotal
import Derived.Shelf.RegionOpen
import Derived.OwnWalkIn
import Derived.LoopNIn
import Derived.LoopIn
namespace Go.Proofs.YtkflggojiiebeaaGreat.Qnt
open Go Go.RowKit Lw
set_option linter.unusedVariables false
/-- The j-th cell of the array whose first pieces are these. -/
def celP (ps : List (Nat × Nat)) (j : Nat) : Value := if j % 2 = 0 then .int .i64 ((((ps[j / 2]?).map (fun p => p.1)).getD 0 : Nat) : Int) else .int .u64 ((((ps[j / 2]?).map (fun p => p.2)).getD 0 : Nat) : Int)
def arrP (ps : List (Nat × Nat)) : Array Value := ((List.range 120).map (celP ps)).toArray
theorem arrP_size (ps : List (Nat × Nat)) : (arrP ps).size = 120 := by unfold arrP; simp
theorem arrP_get {ps : List (Nat × Nat)} {j : Nat} (h : j < 120) : (arrP ps)[j]? = some (celP ps j) := by
  unfold arrP
  rw [List.getElem?_toArray, List.getElem?_map, List.getElem?_range h]
  rfl
theorem celP_lev {ps : List (Nat × Nat)} {j : Nat} {p : Nat × Nat} (h : ps[j]? = some p) : celP ps (j * 2) = .int .i64 (p.1 : Int) := by
  unfold celP
  rw [if_pos (by omega), Nat.mul_div_cancel _ (by omega), h]
  rfl
theorem celP_ix {ps : List (Nat × Nat)} {j : Nat} {p : Nat × Nat} (h : ps[j]? = some p) : celP ps (j * 2 + 1) = .int .u64 (p.2 : Int) := by
  have e : (j * 2 + 1) / 2 = j := by omega
  unfold celP
  rw [if_neg (by omega), e, h]
  rfl
theorem celP_one (ps : List (Nat × Nat)) (j : Nat) : (celP ps j).oneCell' = true := by
  unfold celP
  split <;> rfl
theorem arrP_one (ps : List (Nat × Nat)) : (arrP ps).all (·.oneCell') = true := by
  rw [Array.all_eq_true_iff_forall_mem]
  intro v hv
  unfold arrP at hv
  simp only [List.mem_toArray, List.mem_map] at hv
  obtain ⟨j, -, rfl⟩ := hv
  exact celP_one ps j
/-- One piece more. -/
theorem arrP_set {ps : List (Nat × Nat)} {j L i : Nat} (hl : ps.length = j) (hj : j < 60) : ((arrP ps).setIfInBounds (j * 2) (.int .i64 (L : Int))).setIfInBounds (j * 2 + 1) (.int .u64 (i : Int)) = arrP (ps ++ [(L, i)]) := by
  apply Array.ext_getElem?
  intro m
  rw [Array.getElem?_setIfInBounds, Array.getElem?_setIfInBounds]
  have hat : (ps ++ [(L, i)])[j]? = some (L, i) := by
    subst hl
    rw [List.getElem?_append_right (Nat.le_refl _)]
    simp
  by_cases hm : m < 120
  · rw [arrP_get hm, arrP_get hm]
    by_cases h1 : j * 2 + 1 = m
    · subst h1
      rw [if_pos rfl, if_pos (by rw [Array.size_setIfInBounds, arrP_size]; exact hm), celP_ix hat]
    · rw [if_neg h1]
      by_cases h2 : j * 2 = m
      · subst h2
        rw [if_pos rfl, if_pos (by rw [arrP_size]; exact hm), celP_lev hat]
      · rw [if_neg h2]
        congr 1
        unfold celP
        have h3 : m / 2 ≠ j := by omega
        have h4 : (ps ++ [(L, i)])[m / 2]? = ps[m / 2]? := by
          by_cases h5 : m / 2 < ps.length
          · rw [List.getElem?_append_left h5]
          · rw [List.getElem?_eq_none (by rw [List.length_append, List.length_singleton]; omega), List.getElem?_eq_none (by omega)]
        rw [h4]
  · have h1 : ¬ j * 2 + 1 = m := by omega
    have h2 : ¬ j * 2 = m := by omega
    rw [if_neg h1, if_neg h2, Array.getElem?_eq_none (by rw [arrP_size]; omega), Array.getElem?_eq_none (by rw [arrP_size]; omega)]
theorem celP_nil (j : Nat) : celP [] j = if j % 2 = 0 then .int .i64 0 else .int .u64 0 := by
  unfold celP
  split <;> rfl
theorem celP_nil_ix (j : Nat) : celP [] (j * 2 + 1) = .int .u64 0 := by
  rw [celP_nil, if_neg (by omega)]
theorem way_size : (Tryz.prog.info? 164).map (·.size) = some 120 := by kernel_rfl
theorem way_und : Tryz.prog.underlying 164 = some (.array 60 82) := by kernel_rfl
theorem way_zero : Tryz.zeroCells164 = arrP [] := by kernel_rfl
end Go.Proofs.YtkflggojiiebeaaGreat.Qnt

namespace Go.Proofs.YtkflggojiiebeaaGreat.Smr
open Go Go.RowKit Lw Grd Lin Con Shp Sk Exa Lev Stk Pcs Spn Qnt Hvy
set_option linter.unusedVariables false
set_option linter.unusedSimpArgs false
/-- The first error of many answers, from the left. -/
def manyC {α β : Type} (f : α → β × Int) : List α → Int
  | [] => 0
  | q :: qs => if (f q).2 = 0 then manyC f qs else (f q).2
def manyL {α β : Type} (f : α → β × Int) (l : List α) : List β := if manyC f l = 0 then l.map (fun q => (f q).1) else []
theorem manyC_ok {α β : Type} {f : α → β × Int} : ∀ {l : List α}, (∀ q ∈ l, (f q).2 = 0) → manyC f l = 0
  | [], _ => rfl
  | q :: qs, h => by
    show (if (f q).2 = 0 then manyC f qs else (f q).2) = 0
    rw [if_pos (h q (by simp))]
    exact manyC_ok (fun p hp => h p (by simp [hp]))
theorem many_ok {α β : Type} {f : α → β × Int} {l : List α} (h : ∀ q ∈ l, (f q).2 = 0) : manyC f l = 0 ∧ manyL f l = l.map (fun q => (f q).1) := by
  have h1 := manyC_ok h
  exact ⟨h1, by unfold manyL; rw [if_pos h1]⟩
theorem manyC_at {α β : Type} {f : α → β × Int} : ∀ {l : List α} {t : Nat} {q : α}, l[t]? = some q → (∀ p ∈ l.take t, (f p).2 = 0) → (f q).2 ≠ 0 → manyC f l = (f q).2
  | [], t, q, h, _, _ => by simp at h
  | p :: ps, 0, q, h, _, hn => by
    have e : p = q := by simpa using h
    subst e
    exact if_neg hn
  | p :: ps, t + 1, q, h, ha, hn => by
    show (if (f p).2 = 0 then manyC f ps else (f p).2) = _
    rw [if_pos (ha p (by simp))]
    exact manyC_at (by simpa using h) (fun x hx => ha x (by simp [hx])) hn
theorem many_at {α β : Type} {f : α → β × Int} {l : List α} {t : Nat} {q : α} (h : l[t]? = some q) (ha : ∀ p ∈ l.take t, (f p).2 = 0) (hn : (f q).2 ≠ 0) : manyC f l = (f q).2 ∧ manyL f l = [] := by
  have h1 := manyC_at h ha hn
  exact ⟨h1, by unfold manyL; rw [h1, if_neg hn]⟩
theorem take_next {α : Type} {l : List α} {t : Nat} {q : α} (h : l[t]? = some q) : l.take (t + 1) = l.take t ++ [q] := by
  rw [List.take_add_one, h]
  rfl
theorem all_next {α : Type} {p : α → Prop} {l : List α} {t : Nat} {q : α} (h : l[t]? = some q) (ha : ∀ x ∈ l.take t, p x) (hq : p q) : ∀ x ∈ l.take (t + 1), p x := by
  intro x hx
  rw [take_next h] at hx
  rcases List.mem_append.1 hx with h1 | h1
  · exact ha x h1
  · rw [List.mem_singleton.1 h1]; exact hq
/-- Is each of the cuts above the one ahead of it? -/
def riseB (l : List Int) : Bool := decide (∀ i, i < l.length - 1 → l.getD i 0 < l.getD (i + 1) 0)
/-- Does each of them leave keys on both of its sides? -/
def innB (K : Int) (l : List Int) : Bool := decide (∀ x ∈ l, 1 ≤ x ∧ x < K)
def cutC (K : Int) (l : List Int) : Int := if riseB l = true then (if innB K l = true then 0 else 2) else 1
def loQ (l : List Int) (i : Nat) : Int := if i = 0 then 0 else l.getD (i - 1) 0
def hiQ (K : Int) (l : List Int) (i : Nat) : Int := if i < l.length then l.getD i 0 - 1 else K - 1
/-- The spans into which cuts part so many keys. -/
def spansQ (K : Int) (l : List Int) : List (Int × Int) := (List.range (l.length + 1)).map (fun i => (loQ l i, hiQ K l i))
theorem spansQ_len (K : Int) (l : List Int) : (spansQ K l).length = l.length + 1 := by unfold spansQ; simp
theorem spansQ_at {K : Int} {l : List Int} {i : Nat} (h : i ≤ l.length) : (spansQ K l)[i]? = some (loQ l i, hiQ K l i) := by
  unfold spansQ
  rw [List.getElem?_map, List.getElem?_range (by omega)]
  rfl
theorem rise_no {l : List Int} {i : Nat} {a b : Int} (h1 : l[i]? = some a) (h2 : l[i + 1]? = some b) (h : b ≤ a) : riseB l = false := by
  refine decide_eq_false (fun hh => ?_)
  have h3 := hh i (by have := (List.getElem?_eq_some_iff.1 h2).1; omega)
  rw [List.getD_eq_getElem?_getD, List.getD_eq_getElem?_getD, h1, h2] at h3
  simp at h3
  omega
theorem rise_yes {l : List Int} (h : ∀ (i : Nat) (a b : Int), l[i]? = some a → l[i + 1]? = some b → a < b) : riseB l = true := by
  refine decide_eq_true (fun i hi => ?_)
  have e1 : l[i]? = some l[i] := List.getElem?_eq_getElem (by omega)
  have e2 : l[i + 1]? = some l[i + 1] := List.getElem?_eq_getElem (by omega)
  rw [List.getD_eq_getElem?_getD, List.getD_eq_getElem?_getD, e1, e2]
  exact h i _ _ e1 e2
theorem rise_at {l : List Int} (h : riseB l = true) {i : Nat} {a b : Int} (h1 : l[i]? = some a) (h2 : l[i + 1]? = some b) : a < b := by
  have h3 := of_decide_eq_true h i (by have := (List.getElem?_eq_some_iff.1 h2).1; omega)
  rw [List.getD_eq_getElem?_getD, List.getD_eq_getElem?_getD, h1, h2] at h3
  exact h3
theorem inn_no {K : Int} {l : List Int} {x : Int} (hx : x ∈ l) (h : ¬ (1 ≤ x ∧ x < K)) : innB K l = false := decide_eq_false (fun hh => h (hh x hx))
theorem inn_yes {K : Int} {l : List Int} (h : ∀ x ∈ l, 1 ≤ x ∧ x < K) : innB K l = true := decide_eq_true h
theorem cut_arg {K : Int} {l : List Int} (h : riseB l = false) : cutC K l = 1 := by unfold cutC; rw [h]; rfl
theorem cut_key {K : Int} {l : List Int} (h : riseB l = true) (h2 : innB K l = false) : cutC K l = 2 := by unfold cutC; rw [h, h2]; rfl
theorem cut_ok {K : Int} {l : List Int} (h : riseB l = true) (h2 : innB K l = true) : cutC K l = 0 := by unfold cutC; rw [h, h2]; rfl
theorem loQ_zero (l : List Int) : loQ l 0 = 0 := if_pos rfl
theorem loQ_next {l : List Int} {t : Nat} {a : Int} (h : l[t]? = some a) : loQ l (t + 1) = a := by
  unfold loQ
  rw [if_neg (by omega), List.getD_eq_getElem?_getD, Nat.add_sub_cancel, h]
  rfl
theorem hiQ_at {K : Int} {l : List Int} {t : Nat} {a : Int} (h : l[t]? = some a) : hiQ K l t = a - 1 := by
  unfold hiQ
  rw [if_pos (List.getElem?_eq_some_iff.1 h).1, List.getD_eq_getElem?_getD, h]
  rfl
theorem hiQ_last (K : Int) (l : List Int) : hiQ K l l.length = K - 1 := if_neg (by omega)
theorem spansQ_last (K : Int) (l : List Int) : spansQ K l = (spansQ K l).take l.length ++ [(loQ l l.length, K - 1)] := by
  have h := take_next (spansQ_at (K := K) (l := l) (Nat.le_refl _))
  rw [hiQ_last, List.take_of_length_le (by rw [spansQ_len]; omega)] at h
  exact h
/-- The spans of cuts that are let be. -/
theorem span_in {K : Int} {l : List Int} (hK : 1 ≤ K) (h : innB K l = true) (hr : riseB l = true) {i : Nat} (hi : i ≤ l.length) : 0 ≤ loQ l i ∧ loQ l i ≤ hiQ K l i ∧ hiQ K l i < K := by
  have hin := of_decide_eq_true h
  have hlo : loQ l i = 0 ∨ ∃ a, l[i - 1]? = some a ∧ 0 < i ∧ loQ l i = a := by
    by_cases h0 : i = 0
    · subst h0; exact .inl rfl
    · obtain ⟨j, rfl⟩ : ∃ j, i = j + 1 := ⟨i - 1, by omega⟩
      have e : l[j]? = some l[j] := List.getElem?_eq_getElem (by omega)
      exact .inr ⟨_, e, by omega, loQ_next e⟩
  by_cases hl : i < l.length
  · have e : l[i]? = some l[i] := List.getElem?_eq_getElem hl
    have hb := hin _ (List.mem_of_getElem? e)
    rw [hiQ_at e]
    rcases hlo with h1 | ⟨a, ha, h0, h1⟩
    · rw [h1]; omega
    · have hab := hin _ (List.mem_of_getElem? ha)
      have := rise_at hr ha (by rw [show i - 1 + 1 = i by omega]; exact e)
      rw [h1]; omega
  · obtain rfl : i = l.length := by omega
    rw [hiQ_last]
    rcases hlo with h1 | ⟨a, ha, h0, h1⟩
    · rw [h1]; omega
    · have hab := hin _ (List.mem_of_getElem? ha)
      rw [h1]; omega
noncomputable def rgF (c : Cfg) (pt : Nat → Int → Int) (s : Int × Int) : Int × Int := (rgV c pt s.1 s.2, rgC c pt s.1 s.2)
def qnF (c : Cfg) (pt : Nat → Int → Int) (k : Int) : Int × Int := (qnV c pt k, qnC c pt k)
noncomputable def hgC (c : Cfg) (pt : Nat → Int → Int) (l : List Int) : Int := if cutC (keys c 0) l = 0 then manyC (rgF c pt) (spansQ (keys c 0) l) else cutC (keys c 0) l
noncomputable def hgL (c : Cfg) (pt : Nat → Int → Int) (l : List Int) : List Int := if cutC (keys c 0) l = 0 then manyL (rgF c pt) (spansQ (keys c 0) l) else []
theorem hg_no {c : Cfg} {pt : Nat → Int → Int} {l : List Int} (h : cutC (keys c 0) l ≠ 0) : hgC c pt l = cutC (keys c 0) l ∧ hgL c pt l = [] := ⟨if_neg h, if_neg h⟩
theorem hg_yes {c : Cfg} {pt : Nat → Int → Int} {l : List Int} (h : cutC (keys c 0) l = 0) : hgC c pt l = manyC (rgF c pt) (spansQ (keys c 0) l) ∧ hgL c pt l = manyL (rgF c pt) (spansQ (keys c 0) l) := ⟨if_pos h, if_pos h⟩
end Go.Proofs.YtkflggojiiebeaaGreat.Smr

namespace Go.Proofs.YtkflggojiiebeaaGreat.Smr
open Go Go.RowKit Lw Grd Lin Con Shp Sk Exa Lev Stk Pcs Spn Qnt Hvy
set_option linter.unusedVariables false
set_option linter.unusedSimpArgs false
def encK (x : Nat × Int) : List Value := [.int .i64 0, .int .u64 (x.1 : Int), .int .i64 x.2]
def cfK (a b : Nat × Int) : Int := if Lib.compareInt b.2 a.2 = 0 then Lib.compareInt (a.1 : Int) (b.1 : Int) else Lib.compareInt b.2 a.2
def ltK (x y : Nat × Int) : Bool := decide (y.2 < x.2 ∨ (x.2 = y.2 ∧ x.1 < y.1))
theorem cmp_cases (x y : Int) : (x < y ∧ Lib.compareInt x y = -1) ∨ (x = y ∧ Lib.compareInt x y = 0) ∨ (y < x ∧ Lib.compareInt x y = 1) := by
  unfold Lib.compareInt
  by_cases h1 : x < y
  · exact .inl ⟨h1, by simp [h1]⟩
  · by_cases h2 : y < x
    · exact .inr (.inr ⟨h2, by simp [h1, h2]⟩)
    · exact .inr (.inl ⟨by omega, by simp [h1, h2]⟩)
theorem ltOf_K (x y : Nat × Int) : Go.Proofs.ltOf cfK x y = ltK x y := by
  unfold Go.Proofs.ltOf cfK ltK
  rcases cmp_cases y.2 x.2 with ⟨h, e⟩ | ⟨h, e⟩ | ⟨h, e⟩
  · rw [e, if_neg (by decide)]; simp [h]
  · rw [e, if_pos rfl]
    rcases cmp_cases (x.1 : Int) (y.1 : Int) with ⟨h2, e2⟩ | ⟨h2, e2⟩ | ⟨h2, e2⟩
    · rw [e2]; simp; omega
    · rw [e2]; simp; omega
    · rw [e2]; simp; omega
  · rw [e, if_neg (by decide)]; simp; omega
theorem ltK_iff {x y : Nat × Int} : ltK x y = true ↔ (y.2 < x.2 ∨ (x.2 = y.2 ∧ x.1 < y.1)) := by unfold ltK; simp
theorem ltK_no {x y : Nat × Int} : ltK x y = false ↔ ¬ (y.2 < x.2 ∨ (x.2 = y.2 ∧ x.1 < y.1)) := by unfold ltK; simp
theorem ltK_total {x y : Nat × Int} (h1 : ltK x y = false) (h2 : ltK y x = false) : x = y := by
  rw [ltK_no] at h1 h2
  obtain ⟨a, b⟩ := x
  obtain ⟨a2, b2⟩ := y
  simp only at h1 h2
  have e1 : b = b2 := by omega
  have e2 : a = a2 := by omega
  rw [e1, e2]
theorem ltK_trans {x y z : Nat × Int} (h1 : ltK x y = true) (h2 : ltK y z = true) : ltK x z = true := by
  rw [ltK_iff] at *
  omega
theorem swoK : Sort.SWO (Go.Proofs.ltOf cfK) where
  irrefl x := by rw [ltOf_K, ltK_no]; omega
  trans x y z h1 h2 := by rw [ltOf_K] at *; exact ltK_trans h1 h2
  ntrans x y z h1 h2 := by rw [ltOf_K] at *; rw [ltK_no] at *; omega
/-- The keys among what is told. -/
def keysK (l : List ((Nat × Nat) × Int)) : List (Nat × Int) := (l.filter (fun q => decide (q.1.1 = 0))).map (fun q => (q.1.2, q.2))
theorem mem_keysK {l : List ((Nat × Nat) × Int)} {x : Nat × Int} : x ∈ keysK l ↔ ((0, x.1), x.2) ∈ l := by
  unfold keysK
  rw [List.mem_map]
  constructor
  · rintro ⟨q, hq, rfl⟩
    obtain ⟨h1, h2⟩ := List.mem_filter.1 hq
    obtain ⟨⟨a, b⟩, v⟩ := q
    have : a = 0 := by simpa using h2
    subst this
    exact h1
  · intro h
    exact ⟨_, List.mem_filter.2 ⟨h, by simp⟩, rfl⟩
def sortK (l : List ((Nat × Nat) × Int)) : List (Nat × Int) := (keysK l).mergeSort (fun x y => !(Go.Proofs.ltOf cfK y x))
theorem sortK_perm (l : List ((Nat × Nat) × Int)) : (sortK l).Perm (keysK l) := List.mergeSort_perm _ _
theorem sortK_len (l : List ((Nat × Nat) × Int)) : (sortK l).length = (keysK l).length := (sortK_perm l).length_eq
theorem mem_sortK {l : List ((Nat × Nat) × Int)} {x : Nat × Int} : x ∈ sortK l ↔ ((0, x.1), x.2) ∈ l := (sortK_perm l).mem_iff.trans mem_keysK
theorem sortK_le (l : List ((Nat × Nat) × Int)) : (sortK l).Pairwise (fun x y => ltK y x = false) := by
  have h := List.pairwise_mergeSort (le := fun x y => !(Go.Proofs.ltOf cfK y x)) (l := keysK l)
    (fun x y z h1 h2 => by simp only [ltOf_K, Bool.not_eq_true'] at *; rw [ltK_no] at *; omega)
    (fun x y => by simp only [ltOf_K]; cases e : ltK y x with
      | false => rfl
      | true => have : ltK x y = false := by rw [ltK_iff] at e; rw [ltK_no]; omega
                rw [this]; rfl)
  refine h.imp (fun hx => ?_)
  simpa [ltOf_K] using hx
/-- No two keys of a list without doubles are the same; so each stands ahead of the next ones. -/
theorem sortK_lt {l : List ((Nat × Nat) × Int)} (hn : l.Pairwise (fun x y => x.1 ≠ y.1)) : (sortK l).Pairwise (fun x y => ltK x y = true) := by
  have h1 : (keysK l).Pairwise (fun x y => x ≠ y) := by
    unfold keysK
    rw [List.pairwise_map]
    refine (List.pairwise_filter.2 ?_)
    refine hn.imp (fun {a b} hx => ?_)
    intro ha hb e
    have e1 : a.1.2 = b.1.2 := (Prod.mk.inj e).1
    have ha2 : a.1.1 = 0 := by simpa using ha
    have hb2 : b.1.1 = 0 := by simpa using hb
    exact hx (Prod.ext (ha2.trans hb2.symm) e1)
  have h2 : (sortK l).Pairwise (fun x y => x ≠ y) := (sortK_perm l).symm.pairwise h1 (fun h => fun e => h e.symm)
  refine (h2.and (sortK_le l)).imp (fun {x y} h => ?_)
  cases e : ltK x y with
  | true => rfl
  | false => exact absurd (ltK_total e h.2) h.1
noncomputable def tpL (c : Cfg) (pt : Nat → Int → Int) (n least bud : Int) : List (Nat × Int) := (sortK (hvL c pt least bud)).take n.toNat
theorem tp_no {c : Cfg} {pt : Nat → Int → Int} {n least bud : Int} (h : hvC c pt least bud ≠ 0) : tpL c pt n least bud = [] := by
  have h1 : hvL c pt least bud = [] := if_neg h
  unfold tpL
  rw [h1]
  have h2 : sortK [] = [] := List.eq_nil_of_length_eq_zero (by rw [sortK_len]; rfl)
  rw [h2, List.take_nil]
/-- The greatest one of those that are left is the next one. -/
theorem next_best {l : List ((Nat × Nat) × Int)} (hn : l.Pairwise (fun x y => x.1 ≠ y.1)) {k : Nat} {x : Nat × Int} (hx : x ∈ sortK l) (hk : x ∉ (sortK l).take k) (hb : ∀ y ∈ sortK l, y ∉ (sortK l).take k → ltK y x = false) : (sortK l)[k]? = some x := by
  have hp := sortK_lt hn
  obtain ⟨j, hj⟩ := List.getElem?_of_mem hx
  have hjl := (List.getElem?_eq_some_iff.1 hj).1
  have hkj : k ≤ j := by
    rcases Nat.lt_or_ge j k with h | h
    · exact absurd (List.mem_of_getElem? (l := (sortK l).take k) (i := j) (by rw [List.getElem?_take, if_pos h]; exact hj)) hk
    · exact h
  have hkl : k < (sortK l).length := by omega
  have ek : (sortK l)[k]? = some (sortK l)[k] := List.getElem?_eq_getElem hkl
  have hne : (sortK l)[k] ∉ (sortK l).take k := by
    intro hm
    obtain ⟨i, hi⟩ := List.getElem?_of_mem hm
    have hik := (List.getElem?_eq_some_iff.1 hi).1
    rw [List.length_take] at hik
    rw [List.getElem?_take, if_pos (by omega)] at hi
    have h3 := List.pairwise_iff_getElem.1 hp i k (by omega) hkl (by omega)
    have e3 : (sortK l)[i]'(by omega) = (sortK l)[k] := (List.getElem?_eq_some_iff.1 hi).2
    rw [e3, ltK_iff] at h3
    omega
  have h4 := hb _ (List.getElem_mem hkl) hne
  by_cases hjk : j = k
  · rw [← hjk]; exact hj
  · have h5 := List.pairwise_iff_getElem.1 hp k j hkl hjl (by omega)
    have e5 : (sortK l)[j] = x := (List.getElem?_eq_some_iff.1 hj).2
    rw [e5] at h5
    rw [h5] at h4
    cases h4
end Go.Proofs.YtkflggojiiebeaaGreat.Smr

namespace Go.Proofs.YtkflggojiiebeaaGreat.Smr
open Go Go.RowKit Go.Shelf
set_option maxRecDepth 1000000
def sortL_ren : Go.Shelf.Ren := ⟨fun | 6 => 74 | 15 => 108 | 14 => 107 | 28 => 141 | 29 => 142 | 20 => 133 | 21 => 134 | 22 => 135 | 23 => 136 | 24 => 137 | 25 => 138 | 26 => 139 | 27 => 140 | 46 => 156 | 47 => 157 | 48 => 158 | 49 => 159 | 50 => 160 | 57 => 167 | n => n, fun | 22 => 39 | 24 => 85 | 25 => 161 | 3 => 3 | 39 => 95 | 0 => 0 | 53 => 244 | 55 => 22 | 4 => 4 | 46 => 237 | 45 => 236 | 50 => 241 | 5 => 5 | 9 => 9 | 66 => 257 | 70 => 261 | 76 => 266 | 77 => 267 | n => n, fun | n => n⟩
theorem sortL : Go.Proofs.SlLaysF0.n6 Tryz.prog sortL_ren := {
  mixed := by kernel_rfl,
  f6 := ⟨Tryz.f74.name, by decide, Tryz.func74.trans (congrArg some (by kernel_rfl))⟩,
  f14 := ⟨Tryz.f107.name, by decide, Tryz.func107.trans (congrArg some (by kernel_rfl))⟩,
  f15 := Tryz.func108.trans (congrArg some (by kernel_rfl)),
  f20 := ⟨Tryz.f133.name, by decide, Tryz.func133.trans (congrArg some (by kernel_rfl))⟩,
  f21 := ⟨Tryz.f134.name, by decide, Tryz.func134.trans (congrArg some (by kernel_rfl))⟩,
  f22 := ⟨Tryz.f135.name, by decide, Tryz.func135.trans (congrArg some (by kernel_rfl))⟩,
  f23 := ⟨Tryz.f136.name, by decide, Tryz.func136.trans (congrArg some (by kernel_rfl))⟩,
  f24 := ⟨Tryz.f137.name, by decide, Tryz.func137.trans (congrArg some (by kernel_rfl))⟩,
  f25 := ⟨Tryz.f138.name, by decide, Tryz.func138.trans (congrArg some (by kernel_rfl))⟩,
  f26 := ⟨Tryz.f139.name, by decide, Tryz.func139.trans (congrArg some (by kernel_rfl))⟩,
  f27 := ⟨Tryz.f140.name, by decide, Tryz.func140.trans (congrArg some (by kernel_rfl))⟩,
  f28 := Tryz.func141.trans (congrArg some (by kernel_rfl)),
  f29 := Tryz.func142.trans (congrArg some (by kernel_rfl)),
  f46 := ⟨Tryz.f156.name, by decide, Tryz.func156.trans (congrArg some (by kernel_rfl))⟩,
  f47 := Tryz.func157.trans (congrArg some (by kernel_rfl)),
  f48 := Tryz.func158.trans (congrArg some (by kernel_rfl)),
  f49 := ⟨Tryz.f159.name, by decide, Tryz.func159.trans (congrArg some (by kernel_rfl))⟩,
  f50 := ⟨Tryz.f160.name, by decide, Tryz.func160.trans (congrArg some (by kernel_rfl))⟩,
  f57 := ⟨Tryz.f167.name, by decide, Tryz.func167.trans (congrArg some (by kernel_rfl))⟩,
  t0 := Tryz.underlying0,
  a0 := Tryz.isAgg0,
  z0 := Tryz.sizeOf0,
  v0 := Tryz.zeroValue0,
  t3 := Tryz.underlying3,
  a3 := Tryz.isAgg3,
  z3 := Tryz.sizeOf3,
  v3 := Tryz.zeroValue3,
  t4 := Tryz.underlying4,
  a4 := Tryz.isAgg4,
  z4 := Tryz.sizeOf4,
  v4 := Tryz.zeroValue4,
  t5 := Tryz.underlying5,
  a5 := Tryz.isAgg5,
  z5 := Tryz.sizeOf5,
  v5 := Tryz.zeroValue5,
  t9 := Tryz.underlying9,
  a9 := Tryz.isAgg9,
  z9 := Tryz.sizeOf9,
  v9 := Tryz.zeroValue9,
  t22 := Tryz.underlying39,
  a22 := Tryz.isAgg39,
  z22 := Tryz.sizeOf39,
  v22 := Tryz.zeroValue39,
  t25 := Tryz.underlying161,
  a25 := Tryz.isAgg161,
  z25 := Tryz.sizeOf161,
  v25 := Tryz.zeroValue161,
  t39 := Tryz.underlying95,
  a39 := Tryz.isAgg95,
  z39 := Tryz.sizeOf95,
  v39 := Tryz.zeroValue95,
  t45 := Tryz.underlying236,
  a45 := Tryz.isAgg236,
  z45 := Tryz.sizeOf236,
  v45 := Tryz.zeroValue236,
  t46 := Tryz.underlying237,
  a46 := Tryz.isAgg237,
  z46 := Tryz.sizeOf237,
  v46 := Tryz.zeroValue237,
  t50 := Tryz.underlying241,
  a50 := Tryz.isAgg241,
  z50 := Tryz.sizeOf241,
  v50 := Tryz.zeroValue241,
  t53 := Tryz.underlying244,
  a53 := Tryz.isAgg244,
  z53 := Tryz.sizeOf244,
  v53 := Tryz.zeroValue244,
  t55 := Tryz.underlying22,
  a55 := Tryz.isAgg22,
  z55 := Tryz.sizeOf22,
  v55 := Tryz.zeroValue22,
  t66 := Tryz.underlying257,
  a66 := Tryz.isAgg257,
  z66 := Tryz.sizeOf257,
  v66 := Tryz.zeroValue257,
  t70 := Tryz.underlying261,
  a70 := Tryz.isAgg261,
  z70 := Tryz.sizeOf261,
  v70 := Tryz.zeroValue261,
  t76 := Tryz.underlying266,
  a76 := Tryz.isAgg266,
  z76 := Tryz.sizeOf266,
  v76 := Tryz.zeroValue266,
  t77 := Tryz.underlying267,
  a77 := Tryz.isAgg267,
  z77 := Tryz.sizeOf267,
  v77 := Tryz.zeroValue267 }
end Go.Proofs.YtkflggojiiebeaaGreat.Smr

namespace Go.Proofs.YtkflggojiiebeaaGreat.Stk
open Go Go.RowKit Lw Grd Lin Con Shp Sk Exa Lev
set_option linter.unusedVariables false
set_option linter.unusedSimpArgs false
set_option maxRecDepth 100000 in
set_option maxHeartbeats 4000000 in
theorem rcut15_any (c : Cfg) (k d : Int) (w : World) (h : c.Ok) (k0 : 0 ≤ k) (k1 : k ≤ 18446744073709551615) (d0 : -9223372036854775808 ≤ d) (d1 : d ≤ 9223372036854775807) (hK : 1 ≤ keys c 0) :
    Calls Tryz.prog 41 #[.agg #[.int .i64 c.bt, .int .i64 c.rw, .int .i64 c.wd, .int .i64 c.md, .int .u64 c.sd], .agg #[.int .u64 k, .int .i64 d]] w fun e w' => e = .returned (.agg #[.int .u64 (cutU c 0 (k, d)).1, .int .i64 (cutU c 0 (k, d)).2]) ∧ Below w.heap.size w w' := by
  have HO := Lib.hid h
  obtain ⟨K, hKK⟩ : ∃ K, keys c 0 = K := ⟨_, rfl⟩
  have CK := Lib.hid (fun w => rkeys_any c 0 w h (by omega) (by omega))
  rw [hKK] at CK hK
  obtain ⟨r1, r2, r3⟩ := rem_key k K k0 k1 hK
  have hKn : ¬ K = 0 := by omega
  have h1 := tmod_bd d
  obtain ⟨t, ht⟩ : ∃ t, Int.tmod d 1099511627776 = t := ⟨_, rfl⟩
  have hdv : (cutU c 0 (k, d)).2 = if c.md = 2 ∧ t < 0 then -t else t := by
    unfold cutU dv
    simp only [decide_eq_true_eq, ht]
    split <;> split <;> first | rfl | omega
  have hck : (cutU c 0 (k, d)).1 = k % K := by unfold cutU; rw [hKK]
  obtain ⟨R, hR⟩ : ∃ R, k % K = R := ⟨_, rfl⟩
  rw [hR] at r1 r2 r3 hck
  rw [hck]
  rw [ht] at h1
  obtain ⟨D, hD⟩ : ∃ D, (cutU c 0 (k, d)).2 = D := ⟨_, rfl⟩
  rw [hD] at hdv ⊢
  clear hKK hck hR hD h
  have go : ∀ b : Bool, (c.md == 2) = b → ∀ (s : Bool), decide (t < 0) = s → D = (if b = true ∧ s = true then -t else t) → Calls Tryz.prog 41 #[.agg #[.int .i64 c.bt, .int .i64 c.rw, .int .i64 c.wd, .int .i64 c.md, .int .u64 c.sd], .agg #[.int .u64 k, .int .i64 d]] w fun e w' => e = .returned (.agg #[.int .u64 R, .int .i64 D]) ∧ Below w.heap.size w w' := by
    clear hdv
    intro b hb s hs hd
    have HD := Lib.hid hd
    clear hd
    have hts : (s = true ∧ t < 0 ∧ t ≤ -t) ∨ (s = false ∧ 0 ≤ t ∧ -t ≤ t) := by
      cases s with
      | true => left; have := of_decide_eq_true hs; exact ⟨rfl, this, by omega⟩
      | false => right; have := of_decide_eq_false hs; exact ⟨rfl, by omega, by omega⟩
    clear hs
    cases b with
    | false =>
      go_enter Tryz.func41, Tryz.ntmps41
      go_wp2
      go_region_held3 (fun w' => w'.cell? ⟨w.heap.size, 0, none⟩ = some (.int .i64 c.bt) ∧ w'.cell? ⟨w.heap.size, 1, none⟩ = some (.int .i64 c.rw) ∧ w'.cell? ⟨w.heap.size, 2, none⟩ = some (.int .i64 c.wd) ∧ w'.cell? ⟨w.heap.size, 3, none⟩ = some (.int .i64 c.md) ∧ w'.cell? ⟨w.heap.size, 4, none⟩ = some (.int .u64 c.sd) ∧ w'.cell? ⟨w.heap.size + 1, 0, none⟩ = some (.int .u64 k)) (simp [go_sem]) (first | (go_at_call 37; (with_reducible refine (CK.out _).mono ?_); rintro e w' ⟨rfl, hb⟩; obtain ⟨bs, dd, rfl⟩ := below_grow hb; clear hb))
      go_wp2
      go_returns
      exact ⟨by rw [HD.out]; rfl, (by repeat' (first | (with_reducible first | exact Below.refl _ _ | assumption | refine below_over ?_ _ _ | refine Lw.below_alloc ?_ _ | refine Below.drew ?_ | refine below_drewN ?_ _ | refine Below.setCell ?_ ?_ _) | go_size))⟩
    | true =>
      rcases hts with ⟨rfl, ht0, ht1⟩ | ⟨rfl, ht0, ht1⟩
      · skip
        go_enter Tryz.func41, Tryz.ntmps41
        go_wp2
        go_region_held3 (fun w' => w'.cell? ⟨w.heap.size, 0, none⟩ = some (.int .i64 c.bt) ∧ w'.cell? ⟨w.heap.size, 1, none⟩ = some (.int .i64 c.rw) ∧ w'.cell? ⟨w.heap.size, 2, none⟩ = some (.int .i64 c.wd) ∧ w'.cell? ⟨w.heap.size, 3, none⟩ = some (.int .i64 c.md) ∧ w'.cell? ⟨w.heap.size, 4, none⟩ = some (.int .u64 c.sd) ∧ w'.cell? ⟨w.heap.size + 1, 0, none⟩ = some (.int .u64 k)) (simp [go_sem]) (first | (go_at_call 37; (with_reducible refine (CK.out _).mono ?_); rintro e w' ⟨rfl, hb⟩; obtain ⟨bs, dd, rfl⟩ := below_grow hb; clear hb))
        go_wp2
        go_returns
        exact ⟨by rw [HD.out]; first | rfl | (rw [Int.max_eq_right ht1]; rfl), (by repeat' (first | (with_reducible first | exact Below.refl _ _ | assumption | refine below_over ?_ _ _ | refine Lw.below_alloc ?_ _ | refine Below.drew ?_ | refine below_drewN ?_ _ | refine Below.setCell ?_ ?_ _) | go_size))⟩
      · skip
        go_enter Tryz.func41, Tryz.ntmps41
        go_wp2
        go_region_held3 (fun w' => w'.cell? ⟨w.heap.size, 0, none⟩ = some (.int .i64 c.bt) ∧ w'.cell? ⟨w.heap.size, 1, none⟩ = some (.int .i64 c.rw) ∧ w'.cell? ⟨w.heap.size, 2, none⟩ = some (.int .i64 c.wd) ∧ w'.cell? ⟨w.heap.size, 3, none⟩ = some (.int .i64 c.md) ∧ w'.cell? ⟨w.heap.size, 4, none⟩ = some (.int .u64 c.sd) ∧ w'.cell? ⟨w.heap.size + 1, 0, none⟩ = some (.int .u64 k)) (simp [go_sem]) (first | (go_at_call 37; (with_reducible refine (CK.out _).mono ?_); rintro e w' ⟨rfl, hb⟩; obtain ⟨bs, dd, rfl⟩ := below_grow hb; clear hb))
        go_wp2
        go_returns
        exact ⟨by rw [HD.out]; first | rfl | (rw [Int.max_eq_left ht1]; rfl), (by repeat' (first | (with_reducible first | exact Below.refl _ _ | assumption | refine below_over ?_ _ _ | refine Lw.below_alloc ?_ _ | refine Below.drew ?_ | refine below_drewN ?_ _ | refine Below.setCell ?_ ?_ _) | go_size))⟩
  refine go (c.md == 2) rfl (decide (t < 0)) rfl ?_
  rw [hdv]
  simp

end Go.Proofs.YtkflggojiiebeaaGreat.Stk

namespace Go.Proofs.YtkflggojiiebeaaGreat.Stk
open Go Go.RowKit Lw Grd Lin Con Shp Sk Exa Lev
set_option linter.unusedVariables false
set_option linter.unusedSimpArgs false
theorem Asun.sub2 {ts us : List Thing} (h : ts.Sublist us) : Asun us → Asun ts := by
  induction h with
  | slnil => exact id
  | cons a h ih => exact fun g => ih g.2
  | cons_cons a h ih => exact fun g => ⟨fun u hu => g.1 u (h.subset hu), ih g.2⟩
theorem Hold.sub {F0 : Nat → Prop} {w0 w : World} {ts us : List Thing} (h : Hold F0 w0 w us) (hs : ts.Sublist us) : Hold F0 w0 w ts :=
  ⟨h.1, fun t ht => h.2.1 t (hs.subset ht), Asun.sub2 hs h.2.2⟩
end Go.Proofs.YtkflggojiiebeaaGreat.Stk

namespace Go.Proofs.YtkflggojiiebeaaGreat.Spn
open Go Go.RowKit Lw Grd Lin Con Shp Sk Exa Lev Stk Pcs
set_option linter.unusedVariables false
set_option linter.unusedSimpArgs false
/-- What the keys from lo to hi have. -/
def bt (lo hi : Int) : Ups → Int
  | [] => 0
  | u :: us => (if lo ≤ u.1 ∧ u.1 ≤ hi then u.2 else 0) + bt lo hi us
end Go.Proofs.YtkflggojiiebeaaGreat.Spn

namespace Go.Proofs.YtkflggojiiebeaaGreat.Stk
open Go Go.RowKit Lw Grd Lin Con Shp Sk Exa Lev
set_option linter.unusedVariables false
set_option linter.unusedSimpArgs false
/-- A stack of the code at p, in the blocks F. -/
def ST (w : World) (p : Addr) (F : Nat → Prop) (c : Cfg) (sts : List LS) : Prop :=
  IsRight c ∧ c.Ok ∧ sts.length = c.bt.toNat + 1 ∧ ∃ (b B0 : Nat) (hdr : Value) (vals : List Value) (ts : List Thing), p = ⟨b, 0, none⟩ ∧ LRow elvT c vals ts sts ∧ (manyT (boxT b 105 #[.int .i64 c.bt, .int .i64 c.rw, .int .i64 c.wd, .int .i64 c.md, .int .u64 c.sd, hdr] :: ownT B0 107 hdr vals :: ts)).I w ∧ F = (manyT (boxT b 105 #[.int .i64 c.bt, .int .i64 c.rw, .int .i64 c.wd, .int .i64 c.md, .int .u64 c.sd, hdr] :: ownT B0 107 hdr vals :: ts)).F
def stT (p : Addr) (F : Nat → Prop) (c : Cfg) (sts : List LS) : Thing where
  I := fun w => ST w p F c sts
  F := F
  keep := fun w w' H h hk hf => by
    obtain ⟨h1, h2, h3, b, B0, hdr, vals, ts, e, hr, hm, rfl⟩ := h
    exact ⟨h1, h2, h3, b, B0, hdr, vals, ts, e, hr, (manyT _).keep w w' H hm hk hf, rfl⟩
  lt := fun w h k hk => by
    obtain ⟨h1, h2, h3, b, B0, hdr, vals, ts, e, hr, hm, rfl⟩ := h
    exact (manyT _).lt w hm k hk
theorem stI {w : World} {p : Addr} {F : Nat → Prop} {c : Cfg} {sts : List LS} (h : (stT p F c sts).I w) : ST w p F c sts := h
theorem ST.right {w : World} {p : Addr} {F : Nat → Prop} {c : Cfg} {sts : List LS} (h : ST w p F c sts) : IsRight c ∧ c.Ok ∧ sts.length = c.bt.toNat + 1 := ⟨h.1, h.2.1, h.2.2.1⟩
theorem ST.up {w w' : World} {p : Addr} {F : Nat → Prop} {c : Cfg} {sts : List LS} (h : ST w p F c sts) (hb : Below w.heap.size w w') : ST w' p F c sts :=
  (stT p F c sts).keep w w' (fun _ => False) h (Kept.of_below hb) (fun _ _ h => h)
/-- A level's cells, if there is such a level. -/
def lvFl (sts : List LS) (n : Int) : List Int := if 0 ≤ n then ((sts[n.toNat]?).map LS.fl).getD [] else []
def spV (c : Cfg) (sts : List LS) (n i : Int) : Int := if 0 ≤ n then ((sts[n.toNat]?).map (fun st => lsPtV c n st i)).getD 0 else 0
def spC (c : Cfg) (sts : List LS) (n i : Int) : Int := if 0 ≤ n then ((sts[n.toNat]?).map (fun st => lsPtC c n st i)).getD 2 else 2
end Go.Proofs.YtkflggojiiebeaaGreat.Stk

namespace Go.Proofs.YtkflggojiiebeaaGreat.Spn
open Go Go.RowKit Lw Grd Lin Con Shp Sk Exa Lev Stk Pcs
set_option linter.unusedVariables false
theorem flat_in16 {m n : Nat} {L : List (List Int)} (h : Dims m n L) : In64 L.flatten := fun v hv => by
  obtain ⟨r, hr, h2⟩ := List.mem_flatten.1 hv
  exact (h.rows r hr).2 v h2
theorem named_in16 : ∀ {L : List (List Int)} {cs : List Int}, In64 L.flatten → ∀ v ∈ named L cs, -9223372036854775808 ≤ v ∧ v ≤ 9223372036854775807
  | [], _, _ => fun v hv => by simp [named] at hv
  | _ :: _, [], _ => fun v hv => by simp [named] at hv
  | r :: L, k :: cs, h => fun v hv => by
    rcases List.mem_cons.1 (show v ∈ (r[k.toNat]?.getD 0) :: named L cs from hv) with e | e
    · subst e
      cases h1 : r[k.toNat]? with
      | none => simp
      | some y => exact h y (by rw [List.flatten_cons]; exact List.mem_append_left _ (List.mem_of_getElem? h1))
    · exact named_in16 (fun x hx => h x (by rw [List.flatten_cons]; exact List.mem_append_right _ hx)) v e
theorem pt_in16 (c : Cfg) (l i : Int) {st : LS} (h : In64 st.fl) : -9223372036854775808 ≤ lsPtV c l st i ∧ lsPtV c l st i ≤ 9223372036854775807 := by
  cases st with
  | A L =>
    show _ ≤ Exa.ptV L i ∧ Exa.ptV L i ≤ _
    unfold Exa.ptV
    split
    · omega
    · unfold num
      cases h1 : L[i.toNat]? with
      | none => simp
      | some y => exact h y (List.mem_of_getElem? h1)
  | S L =>
    show _ ≤ ptVal c l L i ∧ ptVal c l L i ≤ _
    unfold ptVal
    split
    · omega
    · split
      · exact Ord.kv_in _ _ _ _ (by omega) (by omega) (named_in16 h)
      · exact Ord.kv_in _ _ _ _ (by omega) (by omega) (named_in16 h)
theorem st_in16 {w : World} {p : Addr} {F : Nat → Prop} {c : Cfg} {sts : List LS} (h : ST w p F c sts) {n : Nat} {st : LS} (hs : sts[n]? = some st) : In64 st.fl := by
  obtain ⟨hr, hc, hlen, b, B0, hdr, vals, ts, rfl, hrow, hI, rfl⟩ := h
  obtain ⟨st2, v, Q, e1, e2, e3⟩ := hrow.at (j := n) ((List.getElem?_eq_some_iff.1 hs).1)
  rw [hs] at e1
  injection e1 with e1
  subst e1
  have h1 : ELV w v Q c (n : Int) st := hI.1 (elvT v Q c (n : Int) st) (List.mem_cons_of_mem _ (List.mem_cons_of_mem _ (List.mem_of_getElem? e3)))
  cases st with
  | A L =>
    obtain ⟨p, rfl, h2⟩ := h1.2
    exact h2.in64
  | S L =>
    obtain ⟨p, rfl, h2⟩ := h1.2
    exact flat_in16 h2.dims
theorem sp_in16 {w : World} {p : Addr} {F : Nat → Prop} {c : Cfg} {sts : List LS} (h : ST w p F c sts) (n i : Int) : -9223372036854775808 ≤ spV c sts n i ∧ spV c sts n i ≤ 9223372036854775807 := by
  unfold spV
  split
  · cases hs : sts[n.toNat]? with
    | none => simp
    | some st => exact pt_in16 c n i (st_in16 h hs)
  · omega
theorem parts_in16 {w : World} {p : Addr} {F : Nat → Prop} {c : Cfg} {sts : List LS} (h : ST w p F c sts) (lo hi : Int) : In64 (ptL c (fun L i => spV c sts (L : Int) i) lo hi) := by
  unfold ptL
  split
  · unfold parts
    intro v hv
    obtain ⟨q, hq, rfl⟩ := List.mem_map.1 hv
    exact sp_in16 h _ _
  · intro v hv
    simp at hv
theorem parts_len16 {c : Cfg} (hr : IsRight c) (pt : Nat → Int → Int) (lo hi : Int) (lo0 : 0 ≤ lo) : (ptL c pt lo hi).length ≤ 1000 := by
  unfold ptL
  split
  next h =>
    have hb := hr.1
    have hb2 := hr.2.1
    have h1 : ¬ hi < lo := fun h1 => by unfold ptC2 at h; rw [if_pos h1] at h; exact absurd h (by decide)
    have h2 : ¬ keys c 0 ≤ hi := fun h2 => by unfold ptC2 at h; rw [if_neg h1, if_pos h2] at h; exact absurd h (by decide)
    have e0 : keys c 0 = 2 ^ (c.bt - 0).toNat := keys_yes hr (by omega) (by omega)
    have e9 : (c.bt - 0).toNat = c.bt.toNat := by omega
    rw [e9] at e0
    have h5 : ((2 ^ c.bt.toNat : Nat) : Int) = 2 ^ c.bt.toNat := by simp
    unfold parts
    rw [List.length_map]
    unfold covL
    split
    next hx =>
      have h3 := (Classical.choose_spec hx).len (by omega) (by omega)
      omega
    next => simp
  next => simp
end Go.Proofs.YtkflggojiiebeaaGreat.Spn

namespace Go.Proofs.YtkflggojiiebeaaGreat.Stk
open Go Go.RowKit Lw Grd Lin Con Shp Sk Exa Lev
set_option linter.unusedVariables false
set_option linter.unusedSimpArgs false
attribute [local go_sem] Oper.semAt_some
/-- One of N levels. -/
abbrev Lof (N : Nat) := {j : Nat // j < N}
/-- What a round is handed. -/
def encL (vals : List Value) (c : Cfg) (k : Int) (x : Lof vals.length) : Array Value := #[vals[x.1]'x.2, .int .u64 (aboveV c x.1 k)]
/-- The first levels, one behind another. -/
def UpTo {N : Nat} (pre : List (Lof N)) : Prop := pre.map (fun x => x.1) = List.range pre.length
theorem UpTo.nil (N : Nat) : UpTo ([] : List (Lof N)) := rfl
theorem UpTo.snoc {N : Nat} {pre : List (Lof N)} {x : Lof N} : UpTo (pre ++ [x]) ↔ UpTo pre ∧ x.1 = pre.length := by
  unfold UpTo
  rw [List.map_append, List.length_append, List.length_singleton, List.range_succ]
  constructor
  · intro h
    obtain ⟨h1, h2⟩ := List.append_inj h (by simp)
    exact ⟨h1, by simpa using h2⟩
  · rintro ⟨h1, h2⟩
    rw [h1, ← h2]
    rfl
theorem grown_of {w w' : World} (h : Below w.heap.size w w') : w.grownBy w' none := ⟨h.1, h.2, h.3, h.4, fun k hk _ => h.5 k hk⟩
set_option maxRecDepth 100000 in
set_option maxHeartbeats 2000000 in
theorem above_iter (m : Nat) (hm : 1 ≤ m) (c : Cfg) (hc : c.Ok) (k : Int) (k0 : 0 ≤ k) (k1 : k ≤ 18446744073709551615) (l bs bk b g cap : Nat) (G : Nat → Prop) (vals : List Value) (hN : vals.length ≤ 60) (hbs : G bs) (hbk : G bk) (hb : G b) (hg : G g) (J Jx : List (Lof vals.length) → World → Prop)
    (W : World) (hG : ∀ k, G k → k < W.heap.size) (hJ : AbidesFrom W.heap.size J)
    (hY : ∀ pre x W, J pre W → pre.length < vals.length → YieldAt Fence.wide (m - 1) Tryz.prog l (encL vals c k x) W fun e W' => (e = .returned (.bool true) ∧ J (pre ++ [x]) W' ∧ KeptG G W W') ∨ (e = .returned (.bool false) ∧ Jx (pre ++ [x]) W'))
    (h1 : W.cell? ⟨bs, 0, none⟩ = some (.pointer (some ⟨b, 0, none⟩))) (h2 : W.cell? ⟨bk, 0, none⟩ = some (.int .u64 k)) (h3 : W.heap[b]? = some (.cells #[.int .i64 c.bt, .int .i64 c.rw, .int .i64 c.wd, .int .i64 c.md, .int .u64 c.sd, .slice (some ⟨g, 0, none⟩) vals.length cap] 105 (0, 0))) (h4 : ∀ (j : Nat) (v : Value), vals[j]? = some v → W.cell? ⟨g, j, none⟩ = some v) (h0 : J [] W) :
    CallsIn Fence.wide m Tryz.prog 90 #[.func (.yield l) #[] #[], .pointer (some ⟨bs, 0, none⟩), .pointer (some ⟨bk, 0, none⟩)] W fun e W' => (∃ v, e = .returned v) ∧ ((∃ xs, (UpTo xs ∧ xs.length = vals.length) ∧ J xs W') ∨ (∃ pre, UpTo pre ∧ Jx pre W')) := by
  have hbx : (boxT b 105 #[.int .i64 c.bt, .int .i64 c.rw, .int .i64 c.wd, .int .i64 c.md, .int .u64 c.sd, .slice (some ⟨g, 0, none⟩) vals.length cap]).I W := h3
  refine callsIn_of_wp Tryz.func90 rfl trivial ?_ rfl
  simp only [Tryz.ntmps90, List.size_toArray, List.length_cons, List.length_nil, Nat.reduceAdd, Nat.reduceSub, Array.replicate_succ, Array.replicate_zero, List.push_toArray, List.append_toArray, List.nil_append, List.cons_append]
  have c0 : W.cell? ⟨b, 0, none⟩ = some (.int .i64 c.bt) := box_cell hbx rfl
  have c1 : W.cell? ⟨b, 1, none⟩ = some (.int .i64 c.rw) := box_cell hbx rfl
  have c2 : W.cell? ⟨b, 2, none⟩ = some (.int .i64 c.wd) := box_cell hbx rfl
  have c3 : W.cell? ⟨b, 3, none⟩ = some (.int .i64 c.md) := box_cell hbx rfl
  have c4 : W.cell? ⟨b, 4, none⟩ = some (.int .u64 c.sd) := box_cell hbx rfl
  have c5 : W.cell? ⟨b, 5, none⟩ = some (.slice (some ⟨g, 0, none⟩) vals.length cap) := box_cell hbx rfl
  gi_wp2
  gi_loopw [13] (fun i wr => ∃ (j : Nat) (pre : List (Lof vals.length)), j ≤ vals.length ∧ i = .int .i64 j ∧ UpTo pre ∧ pre.length = j ∧ J pre wr ∧ KeptG G W wr)
    (fun i _ => vals.length - (intOf i).toNat)
  case atStart => exact ⟨0, [], Nat.zero_le _, rfl, UpTo.nil _, rfl, h0, KeptG.refl _ _⟩
  case round =>
    obtain ⟨j, pre, hj, rfl, hup, hlen, hJs, hkp⟩ := hrel
    by_cases hlt : j < vals.length
    · obtain ⟨v, hv⟩ : ∃ v, vals[j]? = some v := ⟨_, List.getElem?_eq_getElem hlt⟩
      have hv2 : vals[j]'hlt = v := by
        have h9 := List.getElem?_eq_getElem hlt
        rw [hv] at h9
        exact (Option.some.inj h9).symm
      have hcv := hkp.cell (h4 j v hv) hg
      have d1 := hkp.cell h1 hbs
      have d2 := hkp.cell h2 hbk
      have e0 := hkp.cell c0 hb
      have e1 := hkp.cell c1 hb
      have e2 := hkp.cell c2 hb
      have e3 := hkp.cell c3 hb
      have e4 := hkp.cell c4 hb
      gi_wp2
      refine wpIn_wide.2 ?_
      go_region_with (go_at_call 91; (with_reducible refine (above_any c j k _ hc (by omega) (by omega) k0 k1).mono ?_); rintro e w' ⟨rfl, hbw⟩; have hb2 : Below wr.heap.size wr w' := (Below.drew (Below.refl _ wr)).trans hbw; have hJ2 := hJ pre wr w' none hJs (grown_of hb2) (fun r e => by cases e); obtain ⟨fn, tmps, assign, body, hy, hR⟩ := hY pre ⟨j, hlt⟩ w' hJ2 (by omega); have hk2 := hkp.trans (KeptG.of_below (fun k hk => Nat.lt_of_lt_of_le (hG k hk) hkp.size) hb2); simp only [encL, hv2] at hy)
      all_goals
        gi_wp2
        refine hR.mono ?_
        rintro e W3 (⟨rfl, hJ3, hk3⟩ | ⟨rfl, hJx3⟩)
        · gi_wp2
          go_roundw
          case rel => exact ⟨j + 1, pre ++ [⟨j, hlt⟩], by omega, by simp, UpTo.snoc.2 ⟨hup, hlen.symm⟩, by simp [hlen], hJ3, hk2.trans hk3⟩
          case measure => simp [intOf]; omega
        · gi_wp2
          refine bodyPost_ret (results_none rfl _ _ _) rfl ?_
          exact ⟨⟨_, rfl⟩, .inr ⟨pre ++ [⟨j, hlt⟩], UpTo.snoc.2 ⟨hup, hlen.symm⟩, hJx3⟩⟩
    · obtain rfl : j = vals.length := by omega
      gi_wp2
      go_end0
      exact ⟨⟨_, rfl⟩, .inl ⟨pre, ⟨hup, hlen⟩, hJs⟩⟩
end Go.Proofs.YtkflggojiiebeaaGreat.Stk

namespace Go.Proofs.YtkflggojiiebeaaGreat.Stk
open Go Go.RowKit Lw Grd Lin Con Shp Sk Exa Lev Go.Shelf
set_option linter.unusedVariables false
set_option linter.unusedSimpArgs false
attribute [local go_sem] Oper.semAt_some
theorem sabove_any (p : Addr) (k : Int) (w : World) :
    Calls Tryz.prog 48 #[.pointer (some p), .int .u64 k] w fun e w' => e = .returned (.func (.func 90) #[] #[.pointer (some ⟨w.heap.size, 0, none⟩), .pointer (some ⟨w.heap.size + 1, 0, none⟩)]) ∧ w' = (w.alloc (.cells #[.pointer (some p)] 30)).alloc (.cells #[.int .u64 k] 22) := by
  go_enter Tryz.func48, Tryz.ntmps48
  go_wp2
  go_ret
  exact ⟨rfl, rfl⟩
theorem HoldC.drop {F0 : Nat → Prop} {w0 w : World} {t : Thing} {ts : List Thing} (h : HoldC F0 w0 w (t :: ts)) : HoldC F0 w0 w ts :=
  ⟨⟨h.1.1, fun u hu => h.1.2.1 u (List.mem_cons_of_mem _ hu), h.1.2.2.2⟩, fun u hu => h.2 u (List.mem_cons_of_mem _ hu)⟩
theorem holdc_store {F0 : Nat → Prop} {w0 w : World} {fs ts : List Thing} {b : Nat} {e : TypeId} {v v' : Value} (h : HoldC F0 w0 w (fs ++ boxT b e #[v] :: ts)) : HoldC F0 w0 (w.setCell ⟨b, 0, none⟩ v') (fs ++ boxT b e #[v'] :: ts) := by
  have hb : Boxed w b e v := h.i (t := boxT b e #[v]) (by simp)
  have hb2 := hb.set v'
  refine h.turn (boxT b e #[v']) hb2 (Kept.set (F := (boxT b e #[v]).F) (Kept.refl _ _) (.inl rfl) 0 v') (fun k hk => .inl hk) (cel_box hb2)
set_option maxRecDepth 100000 in
set_option maxHeartbeats 2000000 in
theorem first_1 (c : Cfg) (k : Int) (vals : List Value) (lb : Array Value) (bd : Nat) (F0 : Nat → Prop) (w0 w : World) (gs ls0 : List Thing)
    (P : List (Lof vals.length) → List Thing → Prop) (Px : List (Lof vals.length) → Int → List Thing → Prop)
    (h0 : HoldC F0 w0 w (gs ++ ls0)) (hP : P [] ls0)
    (hseq : ∀ (w1 : World) (m : Nat), 1 ≤ m → Below w.heap.size w w1 → SeqStopsK Fence.wide m Tryz.prog 90 lb (encL vals c k) (KeptG (manyT gs).F) (fun xs => UpTo xs ∧ xs.length = vals.length) UpTo vals.length w1)
    (hcall : ∀ (us : List Thing) (pre : List (Lof vals.length)) (ls : List Thing) (x : Lof vals.length) (W : World), HoldC F0 w0 W (us ++ (gs ++ ls)) → P pre ls → pre.length < vals.length →
      Calls Tryz.prog 49 #[vals[x.1]'x.2, .int .u64 (aboveV c x.1 k), .pointer (some ⟨bd, 0, none⟩)] W fun e W' => ∃ (code : Int) (ls' : List Thing), e = .returned (.int .i64 code) ∧ KeepsOthers W W' ∧ KeptG (manyT gs).F W W' ∧ HoldC F0 w0 W' (us ++ (gs ++ ls')) ∧ (code = 0 → P (pre ++ [x]) ls') ∧ (¬ code = 0 → Px (pre ++ [x]) code ls')) :
    Calls Tryz.prog 47 #[.func (.func 90) #[] lb, .func (.func 49) #[] #[.pointer (some ⟨bd, 0, none⟩)]] w fun e W' =>
      ∃ ls, HoldC F0 w0 W' (gs ++ ls) ∧ ((e = .returned (.int .i64 0) ∧ ∃ xs, (UpTo xs ∧ xs.length = vals.length) ∧ P xs ls) ∨ (∃ pre code, UpTo pre ∧ ¬ code = 0 ∧ e = .returned (.int .i64 code) ∧ Px pre code ls)) := by
  refine (callsIn_wide (n := 9)).1 ?_
  refine callsIn_of_wp_marks Tryz.func47 rfl trivial ?_ rfl
  simp only [Tryz.ntmps47, List.size_toArray, List.length_cons, List.length_nil, Nat.reduceAdd, Nat.reduceSub, Array.replicate_succ, Array.replicate_zero, List.push_toArray, List.append_toArray, List.nil_append, List.cons_append]
  gi_wp2
  have B1 : Below w.heap.size w (w.alloc (.cells #[.func (.func 49) #[] #[.pointer (some ⟨bd, 0, none⟩)]] 115)) := Lw.below_alloc (Below.refl _ _) _
  have B2 := Lw.below_alloc (Below.refl _ (w.alloc (.cells #[.func (.func 49) #[] #[.pointer (some ⟨bd, 0, none⟩)]] 115))) (.cells #[.int .i64 0] 31)
  have h1 := h0.push (boxT w.heap.size 115 #[.func (.func 49) #[] #[.pointer (some ⟨bd, 0, none⟩)]]) B1 (heap_alloc_new w _) (fun k hk => Nat.le_of_eq hk.symm) (cel_box (heap_alloc_new w _))
  have h2 := h1.push (boxT (w.heap.size + 1) 31 #[.int .i64 0]) B2 (by have := heap_alloc_new (w.alloc (.cells #[.func (.func 49) #[] #[.pointer (some ⟨bd, 0, none⟩)]] 115)) (.cells #[.int .i64 0] 31); rw [World.size_alloc] at this; exact this) (fun k hk => Nat.le_of_eq (by simp; exact hk.symm)) (cel_box (by have := heap_alloc_new (w.alloc (.cells #[.func (.func 49) #[] #[.pointer (some ⟨bd, 0, none⟩)]] 115)) (.cells #[.int .i64 0] 31); rw [World.size_alloc] at this; exact this))
  have hG : ∀ k, (manyT gs).F k → k < w.heap.size := fun k hk => by
    obtain ⟨t, ht, hk2⟩ := hk
    exact t.lt w (h0.i (List.mem_append_left _ ht)) k hk2
  have hw0 : w0.heap.size ≤ w.heap.size := h0.1.1.size
  have hI : ∀ (r : Int) (us : List Thing), OwnFrom w.heap.size (fun (_ : Unit) W => HoldC F0 w0 W us) := fun r us => HoldC.own hw0 (fun _ => us)
  refine wpIn_rangeFunc_ownG rfl (by omega) (gf := 90) (lb := lb) rfl trivial (enters_of Tryz.func90 (by kernel_rfl) rfl)
    (hseq _ (9 - 1) (by omega) (B1.trans (B2.mono (by simp)))) (fun h k => KeptG.trans h k) (KeptG.put (fun k hk => by have := hG k hk; simp; omega)) (Below.refl _ _) (fun _ => rfl)
    (fun pre W => ∃ ls, HoldC F0 w0 W (boxT (w.heap.size + 1) 31 #[.int .i64 0] :: boxT w.heap.size 115 #[.func (.func 49) #[] #[.pointer (some ⟨bd, 0, none⟩)]] :: (gs ++ ls)) ∧ P pre ls)
    (fun j pre W => j = .ret ∧ ∃ ls code, HoldC F0 w0 W (boxT (w.heap.size + 1) 31 #[.int .i64 code] :: boxT w.heap.size 115 #[.func (.func 49) #[] #[.pointer (some ⟨bd, 0, none⟩)]] :: (gs ++ ls)) ∧ ¬ code = 0 ∧ Px pre code ls)
    (by
      rintro s A B row ⟨ls, h, hp⟩ hg hr
      exact ⟨ls, HoldC.own (Nat.le_trans hw0 (by simp; omega)) (fun (_ : Unit) => _) () A B row h hg hr, hp⟩)
    (by
      rintro j s A B row ⟨hj, ls, code, h, hne, hp⟩ hg hr
      exact ⟨hj, ls, code, HoldC.own (Nat.le_trans hw0 (by simp; omega)) (fun (_ : Unit) => _) () A B row h hg hr, hne, hp⟩)
    ⟨ls0, h2, hP⟩
    (fun x => { tmps := #[.func (.func 90) #[] lb, .func (.func 49) #[] #[.pointer (some ⟨bd, 0, none⟩)], undef, .pointer (some ⟨w.heap.size, 0, none⟩), .pointer (some ⟨w.heap.size + 1, 0, none⟩), vals[x.1]'x.2, .int .u64 (aboveV c x.1 k), undef, .func (.func 90) #[] lb, vals[x.1]'x.2, .int .u64 (aboveV c x.1 k), undef, undef, undef, undef, undef, undef, undef], defers := [] }) ?assign ?body ?done ?stop
  case assign =>
    intro l x W K hK
    simp only [encL]
    gi_wp2
    exact hK
  case body =>
    rintro l pre x W ⟨ls, hh, hp⟩ hlen
    have b1 := box_cell (hh.i (t := boxT w.heap.size 115 #[.func (.func 49) #[] #[.pointer (some ⟨bd, 0, none⟩)]]) (by simp)) (i := 0) rfl
    gi_wp2_with (refine ⟨trivial, ?_⟩; gi_at_call 49; refine (CallsIn.inRound l (callsIn_wide.2 (hcall [boxT (w.heap.size + 1) 31 #[.int .i64 0], boxT w.heap.size 115 #[.func (.func 49) #[] #[.pointer (some ⟨bd, 0, none⟩)]]] pre ls x W hh hp hlen))).mono ?_; rintro e W' ⟨code, ls', rfl, hko, hkg, hh', hz, hnz⟩; have r1 : Boxed W' (w.heap.size + 1) 31 (.int .i64 0) := hh'.i (t := boxT (w.heap.size + 1) 31 #[.int .i64 0]) (by simp); have r2 := r1.cell; have r3 := r1.frozen)
    · rename_i hcc
      have hc0 : ¬ code = 0 := by simpa using hcc
      have hs := holdc_store (v' := .int .i64 code) (fs := []) hh'
      exact ⟨(hko.trans (KeepsOthers.setCell _ _ _)).from _, rfl, ls', code, hs, hc0, hnz hc0⟩
    · rename_i hcc
      have hc0 : code = 0 := by simpa using hcc
      exact ⟨hko.from _, hkg, ls', hh', hz hc0⟩
  case done =>
    rintro D ys W hD hys ⟨ls, hh, hp⟩ hK
    have r1 : Boxed W (w.heap.size + 1) 31 (.int .i64 0) := hh.i (t := boxT (w.heap.size + 1) 31 #[.int .i64 0]) (by simp)
    have r2 := r1.cell
    have r3 := r1.frozen
    gi_wp2
    have hs := holdc_store (v' := .int .i64 0) (fs := []) hh
    have hK' := (KeepsOthers.setCell W ⟨w.heap.size + 1, 0, none⟩ (.int .i64 0)).same D _ hK rfl
    refine ⟨by simp, .inl ⟨_, _, rfl, run_takeDeferred hK', ?_⟩⟩
    have hs2 := HoldC.own (B := w.heap.size) hw0 (fun (_ : Unit) => boxT (w.heap.size + 1) 31 #[.int .i64 0] :: boxT w.heap.size 115 #[.func (.func 49) #[] #[.pointer (some ⟨bd, 0, none⟩)]] :: (gs ++ ls)) () _ _ _ hs (grownBy_putObj' _ D (.deferred none)) (fun r e => by cases e; exact ⟨by simp at hD; omega, _, hK', rfl⟩)
    have hc5 : (((W.setCell ⟨w.heap.size + 1, 0, none⟩ (.int .i64 0)).putObj D (.deferred none))).cell? ⟨w.heap.size + 1, 0, none⟩ = some (.int .i64 0) := box_cell (hs2.i (t := boxT (w.heap.size + 1) 31 #[.int .i64 0]) (by simp)) (i := 0) rfl
    refine ⟨.int .i64 0, ?_, ls, hs2.drop.drop, .inl ⟨rfl, ys, hys, hp⟩⟩
    simp [results, Tryz.f47, go_sem, hc5]
  case stop =>
    rintro D j pre W hD hpre ⟨rfl, ls, code, hh, hne, hp⟩ hK
    gi_wp2
    refine ⟨by simp, .inl ⟨_, _, rfl, run_takeDeferred hK, ?_⟩⟩
    have hs2 := HoldC.own (B := w.heap.size) hw0 (fun (_ : Unit) => boxT (w.heap.size + 1) 31 #[.int .i64 code] :: boxT w.heap.size 115 #[.func (.func 49) #[] #[.pointer (some ⟨bd, 0, none⟩)]] :: (gs ++ ls)) () _ _ _ hh (grownBy_putObj' _ D (.deferred none)) (fun r e => by cases e; exact ⟨by simp at hD; omega, _, hK, rfl⟩)
    have hc5 : (W.putObj D (.deferred none)).cell? ⟨w.heap.size + 1, 0, none⟩ = some (.int .i64 code) := box_cell (hs2.i (t := boxT (w.heap.size + 1) 31 #[.int .i64 code]) (by simp)) (i := 0) rfl
    refine ⟨.int .i64 code, ?_, ls, hs2.drop.drop, .inr ⟨pre, code, hpre, hne, rfl, hp⟩⟩
    simp [results, Tryz.f47, go_sem, hc5]
set_option maxRecDepth 100000 in
set_option maxHeartbeats 2000000 in
theorem first_2 (c : Cfg) (k : Int) (vals : List Value) (lb : Array Value) (bd : Nat) (F0 : Nat → Prop) (w0 w : World) (gs ls0 : List Thing)
    (P : List (Lof vals.length) → List Thing → Prop) (Px : List (Lof vals.length) → Int → List Thing → Prop)
    (h0 : HoldC F0 w0 w (gs ++ ls0)) (hP : P [] ls0)
    (hseq : ∀ (w1 : World) (m : Nat), 1 ≤ m → Below w.heap.size w w1 → SeqStopsK Fence.wide m Tryz.prog 90 lb (encL vals c k) (KeptG (manyT gs).F) (fun xs => UpTo xs ∧ xs.length = vals.length) UpTo vals.length w1)
    (hcall : ∀ (us : List Thing) (pre : List (Lof vals.length)) (ls : List Thing) (x : Lof vals.length) (W : World), HoldC F0 w0 W (us ++ (gs ++ ls)) → P pre ls → pre.length < vals.length →
      Calls Tryz.prog 50 #[vals[x.1]'x.2, .int .u64 (aboveV c x.1 k), .pointer (some ⟨bd, 0, none⟩)] W fun e W' => ∃ (code : Int) (ls' : List Thing), e = .returned (.int .i64 code) ∧ KeepsOthers W W' ∧ KeptG (manyT gs).F W W' ∧ HoldC F0 w0 W' (us ++ (gs ++ ls')) ∧ (code = 0 → P (pre ++ [x]) ls') ∧ (¬ code = 0 → Px (pre ++ [x]) code ls')) :
    Calls Tryz.prog 47 #[.func (.func 90) #[] lb, .func (.func 50) #[] #[.pointer (some ⟨bd, 0, none⟩)]] w fun e W' =>
      ∃ ls, HoldC F0 w0 W' (gs ++ ls) ∧ ((e = .returned (.int .i64 0) ∧ ∃ xs, (UpTo xs ∧ xs.length = vals.length) ∧ P xs ls) ∨ (∃ pre code, UpTo pre ∧ ¬ code = 0 ∧ e = .returned (.int .i64 code) ∧ Px pre code ls)) := by
  refine (callsIn_wide (n := 9)).1 ?_
  refine callsIn_of_wp_marks Tryz.func47 rfl trivial ?_ rfl
  simp only [Tryz.ntmps47, List.size_toArray, List.length_cons, List.length_nil, Nat.reduceAdd, Nat.reduceSub, Array.replicate_succ, Array.replicate_zero, List.push_toArray, List.append_toArray, List.nil_append, List.cons_append]
  gi_wp2
  have B1 : Below w.heap.size w (w.alloc (.cells #[.func (.func 50) #[] #[.pointer (some ⟨bd, 0, none⟩)]] 115)) := Lw.below_alloc (Below.refl _ _) _
  have B2 := Lw.below_alloc (Below.refl _ (w.alloc (.cells #[.func (.func 50) #[] #[.pointer (some ⟨bd, 0, none⟩)]] 115))) (.cells #[.int .i64 0] 31)
  have h1 := h0.push (boxT w.heap.size 115 #[.func (.func 50) #[] #[.pointer (some ⟨bd, 0, none⟩)]]) B1 (heap_alloc_new w _) (fun k hk => Nat.le_of_eq hk.symm) (cel_box (heap_alloc_new w _))
  have h2 := h1.push (boxT (w.heap.size + 1) 31 #[.int .i64 0]) B2 (by have := heap_alloc_new (w.alloc (.cells #[.func (.func 50) #[] #[.pointer (some ⟨bd, 0, none⟩)]] 115)) (.cells #[.int .i64 0] 31); rw [World.size_alloc] at this; exact this) (fun k hk => Nat.le_of_eq (by simp; exact hk.symm)) (cel_box (by have := heap_alloc_new (w.alloc (.cells #[.func (.func 50) #[] #[.pointer (some ⟨bd, 0, none⟩)]] 115)) (.cells #[.int .i64 0] 31); rw [World.size_alloc] at this; exact this))
  have hG : ∀ k, (manyT gs).F k → k < w.heap.size := fun k hk => by
    obtain ⟨t, ht, hk2⟩ := hk
    exact t.lt w (h0.i (List.mem_append_left _ ht)) k hk2
  have hw0 : w0.heap.size ≤ w.heap.size := h0.1.1.size
  have hI : ∀ (r : Int) (us : List Thing), OwnFrom w.heap.size (fun (_ : Unit) W => HoldC F0 w0 W us) := fun r us => HoldC.own hw0 (fun _ => us)
  refine wpIn_rangeFunc_ownG rfl (by omega) (gf := 90) (lb := lb) rfl trivial (enters_of Tryz.func90 (by kernel_rfl) rfl)
    (hseq _ (9 - 1) (by omega) (B1.trans (B2.mono (by simp)))) (fun h k => KeptG.trans h k) (KeptG.put (fun k hk => by have := hG k hk; simp; omega)) (Below.refl _ _) (fun _ => rfl)
    (fun pre W => ∃ ls, HoldC F0 w0 W (boxT (w.heap.size + 1) 31 #[.int .i64 0] :: boxT w.heap.size 115 #[.func (.func 50) #[] #[.pointer (some ⟨bd, 0, none⟩)]] :: (gs ++ ls)) ∧ P pre ls)
    (fun j pre W => j = .ret ∧ ∃ ls code, HoldC F0 w0 W (boxT (w.heap.size + 1) 31 #[.int .i64 code] :: boxT w.heap.size 115 #[.func (.func 50) #[] #[.pointer (some ⟨bd, 0, none⟩)]] :: (gs ++ ls)) ∧ ¬ code = 0 ∧ Px pre code ls)
    (by
      rintro s A B row ⟨ls, h, hp⟩ hg hr
      exact ⟨ls, HoldC.own (Nat.le_trans hw0 (by simp; omega)) (fun (_ : Unit) => _) () A B row h hg hr, hp⟩)
    (by
      rintro j s A B row ⟨hj, ls, code, h, hne, hp⟩ hg hr
      exact ⟨hj, ls, code, HoldC.own (Nat.le_trans hw0 (by simp; omega)) (fun (_ : Unit) => _) () A B row h hg hr, hne, hp⟩)
    ⟨ls0, h2, hP⟩
    (fun x => { tmps := #[.func (.func 90) #[] lb, .func (.func 50) #[] #[.pointer (some ⟨bd, 0, none⟩)], undef, .pointer (some ⟨w.heap.size, 0, none⟩), .pointer (some ⟨w.heap.size + 1, 0, none⟩), vals[x.1]'x.2, .int .u64 (aboveV c x.1 k), undef, .func (.func 90) #[] lb, vals[x.1]'x.2, .int .u64 (aboveV c x.1 k), undef, undef, undef, undef, undef, undef, undef], defers := [] }) ?assign ?body ?done ?stop
  case assign =>
    intro l x W K hK
    simp only [encL]
    gi_wp2
    exact hK
  case body =>
    rintro l pre x W ⟨ls, hh, hp⟩ hlen
    have b1 := box_cell (hh.i (t := boxT w.heap.size 115 #[.func (.func 50) #[] #[.pointer (some ⟨bd, 0, none⟩)]]) (by simp)) (i := 0) rfl
    gi_wp2_with (refine ⟨trivial, ?_⟩; gi_at_call 50; refine (CallsIn.inRound l (callsIn_wide.2 (hcall [boxT (w.heap.size + 1) 31 #[.int .i64 0], boxT w.heap.size 115 #[.func (.func 50) #[] #[.pointer (some ⟨bd, 0, none⟩)]]] pre ls x W hh hp hlen))).mono ?_; rintro e W' ⟨code, ls', rfl, hko, hkg, hh', hz, hnz⟩; have r1 : Boxed W' (w.heap.size + 1) 31 (.int .i64 0) := hh'.i (t := boxT (w.heap.size + 1) 31 #[.int .i64 0]) (by simp); have r2 := r1.cell; have r3 := r1.frozen)
    · rename_i hcc
      have hc0 : ¬ code = 0 := by simpa using hcc
      have hs := holdc_store (v' := .int .i64 code) (fs := []) hh'
      exact ⟨(hko.trans (KeepsOthers.setCell _ _ _)).from _, rfl, ls', code, hs, hc0, hnz hc0⟩
    · rename_i hcc
      have hc0 : code = 0 := by simpa using hcc
      exact ⟨hko.from _, hkg, ls', hh', hz hc0⟩
  case done =>
    rintro D ys W hD hys ⟨ls, hh, hp⟩ hK
    have r1 : Boxed W (w.heap.size + 1) 31 (.int .i64 0) := hh.i (t := boxT (w.heap.size + 1) 31 #[.int .i64 0]) (by simp)
    have r2 := r1.cell
    have r3 := r1.frozen
    gi_wp2
    have hs := holdc_store (v' := .int .i64 0) (fs := []) hh
    have hK' := (KeepsOthers.setCell W ⟨w.heap.size + 1, 0, none⟩ (.int .i64 0)).same D _ hK rfl
    refine ⟨by simp, .inl ⟨_, _, rfl, run_takeDeferred hK', ?_⟩⟩
    have hs2 := HoldC.own (B := w.heap.size) hw0 (fun (_ : Unit) => boxT (w.heap.size + 1) 31 #[.int .i64 0] :: boxT w.heap.size 115 #[.func (.func 50) #[] #[.pointer (some ⟨bd, 0, none⟩)]] :: (gs ++ ls)) () _ _ _ hs (grownBy_putObj' _ D (.deferred none)) (fun r e => by cases e; exact ⟨by simp at hD; omega, _, hK', rfl⟩)
    have hc5 : (((W.setCell ⟨w.heap.size + 1, 0, none⟩ (.int .i64 0)).putObj D (.deferred none))).cell? ⟨w.heap.size + 1, 0, none⟩ = some (.int .i64 0) := box_cell (hs2.i (t := boxT (w.heap.size + 1) 31 #[.int .i64 0]) (by simp)) (i := 0) rfl
    refine ⟨.int .i64 0, ?_, ls, hs2.drop.drop, .inl ⟨rfl, ys, hys, hp⟩⟩
    simp [results, Tryz.f47, go_sem, hc5]
  case stop =>
    rintro D j pre W hD hpre ⟨rfl, ls, code, hh, hne, hp⟩ hK
    gi_wp2
    refine ⟨by simp, .inl ⟨_, _, rfl, run_takeDeferred hK, ?_⟩⟩
    have hs2 := HoldC.own (B := w.heap.size) hw0 (fun (_ : Unit) => boxT (w.heap.size + 1) 31 #[.int .i64 code] :: boxT w.heap.size 115 #[.func (.func 50) #[] #[.pointer (some ⟨bd, 0, none⟩)]] :: (gs ++ ls)) () _ _ _ hh (grownBy_putObj' _ D (.deferred none)) (fun r e => by cases e; exact ⟨by simp at hD; omega, _, hK, rfl⟩)
    have hc5 : (W.putObj D (.deferred none)).cell? ⟨w.heap.size + 1, 0, none⟩ = some (.int .i64 code) := box_cell (hs2.i (t := boxT (w.heap.size + 1) 31 #[.int .i64 code]) (by simp)) (i := 0) rfl
    refine ⟨.int .i64 code, ?_, ls, hs2.drop.drop, .inr ⟨pre, code, hpre, hne, rfl, hp⟩⟩
    simp [results, Tryz.f47, go_sem, hc5]
end Go.Proofs.YtkflggojiiebeaaGreat.Stk

namespace Go.Proofs.YtkflggojiiebeaaGreat.Stk
open Go Go.RowKit Lw Grd Lin Con Shp Sk Exa Lev
set_option linter.unusedVariables false
set_option linter.unusedSimpArgs false
theorem st_ex {c : Cfg} {us : Ups} {n : Nat} {i : Int} (hx : exactB c n = true) (i0 : 0 ≤ i) (hi : i < keys c n) : lsPtV c n (stOf c us n) i = hasK i (upN us n) := by
  have hk : ((keys c n).toNat : Int) = keys c n := Int.toNat_of_nonneg (by omega)
  unfold stOf
  rw [if_pos hx]
  show Exa.ptV (sums (keys c n).toNat (upN us n)) i = _
  unfold Exa.ptV
  rw [if_neg (by rw [sums_len, hk]; omega)]
  unfold num
  rw [sums_get (show i.toNat < (keys c n).toNat by omega)]
  show hasK ((i.toNat : Nat) : Int) (upN us n) = _
  rw [Int.toNat_of_nonneg i0]
theorem sp_at {c : Cfg} (hr : IsRight c) (us : Ups) {n : Nat} (hn : (n : Int) ≤ c.bt) (i : Int) : spV c (stsOf c us) n i = lsPtV c n (stOf c us n) i ∧ spC c (stsOf c us) n i = lsPtC c n (stOf c us n) i := by
  have hb := hr.1
  have h1 := stsOf_get (c := c) (us := us) (n := n) (by omega)
  unfold spV spC
  rw [if_pos (by omega), if_pos (by omega), Int.toNat_natCast, h1]
  exact ⟨rfl, rfl⟩
end Go.Proofs.YtkflggojiiebeaaGreat.Stk

namespace Go.Proofs.YtkflggojiiebeaaGreat.Spn
open Go Go.RowKit Lw Grd Lin Con Shp Sk Exa Lev Stk Pcs
set_option linter.unusedVariables false
theorem cel_within {b : Int} {L : List (List Int)} (hb : 0 ≤ b) (h : Within b L) (r v : Nat) : -b ≤ cel L r v ∧ cel L r v ≤ b := by
  unfold cel
  cases h1 : L[r]? with
  | none => simp; omega
  | some x =>
    simp only [Option.getD_some]
    cases h2 : x[v]? with
    | none => simp; omega
    | some y => exact h x (List.mem_of_getElem? h1) y (List.mem_of_getElem? h2)
theorem cells_within {c : Cfg} {n : Int} {us : Ups} (h : UpsIn c n us) (hl : us.length ≤ 60) : Within 65970697666560 (cells c n us) := by
  by_cases h2 : c.md = 2
  · rw [cells_con h2]
    exact (rose_dims (opsU_ok h.1) (plus_of h h2) (by rw [opsU_len]; exact hl)).2
  · rw [cells_lin h2]
    exact within_mono (chAll_within (c := 1099511627776) (by omega) (b := 0) (Int.le_refl _) (within_zeros (rws c) (wds c)) (opsU_ok h.1)) (c := 65970697666560) (by rw [opsU_len]; omega)
theorem named_within {b : Int} (hb : 0 ≤ b) : ∀ {L : List (List Int)} {cs : List Int}, Within b L → ∀ v ∈ named L cs, -b ≤ v ∧ v ≤ b
  | [], _, _ => fun v hv => by simp [named] at hv
  | _ :: _, [], _ => fun v hv => by simp [named] at hv
  | r :: L, k :: cs, h => fun v hv => by
    rcases List.mem_cons.1 (show v ∈ (r[k.toNat]?.getD 0) :: named L cs from hv) with e | e
    · subst e
      cases h1 : r[k.toNat]? with
      | none => simp; omega
      | some y => exact h r (by simp) y (List.mem_of_getElem? h1)
    · exact named_within hb (fun x hx => h x (List.mem_cons_of_mem _ hx)) v e
theorem pt_bd {c : Cfg} (hr : IsRight c) {us : Ups} (h : UpsIn c 0 us) (hl : us.length ≤ 60) {n : Nat} (hn : (n : Int) ≤ c.bt) {i : Int} (i0 : 0 ≤ i) (hi : i < keys c n) : -65970697666560 ≤ lsPtV c n (stOf c us n) i ∧ lsPtV c n (stOf c us n) i ≤ 65970697666560 := by
  have hu := upN_in hr h hn
  by_cases hx : exactB c n = true
  · rw [st_ex hx i0 hi]
    have h2 := hasK_bd (k := i) (b := 1099511627776) (by omega) (us := upN us n) (fun v hv => ⟨(hu.1 v hv).2.2.1, (hu.1 v hv).2.2.2⟩)
    rw [upN_len] at h2
    omega
  · unfold stOf
    rw [if_neg hx]
    show _ ≤ ptVal c n (cells c n (upN us n)) i ∧ ptVal c n (cells c n (upN us n)) i ≤ _
    have hw := cells_within hu (by rw [upN_len]; exact hl)
    by_cases hm : c.md = 3
    · rw [pt_middle hi hm]
      exact Ord.kv_in _ _ _ _ (by omega) (by omega) (named_within (by omega) hw)
    rw [pt_least hi hm]
    obtain ⟨r, v, -, -, -, e⟩ := lea_is (cells_sz hu) (cols_meet i0 hi)
    rw [e]
    exact cel_within (by omega) hw r v
/-- A piece of a span of keys is one of the level's. -/
theorem cov_in {c : Cfg} (hr : IsRight c) {lo hi : Int} (h0 : 0 ≤ lo) (h1 : lo ≤ hi) (h2 : hi < keys c 0) {l : List (Nat × Nat)} (h : Cov c.bt.toNat (hi.toNat + 1) lo.toNat l) {p : Nat × Nat} (hp : p ∈ l) : (p.1 : Int) ≤ c.bt ∧ ((p.2 : Nat) : Int) < keys c p.1 := by
  have hb := hr.1
  obtain ⟨i, hi2⟩ := List.getElem?_of_mem hp
  obtain ⟨a1, a2, a3⟩ := h.at i p hi2
  have e0 : keys c 0 = 2 ^ (c.bt - 0).toNat := keys_yes hr (by omega) (by omega)
  have e1 : keys c p.1 = 2 ^ (c.bt - p.1).toNat := keys_yes hr (by omega) (by omega)
  refine ⟨by omega, ?_⟩
  rw [e1]
  have e2 : (c.bt - 0).toNat = c.bt.toNat := by omega
  have e3 : (c.bt - p.1).toNat = c.bt.toNat - p.1 := by omega
  rw [e2] at e0
  rw [e3]
  have h5 : ((2 ^ c.bt.toNat : Nat) : Int) = 2 ^ c.bt.toNat := by simp
  have h6 : ((2 ^ (c.bt.toNat - p.1) : Nat) : Int) = 2 ^ (c.bt.toNat - p.1) := by simp
  have h7 : hi.toNat + 1 ≤ 2 ^ c.bt.toNat := by omega
  have h8 : 2 ^ c.bt.toNat = 2 ^ (c.bt.toNat - p.1) * 2 ^ p.1 := by rw [← Nat.pow_add]; congr 1; omega
  have h9 : (p.2 + 1) * 2 ^ p.1 ≤ 2 ^ (c.bt.toNat - p.1) * 2 ^ p.1 := by rw [Nat.succ_mul]; omega
  have h10 := Nat.le_of_mul_le_mul_right h9 (Nat.two_pow_pos p.1)
  omega
/-- What a span of a stack that was fed is told to have. -/
theorem rg_fed {c : Cfg} (hr : IsRight c) {us : Ups} (h : UpsIn c 0 us) (hl : us.length ≤ 60) {lo hi : Int} (h0 : 0 ≤ lo) (h1 : lo ≤ hi) (h2 : hi < keys c 0) {l : List (Nat × Nat)} (hc : Cov c.bt.toNat (hi.toNat + 1) lo.toNat l) :
    ptC2 c lo hi = 0 ∧ parts c (fun L i => spV c (stsOf c us) (L : Int) i) lo hi = l.map (fun p => lsPtV c p.1 (stOf c us p.1) ((p.2 : Nat) : Int)) ∧ rgC c (fun L i => spV c (stsOf c us) (L : Int) i) lo hi = 0 ∧ rgV c (fun L i => spV c (stsOf c us) (L : Int) i) lo hi = (l.map (fun p => lsPtV c p.1 (stOf c us p.1) ((p.2 : Nat) : Int))).sum := by
  have e1 : ptC2 c lo hi = 0 := by unfold ptC2; rw [if_neg (by omega), if_neg (by omega)]
  have e2 : parts c (fun L i => spV c (stsOf c us) (L : Int) i) lo hi = l.map (fun p => lsPtV c p.1 (stOf c us p.1) ((p.2 : Nat) : Int)) := by
    unfold parts
    rw [covL_eq hc]
    exact List.map_congr_left (fun p hp => (sp_at hr us (cov_in hr h0 h1 h2 hc hp).1 _).1)
  have hB := hr.1
  have hB2 := hr.2.1
  have e0 : keys c 0 = 2 ^ (c.bt - 0).toNat := keys_yes hr (by omega) (by omega)
  have e9 : (c.bt - 0).toNat = c.bt.toNat := by omega
  rw [e9] at e0
  have h5 : ((2 ^ c.bt.toNat : Nat) : Int) = 2 ^ c.bt.toNat := by simp
  have hlen := hc.len (by omega) (by omega)
  have hbd := sum_bd (f := fun p : Nat × Nat => lsPtV c p.1 (stOf c us p.1) ((p.2 : Nat) : Int)) (b := 65970697666560) (l := l) (fun p hp => by
    have h3 := cov_in hr h0 h1 h2 hc hp
    exact pt_bd hr h hl h3.1 (by omega) h3.2)
  have hfit : Wid.fit64 (l.map (fun p => lsPtV c p.1 (stOf c us p.1) ((p.2 : Nat) : Int))).sum = true := by
    exact (Wid.fit64_yes (by omega) (by omega)).1
  have e3 : rgC c (fun L i => spV c (stsOf c us) (L : Int) i) lo hi = 0 := by unfold rgC; rw [if_pos e1, e2, if_pos hfit]
  exact ⟨e1, e2, e3, by unfold rgV; rw [if_pos e3, e2]⟩
end Go.Proofs.YtkflggojiiebeaaGreat.Spn

namespace Go.Proofs.YtkflggojiiebeaaGreat.Smr
open Go Go.RowKit Lw Grd Lin Con Shp Sk Exa Lev Stk Pcs Spn Qnt Hvy
set_option linter.unusedVariables false
set_option linter.unusedSimpArgs false
/-- Cuts that rise, from 1 on, below K, and none above LT. -/
def Cuts (K LT : Int) (l : List Int) : Prop := riseB l = true ∧ innB K l = true ∧ ∀ x ∈ l, x ≤ LT
theorem Cuts.nil (K : Int) : Cuts K 0 [] := ⟨by decide, inn_yes (fun x hx => by cases hx), fun x hx => by cases hx⟩
theorem Cuts.more {K LT L2 : Int} {l : List Int} (h : Cuts K LT l) (h2 : LT ≤ L2) : Cuts K L2 l := ⟨h.1, h.2.1, fun x hx => Int.le_trans (h.2.2 x hx) h2⟩
theorem Cuts.snoc {K LT L2 : Int} {l : List Int} (h : Cuts K LT l) (h1 : LT < L2) (h0 : 1 ≤ L2) (h2 : L2 < K) : Cuts K L2 (l ++ [L2]) := by
  refine ⟨rise_yes (fun i a b ha hb => ?_), inn_yes (fun x hx => ?_), fun x hx => ?_⟩
  · rcases Nat.lt_or_ge (i + 1) l.length with hl | hl
    · rw [List.getElem?_append_left (by omega)] at ha
      rw [List.getElem?_append_left hl] at hb
      exact rise_at h.1 ha hb
    · have hbl := (List.getElem?_eq_some_iff.1 hb).1
      rw [List.length_append] at hbl
      simp at hbl
      have e : i + 1 = l.length := by omega
      rw [e, List.getElem?_append_right (Nat.le_refl _)] at hb
      simp at hb
      rw [List.getElem?_append_left (by omega)] at ha
      have := h.2.2 a (List.mem_of_getElem? ha)
      omega
  · rcases List.mem_append.1 hx with h3 | h3
    · exact (of_decide_eq_true h.2.1) x h3
    · rw [List.mem_singleton.1 h3]; exact ⟨h0, h2⟩
  · rcases List.mem_append.1 hx with h3 | h3
    · have := h.2.2 x h3; omega
    · rw [List.mem_singleton.1 h3]; exact Int.le_refl _
theorem Cuts.ok {K LT : Int} {l : List Int} (h : Cuts K LT l) : cutC K l = 0 := cut_ok h.1 h.2.1
theorem Cuts.at {K LT : Int} {l : List Int} (h : Cuts K LT l) {i : Nat} {x : Int} (hx : l[i]? = some x) : 1 ≤ x ∧ x < K := (of_decide_eq_true h.2.1) x (List.mem_of_getElem? hx)
theorem cut_nums {K LT v : Int} (k1 : 1 ≤ K) (k2 : K ≤ 100000) (l1 : 0 ≤ LT) (l2 : LT ≤ 10000000) (v1 : 0 ≤ v) : ∃ Q Q1 R2 L1 L2 : Int, (Int.tdiv K 4 = Q ∧ K / 4 = Q ∧ IntKind.u64.wrap Q = Q ∧ IntKind.u64.wrap (Q + 1) = Q1 ∧ ¬ Q1 = 0) ∧ (Int.tmod v Q1 = R2 ∧ v % Q1 = R2 ∧ IntKind.u64.wrap R2 = R2) ∧ (IntKind.u64.wrap (LT + 1) = L1 ∧ IntKind.u64.wrap (L1 + R2) = L2) ∧ LT < L2 ∧ 1 ≤ L2 ∧ L2 ≤ LT + 200000 := by
  have q0 : 0 ≤ K / 4 ∧ K / 4 ≤ K := by omega
  have e1 : Int.tdiv K 4 = K / 4 := Int.tdiv_eq_ediv_of_nonneg (by omega)
  have e2 : IntKind.u64.wrap (K / 4) = K / 4 := by rw [IntKind.wrap_u64]; omega
  have e3 : IntKind.u64.wrap (K / 4 + 1) = K / 4 + 1 := by rw [IntKind.wrap_u64]; omega
  have e4 : Int.tmod v (K / 4 + 1) = v % (K / 4 + 1) := Int.tmod_eq_emod_of_nonneg v1
  have m0 := Int.emod_nonneg v (show K / 4 + 1 ≠ 0 by omega)
  have m1 := Int.emod_lt_of_pos v (show 0 < K / 4 + 1 by omega)
  obtain ⟨R2, hR⟩ : ∃ r, v % (K / 4 + 1) = r := ⟨_, rfl⟩
  rw [hR] at e4 m0 m1
  exact ⟨K / 4, K / 4 + 1, R2, LT + 1, LT + 1 + R2, ⟨e1, rfl, e2, e3, by omega⟩, ⟨e4, hR, by rw [IntKind.wrap_u64]; omega⟩, ⟨by rw [IntKind.wrap_u64]; omega, by rw [IntKind.wrap_u64]; omega⟩, by omega, by omega, by omega⟩
theorem rg_ok {c : Cfg} (hr : IsRight c) {us : Ups} (h : UpsIn c 0 us) (hl : us.length ≤ 60) {lo hi : Int} (h0 : 0 ≤ lo) (h1 : lo ≤ hi) (h2 : hi < keys c 0) : rgC c (fun L i => spV c (stsOf c us) (L : Int) i) lo hi = 0 := by
  obtain ⟨l, hc⟩ := Cov.ex (B := c.bt.toNat) (e := hi.toNat + 1) (hi.toNat + 1 - lo.toNat) lo.toNat rfl (by omega)
  exact (rg_fed hr h hl h0 h1 h2 hc).2.2.1
/-- All spans between cuts fit. -/
theorem spans_ok {c : Cfg} (hr : IsRight c) {us : Ups} (h : UpsIn c 0 us) (hl : us.length ≤ 60) (hk : 1 ≤ keys c 0) {LT : Int} {l : List Int} (hc : Cuts (keys c 0) LT l) : hgC c (fun L i => spV c (stsOf c us) (L : Int) i) l = 0 ∧ hgL c (fun L i => spV c (stsOf c us) (L : Int) i) l = (spansQ (keys c 0) l).map (fun s => rgV c (fun L i => spV c (stsOf c us) (L : Int) i) s.1 s.2) := by
  have h1 := hg_yes (c := c) (pt := fun L i => spV c (stsOf c us) (L : Int) i) hc.ok
  have h2 := many_ok (f := rgF c (fun L i => spV c (stsOf c us) (L : Int) i)) (l := spansQ (keys c 0) l) (fun s hs => by
    obtain ⟨i, hi⟩ := List.getElem?_of_mem hs
    have hil := (List.getElem?_eq_some_iff.1 hi).1
    rw [spansQ_len] at hil
    rw [spansQ_at (by omega)] at hi
    have e := Option.some.inj hi
    subst e
    have h3 := span_in hk hc.2.1 hc.1 (i := i) (by omega)
    exact rg_ok hr h hl h3.1 h3.2.1 h3.2.2)
  exact ⟨h1.1.trans h2.1, h1.2.trans h2.2⟩
end Go.Proofs.YtkflggojiiebeaaGreat.Smr

namespace Go.Proofs.YtkflggojiiebeaaGreat.Stk
open Go Go.RowKit Lw Grd Lin Con Shp Sk Exa Lev Go.Shelf
set_option linter.unusedVariables false
set_option linter.unusedSimpArgs false
theorem above_up {c : Cfg} {k : Int} (hr : IsRight c) (k0 : 0 ≤ k) (hk : k < keys c 0) {i : Nat} (hi : (i : Int) ≤ c.bt) : aboveV c i k = upK k i ∧ 0 ≤ upK k i ∧ upK k i ≤ k := by
  have h1 : keys c i ≠ 0 := by have := keys_pos.2 ⟨hr, by omega, hi⟩; omega
  have h2 : aboveOk c i k = true := decide_eq_true ⟨h1, hk⟩
  have hp : (0 : Int) < ((2 ^ i : Nat) : Int) := by have := Nat.one_le_two_pow (n := i); omega
  refine ⟨?_, Int.ediv_nonneg k0 (Int.le_of_lt hp), Int.ediv_le_self _ k0⟩
  unfold aboveV upK
  rw [if_pos h2]
  simp
theorem own_cell {w : World} {B : Nat} {e : TypeId} {hdr : Value} {vals : List Value} (h : (ownT B e hdr vals).I w) (hl : 0 < vals.length) : ∃ g cap, hdr = .slice (some ⟨g, 0, none⟩) vals.length cap ∧ vals.length ≤ cap ∧ cap ≤ maxLen ∧ ∀ (j : Nat) (v : Value), vals[j]? = some v → w.cell? ⟨g, j, none⟩ = some v := by
  have h1 : w.ownsRow B e 1 hdr vals.length vals := h
  rcases h1.2 with h0 | ⟨g, cap, cur, rfl, h2, h3, h4, h5, h6⟩
  · have := h0.2
    rw [this] at hl
    simp at hl
  · refine ⟨g, cap, rfl, h4, by assumption, fun j v hj => ?_⟩
    have h7 := h1.cells (g := g) rfl j v hj
    cases j with
    | zero => simpa [Addr.add] using h7
    | succ j => simpa [Addr.add] using h7
/-- A level's Check and Update through the closures. -/
theorem uchk_any (v : Value) (Q : Nat → Prop) (c : Cfg) (l : Int) (st : LS) (k d : Int) (bd : Nat) (w : World) (h : ELV w v Q c l st) (hd : w.cell? ⟨bd, 0, none⟩ = some (.int .i64 d)) (k0 : 0 ≤ k) (k1 : k ≤ 18446744073709551615) (d0 : -9223372036854775808 ≤ d) (d1 : d ≤ 9223372036854775807) :
    Calls Tryz.prog 49 #[v, .int .u64 k, .pointer (some ⟨bd, 0, none⟩)] w fun e w' => e = .returned (.int .i64 (lsCode c l st k d)) ∧ Below w.heap.size w w' := by
  have HE := Lib.hid h
  have K0 := Lib.hid k0
  have K1 := Lib.hid k1
  have D0 := Lib.hid d0
  have D1 := Lib.hid d1
  clear k0 k1 d0 d1 h
  cases st with
  | A L =>
    obtain ⟨p, rfl, h2⟩ := HE.out.2
    have HX := Lib.hid h2
    clear h2
    go_enter Tryz.func49, Tryz.ntmps49
    go_wp2_with (go_at_call 192; (with_reducible refine (echeck_any p Q c l L k d _ HX.out K0.out K1.out D0.out D1.out).mono ?_); rintro e w' ⟨rfl, hb⟩)
    go_ret
    exact ⟨rfl, hb⟩
  | S L =>
    obtain ⟨p, rfl, h2⟩ := HE.out.2
    have HX := Lib.hid h2
    clear h2
    go_enter Tryz.func49, Tryz.ntmps49
    go_wp2_with (go_at_call 206; (with_reducible refine (scheck_any p Q c l L k d _ HX.out K0.out K1.out D0.out D1.out).mono ?_); rintro e w' ⟨rfl, hb⟩)
    go_ret
    exact ⟨rfl, hb⟩
theorem uupd_any (v : Value) (Q : Nat → Prop) (c : Cfg) (l : Int) (st : LS) (k d : Int) (bd : Nat) (w : World) (h : ELV w v Q c l st) (hd : w.cell? ⟨bd, 0, none⟩ = some (.int .i64 d)) (k0 : 0 ≤ k) (k1 : k ≤ 18446744073709551615) (d0 : -9223372036854775808 ≤ d) (d1 : d ≤ 9223372036854775807) :
    Calls Tryz.prog 50 #[v, .int .u64 k, .pointer (some ⟨bd, 0, none⟩)] w fun e w' => e = .returned (.int .i64 (lsCode c l st k d)) ∧ ∃ Q', ELV w' v Q' c l (lsRes c l st k d) ∧ Kept Q w w' ∧ (∀ q, Q' q → Q q ∨ w.heap.size ≤ q) := by
  have HE := Lib.hid h
  have K0 := Lib.hid k0
  have K1 := Lib.hid k1
  have D0 := Lib.hid d0
  have D1 := Lib.hid d1
  clear k0 k1 d0 d1 h
  cases st with
  | A L =>
    obtain ⟨p, rfl, h2⟩ := HE.out.2
    have HX := Lib.hid h2
    clear h2
    go_enter Tryz.func50, Tryz.ntmps50
    go_wp2_with (go_at_call 197; (with_reducible refine (eupd_any p Q c l L k d _ HX.out K0.out K1.out D0.out D1.out).mono ?_); rintro e w' ⟨rfl, Q', h3, h4, h5⟩)
    go_ret
    exact ⟨rfl, Q', ⟨HE.out.1, p, rfl, h3⟩, h4, h5⟩
  | S L =>
    obtain ⟨p, rfl, h2⟩ := HE.out.2
    have HX := Lib.hid h2
    clear h2
    go_enter Tryz.func50, Tryz.ntmps50
    go_wp2_with (go_at_call 211; (with_reducible refine (supd_any p Q c l L k d _ HX.out K0.out K1.out D0.out D1.out).mono ?_); rintro e w' ⟨rfl, Q', h3, h4, h5⟩)
    go_ret
    exact ⟨rfl, Q', ⟨HE.out.1, p, rfl, h3⟩, h4, h5⟩
/-- What the iterator leans on, and the box of what is added. -/
def gsT (bs bk bd b B0 : Nat) (c : Cfg) (k d : Int) (hdr : Value) (vals : List Value) : List Thing := [boxT bk 22 #[.int .u64 k], boxT bs 30 #[.pointer (some ⟨b, 0, none⟩)], boxT bd 2 #[.int .i64 d], boxT b 105 #[.int .i64 c.bt, .int .i64 c.rw, .int .i64 c.wd, .int .i64 c.md, .int .u64 c.sd, hdr], ownT B0 107 hdr vals]
theorem above_seq (m : Nat) (hm : 1 ≤ m) (c : Cfg) (hc : c.Ok) (k d : Int) (k0 : 0 ≤ k) (k1 : k ≤ 18446744073709551615) (bs bk bd b B0 : Nat) (hdr : Value) (vals : List Value) (h1 : 0 < vals.length) (hN : vals.length ≤ 60) (F0 : Nat → Prop) (w0 w : World) (ls : List Thing) (hh : HoldC F0 w0 w (gsT bs bk bd b B0 c k d hdr vals ++ ls)) (w1 : World) (hb : Below w.heap.size w w1) :
    SeqStopsK Fence.wide m Tryz.prog 90 #[.pointer (some ⟨bs, 0, none⟩), .pointer (some ⟨bk, 0, none⟩)] (encL vals c k) (KeptG (manyT (gsT bs bk bd b B0 c k d hdr vals)).F) (fun xs => UpTo xs ∧ xs.length = vals.length) UpTo vals.length w1 := fun l J Jx W hW hJ hJx hY h0 => by
  have hh2 := hh.up (hb.trans (hW.mono hb.size))
  have b1 := hh2.i (t := boxT bs 30 #[.pointer (some ⟨b, 0, none⟩)]) (by simp [gsT])
  have b2 := hh2.i (t := boxT bk 22 #[.int .u64 k]) (by simp [gsT])
  have b3 := hh2.i (t := boxT b 105 #[.int .i64 c.bt, .int .i64 c.rw, .int .i64 c.wd, .int .i64 c.md, .int .u64 c.sd, hdr]) (by simp [gsT])
  have b4 := hh2.i (t := ownT B0 107 hdr vals) (by simp [gsT])
  have hG : ∀ k', (manyT (gsT bs bk bd b B0 c k d hdr vals)).F k' → k' < W.heap.size := fun k' hk => by
    obtain ⟨t, ht, hk2⟩ := hk
    exact t.lt W (hh2.i (List.mem_append_left _ ht)) k' hk2
  obtain ⟨g, cap, rfl, hcap, hmx, hcs⟩ := own_cell b4 h1
  exact above_iter m hm c hc k k0 k1 l bs bk b g cap _ vals hN ⟨boxT bs 30 #[.pointer (some ⟨b, 0, none⟩)], by simp [gsT], rfl⟩ ⟨boxT bk 22 #[.int .u64 k], by simp [gsT], rfl⟩ ⟨boxT b 105 #[.int .i64 c.bt, .int .i64 c.rw, .int .i64 c.wd, .int .i64 c.md, .int .u64 c.sd, .slice (some ⟨g, 0, none⟩) vals.length cap], by simp [gsT], rfl⟩ ⟨ownT B0 107 (.slice (some ⟨g, 0, none⟩) vals.length cap) vals, by simp [gsT], rfl⟩ J Jx W hG hJ hY (box_cell b1 rfl) (box_cell b2 rfl) b3 hcs h0
/-- What the first error of all is in a mode that does not take away. -/
theorem ers_mode {c : Cfg} {k d : Int} {sts : List LS} {w : World} {v : Value} {Q : Nat → Prop} {st : LS} (hr : IsRight c) (k0 : 0 ≤ k) (hk : k < keys c 0) (hm : c.md = 2 ∧ d < 0) (h0 : sts[0]? = some st) (h : ELV w v Q c ((0 : Nat) : Int) st) : ers c k d 0 sts = 3 := by
  have hu : upK k 0 = k := by simp [upK]
  have e1 : lsCode c ((0 : Nat) : Int) st (upK k 0) d = 3 := by
    rw [hu]
    cases st with
    | A L =>
      obtain ⟨p, rfl, h2⟩ := h.2
      have h3 := h2.size.1
      exact (ex_mode (by rw [h3]; exact hk) hm).1
    | S L =>
      show upCode c ((0 : Nat) : Int) L k d = 3
      unfold upCode
      rw [if_neg (by simp; exact hk), if_pos hm.1]
      exact (rs_neg (cols_meet k0 (by simpa using hk)) hm.2).1
  have h2 := ers_first c k d 0 sts 0 st (fun i s hi => by omega) h0 (by rw [Nat.add_zero, e1]; decide)
  rw [h2, Nat.add_zero, e1]
/-- All levels are asked. -/
theorem chk_first (c : Cfg) (hr : IsRight c) (hc : c.Ok) (k d : Int) (k0 : 0 ≤ k) (k1 : k ≤ 18446744073709551615) (hk : k < keys c 0) (d0 : -9223372036854775808 ≤ d) (d1 : d ≤ 9223372036854775807) (sts : List LS) (hl : sts.length = c.bt.toNat + 1) (bd b B0 : Nat) (hdr : Value) (vals : List Value) (ts : List Thing) (hrow : LRow elvT c vals ts sts) (F0 : Nat → Prop) (w0 w : World)
    (hh : HoldC F0 w0 w ([boxT bd 2 #[.int .i64 d], boxT b 105 #[.int .i64 c.bt, .int .i64 c.rw, .int .i64 c.wd, .int .i64 c.md, .int .u64 c.sd, hdr], ownT B0 107 hdr vals] ++ ts)) :
    Calls Tryz.prog 47 #[.func (.func 90) #[] #[.pointer (some ⟨w.heap.size, 0, none⟩), .pointer (some ⟨w.heap.size + 1, 0, none⟩)], .func (.func 49) #[] #[.pointer (some ⟨bd, 0, none⟩)]] ((w.alloc (.cells #[.pointer (some ⟨b, 0, none⟩)] 30)).alloc (.cells #[.int .u64 k] 22)) fun e w' =>
      e = .returned (.int .i64 (ers c k d 0 sts)) ∧ HoldC F0 w0 w' ([boxT bd 2 #[.int .i64 d], boxT b 105 #[.int .i64 c.bt, .int .i64 c.rw, .int .i64 c.wd, .int .i64 c.md, .int .u64 c.sd, hdr], ownT B0 107 hdr vals] ++ ts) := by
  have hvl : vals.length = sts.length := hrow.lv
  have hb59 := hr.1
  have hb60 := hr.2.1
  have B1 : Below w.heap.size w (w.alloc (.cells #[.pointer (some ⟨b, 0, none⟩)] 30)) := Lw.below_alloc (Below.refl _ _) _
  have B2 := Lw.below_alloc (Below.refl _ (w.alloc (.cells #[.pointer (some ⟨b, 0, none⟩)] 30))) (.cells #[.int .u64 k] 22)
  have N2 : ((w.alloc (.cells #[.pointer (some ⟨b, 0, none⟩)] 30)).alloc (.cells #[.int .u64 k] 22)).heap[w.heap.size + 1]? = some (.cells #[.int .u64 k] 22 (0, 0)) := by
    have := heap_alloc_new (w.alloc (.cells #[.pointer (some ⟨b, 0, none⟩)] 30)) (.cells #[.int .u64 k] 22)
    rw [World.size_alloc] at this
    exact this
  have h1 := hh.push (boxT w.heap.size 30 #[.pointer (some ⟨b, 0, none⟩)]) B1 (heap_alloc_new w _) (fun k hk => Nat.le_of_eq hk.symm) (cel_box (heap_alloc_new w _))
  have h2 := h1.push (boxT (w.heap.size + 1) 22 #[.int .u64 k]) B2 N2 (fun k hk => Nat.le_of_eq (by simp; exact hk.symm)) (cel_box N2)
  refine (first_1 c k vals _ bd F0 w0 _ (gsT w.heap.size (w.heap.size + 1) bd b B0 c k d hdr vals) ts
    (fun pre ls => ls = ts ∧ (UpTo pre → ∀ (i : Nat) (s : LS), i < pre.length → sts[i]? = some s → lsCode c ((0 + i : Nat) : Int) s (upK k (0 + i)) d = 0))
    (fun pre code ls => ls = ts ∧ (UpTo pre → ∃ (j : Nat) (s : LS), sts[j]? = some s ∧ lsCode c ((0 + j : Nat) : Int) s (upK k (0 + j)) d = code ∧ ∀ (i : Nat) (s : LS), i < j → sts[i]? = some s → lsCode c ((0 + i : Nat) : Int) s (upK k (0 + i)) d = 0))
    h2 ⟨rfl, fun _ i s hi => by simp at hi⟩
    (fun w1 m hm hb => above_seq m hm c hc k d k0 k1 w.heap.size (w.heap.size + 1) bd b B0 hdr vals (by omega) (by omega) F0 w0 _ ts h2 w1 hb)
    ?_).mono ?_
  · rintro us pre ls x W hW ⟨rfl, hp⟩ hlen
    have hx := x.2
    obtain ⟨st, v, Q, e1, e2, e3⟩ := hrow.at (j := x.1) (by omega)
    have e4 : vals[x.1]'x.2 = v := by
      have h9 := List.getElem?_eq_getElem x.2
      rw [e2] at h9
      exact (Option.some.inj h9).symm
    have hE : ELV W v Q c (x.1 : Int) st := hW.i (t := elvT v Q c (x.1 : Int) st) (List.mem_append_right _ (List.mem_append_right _ (List.mem_of_getElem? e3)))
    have hd := box_cell (hW.i (t := boxT bd 2 #[.int .i64 d]) (List.mem_append_right _ (List.mem_append_left _ (by simp [gsT])))) (i := 0) rfl
    obtain ⟨u1, u2, u3⟩ := above_up hr k0 hk (i := x.1) (by omega)
    rw [e4, u1]
    refine (uchk_any v Q c (x.1 : Int) st (upK k x.1) d bd W hE hd u2 (by omega) d0 d1).mono ?_
    rintro e W' ⟨rfl, hb⟩
    have hG : ∀ k', (manyT (gsT w.heap.size (w.heap.size + 1) bd b B0 c k d hdr vals)).F k' → k' < W.heap.size := fun k' hk => by
      obtain ⟨t, ht, hk2⟩ := hk
      exact t.lt W (hW.i (List.mem_append_right _ (List.mem_append_left _ ht))) k' hk2
    refine ⟨_, ls, rfl, others_of (F := fun _ => False) (Kept.of_below hb) (fun _ h => h.elim), KeptG.of_below hG hb, hW.up hb, fun hz => ⟨rfl, fun hup => ?_⟩, fun hz => ⟨rfl, fun hup => ?_⟩⟩
    · obtain ⟨g1, g2⟩ := UpTo.snoc.1 hup
      intro i s hi hs
      rw [List.length_append, List.length_singleton] at hi
      by_cases hlt : i < pre.length
      · exact hp g1 i s hlt hs
      · obtain rfl : i = x.1 := by omega
        rw [e1] at hs
        injection hs with hs
        subst hs
        rw [Nat.zero_add]
        exact hz
    · obtain ⟨g1, g2⟩ := UpTo.snoc.1 hup
      refine ⟨x.1, st, e1, by rw [Nat.zero_add], fun i s hi hs => hp g1 i s (by omega) hs⟩
  · rintro e W' ⟨ls, hW, (⟨rfl, xs, ⟨x1, x2⟩, rfl, hp⟩ | ⟨pre, code, hup, hne, rfl, rfl, hp⟩)⟩
    · refine ⟨?_, hW.drop.drop⟩
      rw [ers_none c k d 0 sts (fun i s hs => hp x1 i s (by have := (List.getElem?_eq_some_iff.1 hs).1; omega) hs)]
    · obtain ⟨j, s, s1, s2, s3⟩ := hp hup
      refine ⟨?_, hW.drop.drop⟩
      rw [ers_first c k d 0 sts j s s3 s1 (by rw [s2]; exact hne), s2]
/-- All levels are updated. -/
theorem upd_first (c : Cfg) (hr : IsRight c) (hc : c.Ok) (k d : Int) (k0 : 0 ≤ k) (k1 : k ≤ 18446744073709551615) (hk : k < keys c 0) (d0 : -9223372036854775808 ≤ d) (d1 : d ≤ 9223372036854775807) (sts : List LS) (hl : sts.length = c.bt.toNat + 1) (he : ers c k d 0 sts = 0) (bd b B0 : Nat) (hdr : Value) (vals : List Value) (ts : List Thing) (hrow : LRow elvT c vals ts sts) (F0 : Nat → Prop) (w0 w : World)
    (hh : HoldC F0 w0 w ([boxT bd 2 #[.int .i64 d], boxT b 105 #[.int .i64 c.bt, .int .i64 c.rw, .int .i64 c.wd, .int .i64 c.md, .int .u64 c.sd, hdr], ownT B0 107 hdr vals] ++ ts)) :
    Calls Tryz.prog 47 #[.func (.func 90) #[] #[.pointer (some ⟨w.heap.size, 0, none⟩), .pointer (some ⟨w.heap.size + 1, 0, none⟩)], .func (.func 50) #[] #[.pointer (some ⟨bd, 0, none⟩)]] ((w.alloc (.cells #[.pointer (some ⟨b, 0, none⟩)] 30)).alloc (.cells #[.int .u64 k] 22)) fun e w' =>
      e = .returned (.int .i64 0) ∧ ∃ ts', LRow elvT c vals ts' (rss c k d 0 sts) ∧ HoldC F0 w0 w' ([boxT bd 2 #[.int .i64 d], boxT b 105 #[.int .i64 c.bt, .int .i64 c.rw, .int .i64 c.wd, .int .i64 c.md, .int .u64 c.sd, hdr], ownT B0 107 hdr vals] ++ ts') := by
  have hvl : vals.length = sts.length := hrow.lv
  have hb59 := hr.1
  have hb60 := hr.2.1
  have B1 : Below w.heap.size w (w.alloc (.cells #[.pointer (some ⟨b, 0, none⟩)] 30)) := Lw.below_alloc (Below.refl _ _) _
  have B2 := Lw.below_alloc (Below.refl _ (w.alloc (.cells #[.pointer (some ⟨b, 0, none⟩)] 30))) (.cells #[.int .u64 k] 22)
  have N2 : ((w.alloc (.cells #[.pointer (some ⟨b, 0, none⟩)] 30)).alloc (.cells #[.int .u64 k] 22)).heap[w.heap.size + 1]? = some (.cells #[.int .u64 k] 22 (0, 0)) := by
    have := heap_alloc_new (w.alloc (.cells #[.pointer (some ⟨b, 0, none⟩)] 30)) (.cells #[.int .u64 k] 22)
    rw [World.size_alloc] at this
    exact this
  have h1 := hh.push (boxT w.heap.size 30 #[.pointer (some ⟨b, 0, none⟩)]) B1 (heap_alloc_new w _) (fun k hk => Nat.le_of_eq hk.symm) (cel_box (heap_alloc_new w _))
  have h2 := h1.push (boxT (w.heap.size + 1) 22 #[.int .u64 k]) B2 N2 (fun k hk => Nat.le_of_eq (by simp; exact hk.symm)) (cel_box N2)
  refine (first_2 c k vals _ bd F0 w0 _ (gsT w.heap.size (w.heap.size + 1) bd b B0 c k d hdr vals) ts
    (fun pre ls => ∃ sts', LRow elvT c vals ls sts' ∧ sts'.length = sts.length ∧ (UpTo pre → ∀ (i : Nat), sts'[i]? = if i < pre.length then (rss c k d 0 sts)[i]? else sts[i]?))
    (fun pre code ls => UpTo pre → False)
    h2 ⟨sts, hrow, rfl, fun _ i => by simp⟩
    (fun w1 m hm hb => above_seq m hm c hc k d k0 k1 w.heap.size (w.heap.size + 1) bd b B0 hdr vals (by omega) (by omega) F0 w0 _ ts h2 w1 hb)
    ?_).mono ?_
  · rintro us pre ls x W hW ⟨sts', hrow', hl', hp⟩ hlen
    have hx := x.2
    obtain ⟨st, v, Q, e1, e2, e3⟩ := hrow'.at (j := x.1) (by omega)
    have e4 : vals[x.1]'x.2 = v := by
      have h9 := List.getElem?_eq_getElem x.2
      rw [e2] at h9
      exact (Option.some.inj h9).symm
    have hm3 : elvT v Q c (x.1 : Int) st ∈ ls := List.mem_of_getElem? e3
    have hE : ELV W v Q c (x.1 : Int) st := hW.i (t := elvT v Q c (x.1 : Int) st) (List.mem_append_right _ (List.mem_append_right _ hm3))
    have hd := box_cell (hW.i (t := boxT bd 2 #[.int .i64 d]) (List.mem_append_right _ (List.mem_append_left _ (by simp [gsT])))) (i := 0) rfl
    obtain ⟨u1, u2, u3⟩ := above_up hr k0 hk (i := x.1) (by omega)
    rw [e4, u1]
    refine (uupd_any v Q c (x.1 : Int) st (upK k x.1) d bd W hE hd u2 (by omega) d0 d1).mono ?_
    rintro e W' ⟨rfl, Q', hE', hk', hq'⟩
    have hG : ∀ k', (manyT (gsT w.heap.size (w.heap.size + 1) bd b B0 c k d hdr vals)).F k' → k' < W.heap.size := fun k' hk => by
      obtain ⟨t, ht, hk2⟩ := hk
      exact t.lt W (hW.i (List.mem_append_right _ (List.mem_append_left _ ht))) k' hk2
    have hW2 : HoldC F0 w0 W ((us ++ gsT w.heap.size (w.heap.size + 1) bd b B0 c k d hdr vals) ++ (ls ++ [])) := by simpa using hW
    have hW3 := hW2.set e3 (elvT v Q' c (x.1 : Int) (lsRes c (x.1 : Int) st (upK k x.1) d)) hE' hk' hq' (cel_elv hE')
    have hW4 : HoldC F0 w0 W' (us ++ (gsT w.heap.size (w.heap.size + 1) bd b B0 c k d hdr vals ++ ls.set x.1 (elvT v Q' c (x.1 : Int) (lsRes c (x.1 : Int) st (upK k x.1) d)))) := by simpa using hW3
    have hst : UpTo (pre ++ [x]) → sts[x.1]? = some st ∧ x.1 = pre.length ∧ UpTo pre := fun hup => by
      obtain ⟨g1, g2⟩ := UpTo.snoc.1 hup
      have g3 := hp g1 x.1
      rw [if_neg (by omega), e1] at g3
      exact ⟨g3.symm, g2, g1⟩
    refine ⟨_, _, rfl, others_of hk' (cel_elv hE), KeptG.of_kept hG hk' (fun k' ⟨t, ht, h5⟩ => hW.apart hm3 ht h5), hW4, fun hz => ⟨sts'.set x.1 (lsRes c (x.1 : Int) st (upK k x.1) d), hrow'.put e2 Q' _, by simp [hl'], fun hup i => ?_⟩, fun hz hup => ?_⟩
    · obtain ⟨s1, s2, s3⟩ := hst hup
      rw [List.length_append, List.length_singleton, List.getElem?_set]
      by_cases hi : x.1 = i
      · subst hi
        have hlt : x.1 < sts'.length := by omega
        rw [if_pos rfl, if_pos hlt, if_pos (by omega), rss_get c k d 0 sts x.1 st s1, Nat.zero_add]
      · rw [if_neg hi, hp s3 i]
        by_cases hi2 : i < pre.length
        · rw [if_pos hi2, if_pos (by omega)]
        · rw [if_neg hi2, if_neg (by omega)]
    · obtain ⟨s1, s2, s3⟩ := hst hup
      have h9 := ers_ok c k d 0 sts he x.1 st s1
      rw [Nat.zero_add] at h9
      exact hz h9
  · rintro e W' ⟨ls, hW, (⟨rfl, xs, ⟨x1, x2⟩, sts', hrow', hl', hp⟩ | ⟨pre, code, hup, hne, rfl, hp⟩)⟩
    · refine ⟨rfl, ls, ?_, hW.drop.drop⟩
      have e9 : sts' = rss c k d 0 sts := List.ext_getElem? (fun i => by
        rw [hp x1 i]
        by_cases hi : i < xs.length
        · rw [if_pos hi]
        · rw [if_neg hi, List.getElem?_eq_none (by omega), List.getElem?_eq_none (by rw [rss_len]; omega)])
      rw [← e9]
      exact hrow'
    · exact (hp hup).elim
end Go.Proofs.YtkflggojiiebeaaGreat.Stk

namespace Go.Proofs.YtkflggojiiebeaaGreat.Stk
open Go Go.RowKit Lw Grd Lin Con Shp Sk Exa Lev Go.Shelf
set_option linter.unusedVariables false
set_option linter.unusedSimpArgs false
theorem lvs_u : Tryz.prog.underlying 103 = some (.slice 107) := by kernel_rfl
theorem lvs_info : (Tryz.prog.info? 107).map (fun i => (i.zero, i.size, i.bytes)) = some (some .nilIface, 1, 16) := by kernel_rfl
theorem Asun.sub {ts us : List Thing} (h : ts.Sublist us) : Asun us → Asun ts := by
  induction h with
  | slnil => exact id
  | cons a h ih => exact fun g => ih g.2
  | cons_cons a h ih => exact fun g => ⟨fun u hu => g.1 u (h.subset hu), ih g.2⟩
theorem HoldC.sub {F0 : Nat → Prop} {w0 w : World} {ts us : List Thing} (h : HoldC F0 w0 w us) (hs : ts.Sublist us) : HoldC F0 w0 w ts :=
  ⟨⟨h.1.1, fun t ht => h.1.2.1 t (hs.subset ht), Asun.sub hs h.1.2.2⟩, fun t ht => h.2 t (hs.subset ht)⟩
theorem HoldC.start0 {w w' : World} (h : Below w.heap.size w w') : HoldC (fun _ => False) w w' [] := ⟨⟨Kept.of_below h, fun t ht => by simp at ht, trivial⟩, fun t ht => by simp at ht⟩
/-- A new thing behind the others. -/
theorem HoldC.snoc {F0 : Nat → Prop} {w0 w w' : World} {ts : List Thing} (h : HoldC F0 w0 w ts) (t : Thing) (hb : Below w.heap.size w w') (ht : t.I w') (hn : ∀ k, t.F k → w.heap.size ≤ k) (hc : Cel t.F w') : HoldC F0 w0 w' (ts ++ [t]) := by
  have h2 := h.push t hb ht hn hc
  refine ⟨⟨h2.1.1, fun u hu => h2.1.2.1 u (by simpa [or_comm] using hu), Asun.append.2 ⟨h2.1.2.2.2, ⟨fun u hu => by simp at hu, trivial⟩, fun u hu v hv k h3 h4 => ?_⟩⟩, fun u hu => h2.2 u (by simpa [or_comm] using hu)⟩
  rw [List.mem_singleton.1 hv] at h4
  exact h2.1.2.2.1 u hu k h4 h3
/-- One value appended to a row of one's own. -/
theorem HoldC.app {F0 : Nat → Prop} {w0 w w' : World} {fs ts : List Thing} {B : Nat} {e : TypeId} {hdr : Value} {vals : List Value} {v : Value} {g cap : Nat} (h : HoldC F0 w0 w (fs ++ ownT B e hdr vals :: ts)) (own : w'.ownsRow B e 1 (.slice (some ⟨g, 0, none⟩) (vals.length + 1) cap) (vals.length + 1) (vals ++ [v])) (grow : w.grownBy w' hdr.ownBlock) (hat : hdr.ownBlock = some g ∨ g = w.heap.size) :
    HoldC F0 w0 w' (fs ++ ownT B e (.slice (some ⟨g, 0, none⟩) (vals.length + 1) cap) (vals ++ [v]) :: ts) := by
  have hI : (ownT B e (.slice (some ⟨g, 0, none⟩) (vals.length + 1) cap) (vals ++ [v])).I w' := by
    show w'.ownsRow B e 1 _ (vals ++ [v]).length (vals ++ [v])
    rw [List.length_append, List.length_singleton]
    exact own
  refine h.turn _ hI ((Kept.refl _ w).grown grow (fun q e => .inl e)) (fun k hk => ?_) (cel_own hI)
  have hk2 : some g = some k := hk
  injection hk2 with hk2
  rcases hat with h1 | h1
  · exact .inl (show hdr.ownBlock = some k by rw [h1, hk2])
  · exact .inr (by omega)
theorem elv_form {w : World} {v : Value} {F : Nat → Prop} {c : Cfg} {l : Int} {st : LS} (h : ELV w v F c l st) : ∃ t p, v = .iface t (.pointer (some p)) := by
  cases st with
  | A L =>
    obtain ⟨p, rfl, h2⟩ := h.2
    exact ⟨_, _, rfl⟩
  | S L =>
    obtain ⟨p, rfl, h2⟩ := h.2
    exact ⟨_, _, rfl⟩
theorem own_nil (B : Nat) (e : TypeId) (w : World) : (ownT B e (.slice none 0 0) []).I w := World.ownsRow_nil _ _ _ _
theorem own_nilF (B : Nat) (e : TypeId) {k m : Nat} (h : (ownT B e (.slice none 0 0) []).F k) : m ≤ k := by
  have h2 : (none : Option Nat) = some k := h
  cases h2
/-- A stack of the code, as a box. -/
abbrev skB (b : Nat) (c : Cfg) (hdr : Value) : Thing := boxT b 105 #[.int .i64 c.bt, .int .i64 c.rw, .int .i64 c.wd, .int .i64 c.md, .int .u64 c.sd, hdr]
theorem skb_set {w : World} {b : Nat} {c : Cfg} {hdr hdr' : Value} (h : (skB b c hdr).I w) : (skB b c hdr').I (w.setCell ⟨b, 5, none⟩ hdr') := by
  have h2 : w.heap[b]? = some (.cells #[.int .i64 c.bt, .int .i64 c.rw, .int .i64 c.wd, .int .i64 c.md, .int .u64 c.sd, hdr] 105 (0, 0)) := h
  obtain ⟨hlt, hk⟩ := Array.getElem?_eq_some_iff.1 h2
  show (w.heap.modify b _)[b]? = _
  rw [Array.getElem?_eq_getElem (by rw [Array.size_modify]; exact hlt), Array.getElem_modify_self, hk]
  rfl
theorem HoldC.store {F0 : Nat → Prop} {w0 w : World} {fs ts : List Thing} {b : Nat} {c : Cfg} {hdr : Value} (h : HoldC F0 w0 w (fs ++ skB b c hdr :: ts)) (hdr' : Value) : HoldC F0 w0 (w.setCell ⟨b, 5, none⟩ hdr') (fs ++ skB b c hdr' :: ts) := by
  have hb := skb_set (hdr' := hdr') (h.i (t := skB b c hdr) (by simp))
  exact h.turn (skB b c hdr') hb (Kept.set (F := (skB b c hdr).F) (Kept.refl _ _) (.inl rfl) 5 hdr') (fun k hk => .inl hk) (cel_box hb)
/-- The stack, as things that hold cells. -/
theorem st_hold {w : World} {b B0 : Nat} {c : Cfg} {hdr : Value} {vals : List Value} {ts : List Thing} {sts : List LS} (hrow : LRow elvT c vals ts sts) (h : (manyT (skB b c hdr :: ownT B0 107 hdr vals :: ts)).I w) : HoldC (manyT (skB b c hdr :: ownT B0 107 hdr vals :: ts)).F w w (skB b c hdr :: ownT B0 107 hdr vals :: ts) := by
  refine ⟨Hold.start h, fun t ht => ?_⟩
  rcases List.mem_cons.1 ht with rfl | ht2
  · exact cel_box (h.1 _ (by simp))
  · rcases List.mem_cons.1 ht2 with rfl | ht3
    · exact cel_own (h.1 _ (by simp))
    · obtain ⟨j, hj⟩ := List.getElem?_of_mem ht3
      have hlt := (List.getElem?_eq_some_iff.1 hj).1
      obtain ⟨st, v, Q, e1, e2, e3⟩ := hrow.at (j := j) (by rw [← hrow.lt]; exact hlt)
      rw [hj] at e3
      injection e3 with e3
      subst e3
      exact cel_elv (show ELV w v Q c (j : Int) st from h.1 _ ht)
/-- A stack that is held. -/
theorem st_of {F0 : Nat → Prop} {w0 w : World} {b B0 : Nat} {c : Cfg} {hdr : Value} {vals : List Value} {ts : List Thing} {sts : List LS} (hr : IsRight c) (hc : c.Ok) (hl : sts.length = c.bt.toNat + 1) (hrow : LRow elvT c vals ts sts) (h : HoldC F0 w0 w (skB b c hdr :: ownT B0 107 hdr vals :: ts)) :
    ST w ⟨b, 0, none⟩ (manyT (skB b c hdr :: ownT B0 107 hdr vals :: ts)).F c sts ∧ Kept F0 w0 w ∧ ∀ q, (manyT (skB b c hdr :: ownT B0 107 hdr vals :: ts)).F q → F0 q ∨ w0.heap.size ≤ q := by
  have h2 := h.1.many
  exact ⟨⟨hr, hc, hl, b, B0, hdr, vals, ts, rfl, hrow, h2.1, rfl⟩, h2.2.1, h2.2.2⟩
end Go.Proofs.YtkflggojiiebeaaGreat.Stk

