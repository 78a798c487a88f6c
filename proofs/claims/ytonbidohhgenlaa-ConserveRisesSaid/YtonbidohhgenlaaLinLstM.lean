/- What columns have of their own, and what others add in a row: in numbers. -/
import Derived.Test.YtonbidohhgenlaaLinPlay
namespace Go.Proofs.Ytonbidohhgenlaa.Lin
open Go Go.RowKit Lw Grd
set_option linter.unusedVariables false
def own (cols : List Int) : Ops → Int
  | [] => 0
  | o :: ops => (if o.1 = cols then o.2 else 0) + own cols ops
def oth (cols : List Int) (r : Nat) : Ops → Int
  | [] => 0
  | o :: ops => (if o.1 = cols then 0 else if o.1[r]? = cols[r]? then o.2 else 0) + oth cols r ops
theorem own_app (cols : List Int) : ∀ a b : Ops, own cols (a ++ b) = own cols a + own cols b
  | [], b => by simp [own]
  | o :: a, b => by
    simp only [List.cons_append, own, own_app cols a b]
    omega
theorem oth_app (cols : List Int) (r : Nat) : ∀ a b : Ops, oth cols r (a ++ b) = oth cols r a + oth cols r b
  | [], b => by simp [oth]
  | o :: a, b => by
    simp only [List.cons_append, oth, oth_app cols r a b]
    omega
theorem hit_own {cols : List Int} {r c : Nat} (hc : cols[r]? = some (c : Int)) : ∀ ops : Ops, hit ops r c = own cols ops + oth cols r ops
  | [] => by simp [hit, own, oth]
  | o :: ops => by
    have ih := hit_own hc ops
    simp only [hit, own, oth, ih, ← hc]
    by_cases h1 : o.1 = cols
    · rw [if_pos h1, if_pos h1, h1, if_pos rfl]
      omega
    · rw [if_neg h1, if_neg h1]
      omega
theorem own_next {cols : List Int} {ops : Ops} {k : Nat} {o : List Int × Int} (h : ops[k]? = some o) : own cols (ops.take (k + 1)) = own cols (ops.take k) + (if o.1 = cols then o.2 else 0) := by
  obtain ⟨h1, h2⟩ := List.getElem?_eq_some_iff.1 h
  rw [List.take_succ_eq_append_getElem h1, own_app, h2]
  simp [own]
theorem oth_next {cols : List Int} {r : Nat} {ops : Ops} {k : Nat} {o : List Int × Int} (h : ops[k]? = some o) : oth cols r (ops.take (k + 1)) = oth cols r (ops.take k) + (if o.1 = cols then 0 else if o.1[r]? = cols[r]? then o.2 else 0) := by
  obtain ⟨h1, h2⟩ := List.getElem?_eq_some_iff.1 h
  rw [List.take_succ_eq_append_getElem h1, oth_app, h2]
  simp [oth]
def Plus (b : Int) (ops : Ops) : Prop := ∀ o ∈ ops, 0 ≤ o.2 ∧ o.2 ≤ b
theorem own_bd {cols : List Int} {b : Int} : ∀ {ops : Ops}, Plus b ops → 0 ≤ own cols ops ∧ own cols ops ≤ ops.length * b
  | [], _ => by simp [own]
  | o :: ops, h => by
    have ih := own_bd (cols := cols) (ops := ops) (fun p hp => h p (by simp [hp]))
    have h1 := h o (by simp)
    have e1 : ((o :: ops).length : Int) * b = (ops.length : Int) * b + b := by
      have e1 : ((o :: ops).length : Int) = (ops.length : Int) + 1 := by simp
      rw [e1, Int.add_mul, Int.one_mul]
    rw [e1]
    simp only [own]
    split <;> omega
theorem oth_bd {cols : List Int} {r : Nat} {b : Int} : ∀ {ops : Ops}, Plus b ops → 0 ≤ oth cols r ops ∧ oth cols r ops ≤ ops.length * b
  | [], _ => by simp [oth]
  | o :: ops, h => by
    have ih := oth_bd (cols := cols) (r := r) (ops := ops) (fun p hp => h p (by simp [hp]))
    have h1 := h o (by simp)
    have e1 : ((o :: ops).length : Int) * b = (ops.length : Int) * b + b := by
      have e1 : ((o :: ops).length : Int) = (ops.length : Int) + 1 := by simp
      rw [e1, Int.add_mul, Int.one_mul]
    rw [e1]
    simp only [oth]
    split
    · omega
    · split <;> omega
/-- What others have in each row, behind the first k; the first r rows already behind one more. -/
def othR (cols : List Int) (m : Nat) (ops : Ops) (k r : Nat) : List Int := (List.range m).map (fun i => if i < r then oth cols i (ops.take (k + 1)) else oth cols i (ops.take k))
theorem othR_len (cols : List Int) (m : Nat) (ops : Ops) (k r : Nat) : (othR cols m ops k r).length = m := by simp [othR]
theorem othR_zero (cols : List Int) (m : Nat) (ops : Ops) : othR cols m ops 0 0 = List.replicate m 0 := by
  unfold othR
  apply List.ext_getElem (by simp)
  intro i h1 h2
  simp [oth]
theorem othR_turn (cols : List Int) (m : Nat) (ops : Ops) (k : Nat) : othR cols m ops k m = othR cols m ops (k + 1) 0 := by
  unfold othR
  apply List.map_congr_left
  intro i hi
  rw [if_pos (List.mem_range.1 hi), if_neg (by omega)]
theorem othR_get (cols : List Int) {m : Nat} (ops : Ops) (k : Nat) {r : Nat} (hr : r < m) : (othR cols m ops k r)[r]? = some (oth cols r (ops.take k)) := by
  unfold othR
  rw [List.getElem?_map, List.getElem?_range hr]
  simp
theorem othR_yes {cols : List Int} {m : Nat} {ops : Ops} {k r : Nat} {o : List Int × Int} (hr : r < m) (h : ops[k]? = some o) (h1 : ¬ o.1 = cols) (h2 : o.1[r]? = cols[r]?) : (othR cols m ops k r).set r (oth cols r (ops.take k) + o.2) = othR cols m ops k (r + 1) := by
  have e := oth_next (cols := cols) (r := r) h
  rw [if_neg h1, if_pos h2] at e
  unfold othR
  apply List.ext_getElem (by simp)
  intro i g1 g2
  rw [List.getElem_set]
  by_cases hi : r = i
  · subst hi
    simp [e]
  · rw [if_neg hi]
    simp only [List.getElem_map, List.getElem_range]
    by_cases h3 : i < r
    · rw [if_pos h3, if_pos (by omega)]
    · rw [if_neg h3, if_neg (by omega)]
theorem othR_no {cols : List Int} {m : Nat} {ops : Ops} {k r : Nat} {o : List Int × Int} (h : ops[k]? = some o) (h2 : ¬ o.1[r]? = cols[r]?) : othR cols m ops k r = othR cols m ops k (r + 1) := by
  have h1 : ¬ o.1 = cols := fun e => h2 (by rw [e])
  have e := oth_next (cols := cols) (r := r) h
  rw [if_neg h1, if_neg h2] at e
  unfold othR
  apply List.map_congr_left
  intro i hi
  by_cases h3 : i < r
  · rw [if_pos h3, if_pos (by omega)]
  · rw [if_neg h3]
    by_cases h4 : i = r
    · subst h4
      rw [if_pos (by omega), e]
      omega
    · rw [if_neg (by omega)]
theorem othR_same {cols : List Int} {m : Nat} {ops : Ops} {k : Nat} {o : List Int × Int} (h : ops[k]? = some o) (h1 : o.1 = cols) : othR cols m ops k 0 = othR cols m ops (k + 1) 0 := by
  unfold othR
  apply List.map_congr_left
  intro i hi
  have e := oth_next (cols := cols) (r := i) h
  rw [if_pos h1] at e
  rw [if_neg (by omega), if_neg (by omega), e]
  omega
theorem othR_nn {cols : List Int} {m : Nat} {ops : Ops} {b : Int} (hp : Plus b ops) (k r : Nat) : ∀ v ∈ othR cols m ops k r, 0 ≤ v := by
  intro v hv
  unfold othR at hv
  obtain ⟨i, _, rfl⟩ := List.mem_map.1 hv
  split
  · exact (oth_bd (fun o ho => hp o (List.mem_of_mem_take ho))).1
  · exact (oth_bd (fun o ho => hp o (List.mem_of_mem_take ho))).1
/-- The least cell that columns name is what they have of their own, and the least of what others have in a row. -/
theorem least_is {m n : Nat} {cols : List Int} {ops : Ops} {b x : Int} (hok : OpsOk m n b ops) (hm : Meets m n cols) {K : Nat} (hK : ops.length = K) (hx : x ∈ othR cols m ops K 0) (hl : ∀ v ∈ othR cols m ops K 0, x ≤ v) :
    Ord.kv (named (chAll (zerosL m n) ops) cols) 0 = own cols ops + x := by
  have hsz := chAll_sz (sz_zeros m n) hok
  have hlen := named_len (L := chAll (zerosL m n) ops) (cols := cols) (by rw [hm.2.1, hsz.1])
  rw [hsz.1] at hlen
  have hget : ∀ r, r < m → (named (chAll (zerosL m n) ops) cols)[r]? = some (own cols ops + oth cols r ops) := by
    intro r hr
    obtain ⟨v, hv, hvn⟩ := meets_get hm hr
    rw [named_cel hsz hm hr hv, chAll_cel hr hvn (sz_zeros m n) hok, cel_zeros, hit_own hv]
    congr 1
    omega
  have htk : ops.take K = ops := List.take_of_length_le (by omega)
  have hmem : ∀ v, v ∈ othR cols m ops K 0 ↔ ∃ r, r < m ∧ v = oth cols r ops := by
    intro v
    unfold othR
    rw [List.mem_map]
    constructor
    · rintro ⟨r, hr, rfl⟩
      exact ⟨r, List.mem_range.1 hr, by rw [if_neg (by omega), htk]⟩
    · rintro ⟨r, hr, rfl⟩
      exact ⟨r, List.mem_range.2 hr, by rw [if_neg (by omega), htk]⟩
  have hm1 := hm.1
  rw [(Ord.kv_yes (k := 0) (by omega) (by rw [hlen]; omega)).1]
  refine (Ord.least_eq _ _ ?_ ?_).symm
  · obtain ⟨r, hr, rfl⟩ := (hmem x).1 hx
    exact List.mem_of_getElem? (hget r hr)
  · intro y hy
    obtain ⟨r, hr, e⟩ := List.mem_iff_getElem.1 hy
    have e2 := hget r (by omega)
    rw [List.getElem?_eq_getElem hr, e] at e2
    injection e2 with e2
    have := hl (oth cols r ops) ((hmem _).2 ⟨r, by omega, rfl⟩)
    omega
end Go.Proofs.Ytonbidohhgenlaa.Lin
