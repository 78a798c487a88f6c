/- Many changes of cells, in numbers: each cell is the sum of what was added by columns that name it. -/
import Derived.Test.YtonbidohhgenlaaLinDef
import Derived.Test.YtonbidohhgenlaaLinChg
import Derived.Test.YtonbidohhgenlaaOrdMath
namespace Go.Proofs.Ytonbidohhgenlaa.Lin
open Go Go.RowKit Lw Grd
set_option linter.unusedVariables false
def Sz (m n : Nat) (L : List (List Int)) : Prop := L.length = m ∧ ∀ r ∈ L, r.length = n
def Within (b : Int) (L : List (List Int)) : Prop := ∀ r ∈ L, ∀ v ∈ r, -b ≤ v ∧ v ≤ b
/-- A number of a grid; 0 where there is none. -/
def cel (L : List (List Int)) (r c : Nat) : Int := ((L[r]?.getD [])[c]?).getD 0
theorem at2_cel (L : List (List Int)) (r c : Nat) : at2 L (r : Int) (c : Int) = cel L r c := by
  unfold at2 cel
  rw [if_neg (by omega)]
  simp
theorem sz_dims {m n : Nat} {L : List (List Int)} (h : Dims m n L) : Sz m n L := ⟨h.len, fun r hr => (h.rows r hr).1⟩
theorem dims_of {m n : Nat} {L : List (List Int)} {b : Int} (h : Sz m n L) (hw : Within b L) (hb : b ≤ 9223372036854775807) (m8 : m ≤ 8) (n128 : n ≤ 128) : Dims m n L :=
  ⟨h.1, m8, n128, fun r hr => ⟨h.2 r hr, fun v hv => by have := hw r hr v hv; omega⟩⟩
theorem within_mono {b c : Int} {L : List (List Int)} (h : Within b L) (hbc : b ≤ c) : Within c L := fun r hr v hv => by have := h r hr v hv; omega
theorem sz_zeros (m n : Nat) : Sz m n (zerosL m n) := ⟨by simp [zerosL], fun r hr => by rw [(List.mem_replicate.1 hr).2]; simp⟩
theorem within_zeros (m n : Nat) : Within 0 (zerosL m n) := fun r hr v hv => by
  rw [(List.mem_replicate.1 hr).2] at hv
  rw [(List.mem_replicate.1 hv).2]
  omega
theorem sz_changed {m n : Nat} {L : List (List Int)} {cols : List Int} (h : Sz m n L) (hc : cols.length = m) (d : Int) : Sz m n (changed L cols d) := by
  refine ⟨by unfold changed; rw [List.length_zipWith, h.1, hc]; omega, fun r hr => ?_⟩
  obtain ⟨a, ha, b, hb, rfl⟩ := mem_zip hr
  rw [List.length_set]
  exact h.2 a ha
theorem getD_within {b : Int} {r : List Int} (h : ∀ v ∈ r, -b ≤ v ∧ v ≤ b) (hb : 0 ≤ b) (k : Nat) : -b ≤ r[k]?.getD 0 ∧ r[k]?.getD 0 ≤ b := by
  cases hv : r[k]? with
  | none => simp; omega
  | some v => simpa using h v (List.mem_of_getElem? hv)
theorem within_changed {b c : Int} {L : List (List Int)} {cols : List Int} {d : Int} (h : Within b L) (hb : 0 ≤ b) (hd : -c ≤ d ∧ d ≤ c) : Within (b + c) (changed L cols d) := by
  intro r hr v hv
  obtain ⟨a, ha, k, hk, rfl⟩ := mem_zip hr
  rcases List.mem_or_eq_of_mem_set hv with h1 | h1
  · have := h a ha v h1; omega
  · have := getD_within (h a ha) hb k.toNat; omega
theorem fits_within {b c : Int} {L : List (List Int)} {cols : List Int} {d : Int} (h : Within b L) (hb : 0 ≤ b) (hd : -c ≤ d ∧ d ≤ c) (hbc : b + c ≤ 9223372036854775807) : chFits L cols d = true := by
  unfold chFits
  refine List.all_eq_true.2 fun x hx => ?_
  obtain ⟨a, ha, k, hk, rfl⟩ := mem_zip hx
  have := getD_within (h a ha) hb k.toNat
  exact (Wid.fit64_yes (by omega) (by omega)).1
theorem ch_ok {m n : Nat} {L : List (List Int)} {cols : List Int} {d : Int} (hm : Meets m n cols) (hf : chFits L cols d = true) : chCode m n L cols d = 0 ∧ chRes m n L cols d = changed L cols d := by
  unfold chCode chRes
  rw [if_pos hm, if_pos hf, if_pos ⟨hm, hf⟩]
  exact ⟨rfl, rfl⟩
theorem meets_get {m n : Nat} {cols : List Int} (h : Meets m n cols) {r : Nat} (hr : r < m) : ∃ v : Nat, cols[r]? = some (v : Int) ∧ v < n := by
  have hl : r < cols.length := by rw [h.2.1]; exact hr
  have hm := h.2.2 _ (List.getElem_mem hl)
  refine ⟨cols[r].toNat, ?_, by omega⟩
  rw [List.getElem?_eq_getElem hl]
  congr 1
  omega
theorem cel_changed {m n : Nat} {L : List (List Int)} {cols : List Int} (h : Sz m n L) (hc : Meets m n cols) (d : Int) {r c : Nat} (hr : r < m) (hcn : c < n) : cel (changed L cols d) r c = cel L r c + (if cols[r]? = some (c : Int) then d else 0) := by
  have hl : r < L.length := by rw [h.1]; exact hr
  obtain ⟨v, hv, hvn⟩ := meets_get hc hr
  have hrow := h.2 _ (List.getElem_mem hl)
  unfold cel changed
  rw [List.getElem?_zipWith, List.getElem?_eq_getElem hl, hv]
  simp only [Option.getD_some, Int.toNat_natCast]
  by_cases e : v = c
  · subst e
    rw [if_pos rfl, List.getElem?_set_self (by omega)]
    rfl
  · rw [if_neg (by simp; omega), List.getElem?_set_ne e]
    omega
abbrev Ops := List (List Int × Int)
def chAll (L : List (List Int)) (ops : Ops) : List (List Int) := ops.foldl (fun L o => changed L o.1 o.2) L
/-- All of them meet, and none adds more than c. -/
def OpsOk (m n : Nat) (c : Int) (ops : Ops) : Prop := ∀ o ∈ ops, Meets m n o.1 ∧ -c ≤ o.2 ∧ o.2 ≤ c
theorem opsok_take {m n : Nat} {c : Int} {ops : Ops} (h : OpsOk m n c ops) (k : Nat) : OpsOk m n c (ops.take k) := fun o ho => h o (List.mem_of_mem_take ho)
theorem chAll_next (L : List (List Int)) (ops : Ops) (k : Nat) (o : List Int × Int) (h : ops[k]? = some o) : chAll L (ops.take (k + 1)) = changed (chAll L (ops.take k)) o.1 o.2 := by
  obtain ⟨h1, h2⟩ := List.getElem?_eq_some_iff.1 h
  unfold chAll
  rw [List.take_succ_eq_append_getElem h1, List.foldl_append, h2]
  rfl
theorem chAll_sz {m n : Nat} {c : Int} : ∀ {ops : Ops} {L : List (List Int)}, Sz m n L → OpsOk m n c ops → Sz m n (chAll L ops)
  | [], L, h, _ => h
  | o :: ops, L, h, g => chAll_sz (ops := ops) (sz_changed h (g o (by simp)).1.2.1 o.2) (fun p hp => g p (by simp [hp]))
theorem chAll_within {m n : Nat} {c : Int} (hc : 0 ≤ c) : ∀ {ops : Ops} {L : List (List Int)} {b : Int}, 0 ≤ b → Within b L → OpsOk m n c ops → Within (b + ops.length * c) (chAll L ops)
  | [], L, b, hb, h, _ => by simpa [chAll] using h
  | o :: ops, L, b, hb, h, g => by
    have ih := chAll_within hc (ops := ops) (L := changed L o.1 o.2) (b := b + c) (by omega) (within_changed h hb (g o (by simp)).2) (fun p hp => g p (by simp [hp]))
    have e : b + c + (ops.length : Int) * c = b + ((o :: ops).length : Int) * c := by
      have e1 : ((o :: ops).length : Int) = (ops.length : Int) + 1 := by simp
      rw [e1, Int.add_mul, Int.one_mul]
      omega
    rw [← e]
    exact ih
/-- What ops add to the cell. -/
def hit : Ops → Nat → Nat → Int
  | [], _, _ => 0
  | o :: ops, r, c => (if o.1[r]? = some (c : Int) then o.2 else 0) + hit ops r c
theorem hit_app : ∀ (a b : Ops) (r c : Nat), hit (a ++ b) r c = hit a r c + hit b r c
  | [], b, r, c => by simp [hit]
  | o :: a, b, r, c => by
    simp only [List.cons_append, hit, hit_app a b r c]
    omega
theorem hit_rev : ∀ (a : Ops) (r c : Nat), hit a.reverse r c = hit a r c
  | [], r, c => rfl
  | o :: a, r, c => by
    rw [List.reverse_cons, hit_app, hit_rev a r c]
    simp only [hit]
    omega
theorem chAll_cel {m n : Nat} {b : Int} {r c : Nat} (hr : r < m) (hcn : c < n) : ∀ {ops : Ops} {L : List (List Int)}, Sz m n L → OpsOk m n b ops → cel (chAll L ops) r c = cel L r c + hit ops r c
  | [], L, h, _ => by simp [chAll, hit]
  | o :: ops, L, h, g => by
    have ih := chAll_cel hr hcn (ops := ops) (sz_changed h (g o (by simp)).1.2.1 o.2) (fun p hp => g p (by simp [hp]))
    have e : chAll L (o :: ops) = chAll (changed L o.1 o.2) ops := rfl
    rw [e, ih, cel_changed h (g o (by simp)).1 o.2 hr hcn]
    simp only [hit]
    omega
theorem cel_zeros (m n r c : Nat) : cel (zerosL m n) r c = 0 := by
  unfold cel zerosL
  rw [List.getElem?_replicate]
  split
  · simp only [Option.getD_some]
    rw [List.getElem?_replicate]
    split <;> rfl
  · rfl
theorem sz_ext {m n : Nat} {L M : List (List Int)} (h : Sz m n L) (g : Sz m n M) (he : ∀ r c, r < m → c < n → cel L r c = cel M r c) : L = M := by
  apply List.ext_getElem (by rw [h.1, g.1])
  intro r h1 h2
  have a1 := h.2 _ (List.getElem_mem h1)
  have a2 := g.2 _ (List.getElem_mem h2)
  apply List.ext_getElem (by rw [a1, a2])
  intro c g1 g2
  have := he r c (by rw [← h.1]; exact h1) (by rw [← a1]; exact g1)
  unfold cel at this
  rw [List.getElem?_eq_getElem h1, List.getElem?_eq_getElem h2] at this
  simp only [Option.getD_some] at this
  rw [List.getElem?_eq_getElem g1, List.getElem?_eq_getElem g2] at this
  simpa using this
theorem chAll_rev {m n : Nat} {b : Int} {ops : Ops} (h : OpsOk m n b ops) : chAll (zerosL m n) ops.reverse = chAll (zerosL m n) ops := by
  have h2 : OpsOk m n b ops.reverse := fun o ho => h o (List.mem_reverse.1 ho)
  refine sz_ext (chAll_sz (sz_zeros m n) h2) (chAll_sz (sz_zeros m n) h) fun r c hr hc => ?_
  rw [chAll_cel hr hc (sz_zeros m n) h2, chAll_cel hr hc (sz_zeros m n) h, hit_rev]
theorem named_cel {m n : Nat} {L : List (List Int)} {cols : List Int} (h : Sz m n L) (hc : Meets m n cols) {r v : Nat} (hr : r < m) (hv : cols[r]? = some (v : Int)) : (named L cols)[r]? = some (cel L r v) := by
  have hl : r < L.length := by rw [h.1]; exact hr
  unfold named cel
  rw [List.getElem?_zipWith, List.getElem?_eq_getElem hl, hv]
  simp
end Go.Proofs.Ytonbidohhgenlaa.Lin
