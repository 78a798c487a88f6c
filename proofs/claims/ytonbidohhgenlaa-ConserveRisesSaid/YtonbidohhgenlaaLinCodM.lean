/- Rows that are filled from the first on; the cells that columns name, one by one. -/
import Derived.Test.YtonbidohhgenlaaLinDef
import Derived.Test.YtonbidohhgenlaaGrdCode
import Derived.Test.YtonbidohhgenlaaOrdMath
import Derived.Test.YtonbidohhgenlaaOrdOne
import Derived.Test.YtonbidohhgenlaaWidPlus
namespace Go.Proofs.Ytonbidohhgenlaa.Lin
open Go Go.RowKit Lw Grd
set_option linter.unusedVariables false
set_option linter.unusedSimpArgs false
/-! ### The first k of Y, and the rest of X -/
def upto2 {α : Type} (X Y : List α) (k : Nat) : List α := Y.take k ++ X.drop k
theorem upto2_start {α : Type} (X Y : List α) : upto2 X Y 0 = X := by simp [upto2]
theorem upto2_end {α : Type} {X Y : List α} {n : Nat} (hX : X.length = n) (hY : Y.length = n) : upto2 X Y n = Y := by
  unfold upto2
  rw [List.drop_of_length_le (by omega), List.append_nil, List.take_of_length_le (by omega)]
theorem upto2_get {α : Type} {X Y : List α} {n k : Nat} (hX : X.length = n) (hY : Y.length = n) (hk : k < n) : (upto2 X Y k)[k]? = X[k]? := by
  unfold upto2
  rw [List.getElem?_append_right (by rw [List.length_take]; omega), List.getElem?_drop, List.length_take]
  congr 1
  omega
theorem upto2_set {α : Type} {X Y : List α} {n k : Nat} {y : α} (hX : X.length = n) (hY : Y.length = n) (hy : Y[k]? = some y) : (upto2 X Y k).set k y = upto2 X Y (k + 1) := by
  obtain ⟨hk, he⟩ := List.getElem?_eq_some_iff.1 hy
  have hl : (Y.take k).length = k := by rw [List.length_take]; omega
  unfold upto2
  rw [List.set_append_right _ _ (by omega), hl, Nat.sub_self, List.take_succ_eq_append_getElem hk, he, List.append_assoc]
  congr 1
  rw [List.drop_eq_getElem_cons (by omega)]
  rfl
theorem upto2_len {α : Type} {X Y : List α} {n k : Nat} (hX : X.length = n) (hY : Y.length = n) (hk : k ≤ n) : (upto2 X Y k).length = n := by
  unfold upto2
  rw [List.length_append, List.length_take, List.length_drop]
  omega
/-! ### Columns that meet -/
theorem meets_at {m n : Nat} {cols : List Int} (h : Meets m n cols) {k : Nat} {v : Int} (hv : cols[k]? = some v) : 0 ≤ v ∧ v < n := h.2.2 v (List.mem_of_getElem? hv)
theorem named_at {m n : Nat} {L : List (List Int)} {cols : List Int} (hd : Dims m n L) (h : Meets m n cols) {k : Nat} {v : Int} (hv : cols[k]? = some v) : (named L cols)[k]? = some (at2 L k v) := by
  have hk : k < cols.length := (List.getElem?_eq_some_iff.1 hv).1
  have hl : k < L.length := by rw [hd.len, ← h.2.1]; exact hk
  have hb := meets_at h hv
  unfold named at2
  rw [List.getElem?_zipWith, hv, List.getElem?_eq_getElem hl, if_neg (by omega)]
  simp [List.getElem?_eq_getElem hl]
theorem changed_at {m n : Nat} {L : List (List Int)} {cols : List Int} (hd : Dims m n L) (h : Meets m n cols) (d : Int) {k : Nat} {v : Int} (hv : cols[k]? = some v) : (changed L cols d)[k]? = (L[k]?.map (fun r => r.set v.toNat (at2 L k v + d))) := by
  have hk : k < cols.length := (List.getElem?_eq_some_iff.1 hv).1
  have hl : k < L.length := by rw [hd.len, ← h.2.1]; exact hk
  have hb := meets_at h hv
  unfold changed at2
  rw [List.getElem?_zipWith, hv, List.getElem?_eq_getElem hl, if_neg (by omega)]
  simp [List.getElem?_eq_getElem hl]
theorem changed_len {L : List (List Int)} {cols : List Int} (d : Int) (h : cols.length = L.length) : (changed L cols d).length = L.length := by unfold changed; rw [List.length_zipWith]; omega
theorem named_in {m n : Nat} {L : List (List Int)} {cols : List Int} (hd : Dims m n L) : In64 (named L cols) := by
  intro v hv
  unfold named at hv
  obtain ⟨i, hi, e⟩ := List.mem_iff_getElem.1 hv
  rw [List.getElem_zipWith] at e
  rw [List.length_zipWith] at hi
  have h2 := hd.rows _ (List.getElem_mem (show i < L.length by omega))
  subst e
  cases e3 : (L[i]'(by omega))[(cols[i]'(by omega)).toNat]? with
  | none => simp
  | some x => exact h2.2 _ (List.mem_of_getElem? e3)
theorem put_at {m n : Nat} {L : List (List Int)} {cols : List Int} (hd : Dims m n L) (h : Meets m n cols) (d : Int) {k : Nat} {v : Int} (hv : cols[k]? = some v) (hD : Dims m n (upto2 L (changed L cols d) k)) :
    setL (upto2 L (changed L cols d) k) k v (at2 L k v + d) = upto2 L (changed L cols d) (k + 1) := by
  have hk : k < cols.length := (List.getElem?_eq_some_iff.1 hv).1
  have hl : cols.length = L.length := by rw [hd.len]; exact h.2.1
  have hb := meets_at h hv
  have hL : L[k]? = some (L[k]'(by omega)) := List.getElem?_eq_getElem (by omega)
  have hY := changed_at hd h d hv
  rw [hL] at hY
  have hX := upto2_get (X := L) (Y := changed L cols d) (n := L.length) rfl (changed_len d hl) (k := k) (by omega)
  rw [hL] at hX
  have hin : in2 (upto2 L (changed L cols d) k) k v = true := by
    rw [in2_dims hD]
    have := hd.len
    exact decide_eq_true ⟨by omega, by omega, hb.1, hb.2⟩
  rw [← upto2_set (n := L.length) rfl (changed_len d hl) hY]
  unfold setL
  rw [if_pos hin]
  apply List.ext_getElem?
  intro i
  rw [List.getElem?_modify, List.getElem?_set, Int.toNat_natCast]
  have hln := upto2_len (X := L) (Y := changed L cols d) (n := L.length) rfl (changed_len d hl) (k := k) (by omega)
  by_cases e : k = i
  · subst e
    rw [hX, if_pos rfl, hln, if_pos (by omega)]
    simp
  · rw [if_neg e]
    simp [e]
theorem dims_upto {m n : Nat} {L : List (List Int)} {cols : List Int} (hd : Dims m n L) (h : Meets m n cols) (d : Int) (hf : chFits L cols d = true) : ∀ k, k ≤ m → Dims m n (upto2 L (changed L cols d) k)
  | 0, _ => by rw [upto2_start]; exact hd
  | k + 1, hk => by
    have ih := dims_upto hd h d hf k (by omega)
    have hv : cols[k]? = some (cols[k]'(by have := h.2.1; omega)) := List.getElem?_eq_getElem _
    rw [← put_at hd h d hv ih]
    have h2 : Wid.fit64 (at2 L k (cols[k]'(by have := h.2.1; omega)) + d) = true := (List.all_eq_true.1 hf) _ (List.mem_of_getElem? (named_at hd h hv))
    have h3 := of_decide_eq_true h2
    exact ih.set _ _ (by omega) (by omega)
end Go.Proofs.Ytonbidohhgenlaa.Lin
