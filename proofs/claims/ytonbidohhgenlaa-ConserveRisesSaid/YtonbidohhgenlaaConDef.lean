/- What a raise makes of a grid, in numbers. For stages from 9 on. -/
import Derived.Test.YtonbidohhgenlaaLinCodM
import Derived.Test.YtonbidohhgenlaaLinMath
import Derived.Test.YtonbidohhgenlaaOrdMath
namespace Go.Proofs.Ytonbidohhgenlaa.Con
open Go Go.RowKit Lw Grd Lin
set_option linter.unusedVariables false
/-- The least of the cells that columns name. -/
def lea (L : List (List Int)) (cols : List Int) : Int := Ord.kv (named L cols) 0
def raised (L : List (List Int)) (cols : List Int) (x : Int) : List (List Int) := List.zipWith (fun r c => r.set c.toNat (max (r[c.toNat]?.getD 0) x)) L cols
def rsCode (m n : Nat) (L : List (List Int)) (cols : List Int) (d : Int) : Int := if Meets m n cols then (if d < 0 then 3 else if Wid.fit64 (lea L cols + d) = true then 0 else 4) else 1
def rsRes (m n : Nat) (L : List (List Int)) (cols : List Int) (d : Int) : List (List Int) := if Meets m n cols ∧ 0 ≤ d ∧ Wid.fit64 (lea L cols + d) = true then raised L cols (lea L cols + d) else L
theorem rs_no {m n : Nat} {L : List (List Int)} {cols : List Int} {d : Int} (h : ¬ Meets m n cols) : rsCode m n L cols d = 1 ∧ rsRes m n L cols d = L := ⟨if_neg h, if_neg (fun g => h g.1)⟩
theorem rs_neg {m n : Nat} {L : List (List Int)} {cols : List Int} {d : Int} (h : Meets m n cols) (hd : d < 0) : rsCode m n L cols d = 3 ∧ rsRes m n L cols d = L := by
  unfold rsCode rsRes
  rw [if_pos h, if_pos hd, if_neg (fun g => by have := g.2.1; omega)]
  exact ⟨rfl, rfl⟩
theorem rs_over {m n : Nat} {L : List (List Int)} {cols : List Int} {d : Int} (h : Meets m n cols) (hd : 0 ≤ d) (hf : Wid.fit64 (lea L cols + d) = false) : rsCode m n L cols d = 4 ∧ rsRes m n L cols d = L := by
  unfold rsCode rsRes
  rw [if_pos h, if_neg (by omega), hf, if_neg (by simp), if_neg (by simp)]
  exact ⟨rfl, rfl⟩
theorem rs_yes {m n : Nat} {L : List (List Int)} {cols : List Int} {d : Int} (h : Meets m n cols) (hd : 0 ≤ d) (hf : Wid.fit64 (lea L cols + d) = true) : rsCode m n L cols d = 0 ∧ rsRes m n L cols d = raised L cols (lea L cols + d) := by
  unfold rsCode rsRes
  rw [if_pos h, if_neg (by omega), hf, if_pos rfl, if_pos ⟨h, hd, rfl⟩]
  exact ⟨rfl, rfl⟩
theorem raised_len {L : List (List Int)} {cols : List Int} (x : Int) (h : cols.length = L.length) : (raised L cols x).length = L.length := by unfold raised; rw [List.length_zipWith]; omega
theorem raised_at {m n : Nat} {L : List (List Int)} {cols : List Int} (hd : Dims m n L) (h : Meets m n cols) (x : Int) {k : Nat} {v : Int} (hv : cols[k]? = some v) : (raised L cols x)[k]? = (L[k]?.map (fun r => r.set v.toNat (max (at2 L k v) x))) := by
  have hk : k < cols.length := (List.getElem?_eq_some_iff.1 hv).1
  have hl : k < L.length := by rw [hd.len, ← h.2.1]; exact hk
  have hb := meets_at h hv
  unfold raised at2
  rw [List.getElem?_zipWith, hv, List.getElem?_eq_getElem hl, if_neg (by omega)]
  simp [List.getElem?_eq_getElem hl]
theorem upto2_mod {α : Type} {X Y : List α} {n k : Nat} {x : α} (f : α → α) (hX : X.length = n) (hY : Y.length = n) (hx : X[k]? = some x) (hy : Y[k]? = some (f x)) : (upto2 X Y k).modify k f = upto2 X Y (k + 1) := by
  have hk : k < n := by rw [← hX]; exact (List.getElem?_eq_some_iff.1 hx).1
  rw [← upto2_set hX hY hy]
  apply List.ext_getElem?
  intro i
  rw [List.getElem?_modify, List.getElem?_set, upto2_len hX hY (by omega)]
  by_cases e : k = i
  · subst e
    rw [upto2_get hX hY hk, hx, if_pos rfl, if_pos hk]
    simp
  · rw [if_neg e]
    simp [e]
theorem at2_in {m n : Nat} {L : List (List Int)} (hd : Dims m n L) (k : Nat) (v : Int) : -9223372036854775808 ≤ at2 L k v ∧ at2 L k v ≤ 9223372036854775807 := by
  unfold at2
  split
  · omega
  · cases e : L[(k : Int).toNat]? with
    | none => simp
    | some r =>
      have h2 := hd.rows r (List.mem_of_getElem? e)
      simp only [Option.getD_some]
      cases e2 : r[v.toNat]? with
      | none => simp
      | some y => simpa using h2.2 y (List.mem_of_getElem? e2)
theorem raised_dims {m n : Nat} {L : List (List Int)} {cols : List Int} {x : Int} (hd : Dims m n L) (h : Meets m n cols) (x0 : -9223372036854775808 ≤ x) (x1 : x ≤ 9223372036854775807) : Dims m n (raised L cols x) := by
  have hl : cols.length = L.length := by rw [hd.len]; exact h.2.1
  refine ⟨by rw [raised_len x hl, hd.len], hd.m8, hd.n128, fun r hr => ?_⟩
  obtain ⟨k, hk, e⟩ := List.mem_iff_getElem.1 hr
  rw [raised_len x hl] at hk
  have h2 := raised_at hd h x (k := k) (List.getElem?_eq_getElem (by omega))
  rw [List.getElem?_eq_getElem hk, List.getElem?_eq_getElem (by rw [raised_len x hl]; exact hk), e] at h2
  simp only [Option.map_some] at h2
  injection h2 with h2
  have h3 := hd.rows _ (List.getElem_mem hk)
  have h4 := at2_in hd k (cols[k]'(by omega))
  rw [h2]
  exact ⟨by rw [List.length_set]; exact h3.1, in64_set h3.2 _ (by omega) (by omega)⟩
theorem lea_in {m n : Nat} {L : List (List Int)} {cols : List Int} (hd : Dims m n L) : -9223372036854775808 ≤ lea L cols ∧ lea L cols ≤ 9223372036854775807 :=
  Ord.kv_in _ _ _ _ (by omega) (by omega) (named_in hd)
end Go.Proofs.Ytonbidohhgenlaa.Con
