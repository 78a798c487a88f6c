/- Columns that meet a grid, the cells that they name, what a change makes of them: in numbers. For stages from 8 on. -/
import Derived.Test.YtonbidohhgenlaaGrdDef
namespace Go.Proofs.Ytonbidohhgenlaa.Lin
open Go Go.RowKit Lw Grd
set_option linter.unusedVariables false
def Meets (m n : Nat) (cols : List Int) : Prop := 1 ≤ m ∧ cols.length = m ∧ ∀ v ∈ cols, 0 ≤ v ∧ v < n
instance (m n : Nat) (cols : List Int) : Decidable (Meets m n cols) := by unfold Meets; infer_instance
def meetB (m n : Nat) (cols : List Int) : Bool := decide (Meets m n cols)
def named (L : List (List Int)) (cols : List Int) : List Int := List.zipWith (fun r c => r[c.toNat]?.getD 0) L cols
def changed (L : List (List Int)) (cols : List Int) (d : Int) : List (List Int) := List.zipWith (fun r c => r.set c.toNat (r[c.toNat]?.getD 0 + d)) L cols
def chFits (L : List (List Int)) (cols : List Int) (d : Int) : Bool := (named L cols).all (fun x => Wid.fit64 (x + d))
def chCode (m n : Nat) (L : List (List Int)) (cols : List Int) (d : Int) : Int := if Meets m n cols then (if chFits L cols d = true then 0 else 4) else 1
def chRes (m n : Nat) (L : List (List Int)) (cols : List Int) (d : Int) : List (List Int) := if Meets m n cols ∧ chFits L cols d = true then changed L cols d else L
def readOf (m n : Nat) (L : List (List Int)) (cols : List Int) : List Int := if Meets m n cols then named L cols else []
def rdCode (m n : Nat) (cols : List Int) : Int := if Meets m n cols then 0 else 1
theorem named_next (L : List (List Int)) (cols : List Int) (k : Nat) (r : List Int) (v : Int) (hr : L[k]? = some r) (hv : cols[k]? = some v) : named (L.take (k + 1)) (cols.take (k + 1)) = named (L.take k) (cols.take k) ++ [r[v.toNat]?.getD 0] := by
  obtain ⟨h1, e1⟩ := List.getElem?_eq_some_iff.1 hr
  obtain ⟨h2, e2⟩ := List.getElem?_eq_some_iff.1 hv
  unfold named
  rw [List.take_succ_eq_append_getElem h1, List.take_succ_eq_append_getElem h2, List.zipWith_append (by simp; omega), e1, e2]
  rfl
theorem named_len {L : List (List Int)} {cols : List Int} (h : cols.length = L.length) : (named L cols).length = L.length := by unfold named; rw [List.length_zipWith]; omega
end Go.Proofs.Ytonbidohhgenlaa.Lin
