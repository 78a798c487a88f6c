/- The walks of the document's own answers for layer 6: a grid of rows, each with memory of its own. -/
import Derived.Test.YtnbmdlkeeabmjaaRows
import Derived.Test.YtnbmdlkeeabmjaaKept
import Derived.Deep.LoopGhost
namespace Go.Proofs.Ytnbmdlkeeabmjaa.Grd
open Go Go.RowKit Lw
set_option linter.unusedVariables false
theorem i64_info : (Try.prog.info? 2).map (fun i => (i.zero, i.size, i.bytes)) = some (some (.int .i64 0), 1, 8) := by kernel_rfl
theorem ret_i {k : IntKind} {a b : Int} (h : a = b) : Ending.returned (.int k a) = .returned (.int k b) := by rw [h]
theorem ret_b {a b : Bool} (h : a = b) : Ending.returned (.bool a) = .returned (.bool b) := by rw [h]
/-- A row: its block, how much it may hold, its numbers. -/
abbrev Row := Nat × Nat × List Int
def rowHd (r : Row) : Value := .slice (some ⟨r.1, 0, none⟩) r.2.2.length r.2.1
def RF (b : Nat) (hdr : Value) (R : List Row) (k : Nat) : Prop := k = b ∨ hdr.ownBlock = some k ∨ ∃ r ∈ R, r.1 = k
/-- The number of a cell; 0 where there is none. -/
def at2 (L : List (List Int)) (row col : Int) : Int := if row < 0 ∨ col < 0 then 0 else ((L[row.toNat]?.getD [])[col.toNat]?).getD 0
def in2 (L : List (List Int)) (row col : Int) : Bool := decide (0 ≤ row ∧ row < L.length ∧ 0 ≤ col ∧ col < (L[row.toNat]?.getD []).length)
def nums (R : List Row) : List (List Int) := R.map (fun r => r.2.2)
theorem at2_out {L : List (List Int)} {row col : Int} (h : row < 0 ∨ (L.length : Int) ≤ row ∨ col < 0 ∨ ((L[row.toNat]?.getD []).length : Int) ≤ col) : at2 L row col = 0 := by
  unfold at2
  split
  · rfl
  · rename_i h2
    have h3 : L.length ≤ row.toNat ∨ (L[row.toNat]?.getD []).length ≤ col.toNat := by omega
    rcases h3 with h3 | h3
    · rw [List.getElem?_eq_none h3]; rfl
    · rw [List.getElem?_eq_none h3]; rfl
/-- The rows with one number set. -/
def set2 (R : List Row) (K C : Nat) (n : Int) : List Row := R.modify K (fun r => (r.1, r.2.1, r.2.2.set C n))
def put2 (R : List Row) (row col n : Int) : List Row := if in2 (nums R) row col = true then set2 R row.toNat col.toNat n else R
theorem in2_no {L : List (List Int)} {row col : Int} (h : row < 0 ∨ (L.length : Int) ≤ row ∨ col < 0 ∨ ((L[row.toNat]?.getD []).length : Int) ≤ col) : in2 L row col = false := by
  unfold in2
  exact decide_eq_false (by omega)
theorem set2_len (R : List Row) (K C : Nat) (n : Int) : (set2 R K C n).length = R.length := by simp [set2]
theorem set2_get (R : List Row) (K C : Nat) (n : Int) (i : Nat) : (set2 R K C n)[i]? = if K = i then (R[i]?).map (fun r => (r.1, r.2.1, r.2.2.set C n)) else R[i]? := by
  unfold set2
  rw [List.getElem?_modify]
  by_cases h : K = i <;> simp [h]
theorem set2_hd (R : List Row) (K C : Nat) (n : Int) : (set2 R K C n).map rowHd = R.map rowHd := by
  apply List.ext_getElem?
  intro i
  rw [List.getElem?_map, List.getElem?_map, set2_get]
  split
  · cases R[i]? <;> simp [rowHd]
  · rfl
theorem set2_bl (R : List Row) (K C : Nat) (n : Int) : (set2 R K C n).map (·.1) = R.map (·.1) := by
  apply List.ext_getElem?
  intro i
  rw [List.getElem?_map, List.getElem?_map, set2_get]
  split
  · cases R[i]? <;> simp
  · rfl
theorem set2_mem {R : List Row} {K C : Nat} {n : Int} {r : Row} (h : r ∈ set2 R K C n) : ∃ (i : Nat) (q : Row), R[i]? = some q ∧ r.1 = q.1 ∧ r.2.1 = q.2.1 ∧ ((K = i ∧ r.2.2 = q.2.2.set C n) ∨ (K ≠ i ∧ r.2.2 = q.2.2)) := by
  obtain ⟨i, hi, e⟩ := List.mem_iff_getElem.1 h
  have e2 : (set2 R K C n)[i]? = some r := by rw [List.getElem?_eq_getElem hi, e]
  rw [set2_get] at e2
  split at e2
  · rename_i hk
    obtain ⟨q, hq, rfl⟩ := Option.map_eq_some_iff.1 e2
    exact ⟨i, q, hq, rfl, rfl, .inl ⟨hk, rfl⟩⟩
  · rename_i hk
    exact ⟨i, r, e2, rfl, rfl, .inr ⟨hk, rfl⟩⟩
theorem RF_put {b : Nat} {hdr : Value} {R : List Row} {row col n : Int} (k : Nat) : RF b hdr (put2 R row col n) k ↔ RF b hdr R k := by
  unfold RF put2
  split
  · have e : ∀ S : List Row, (∃ r ∈ S, r.1 = k) ↔ k ∈ S.map (·.1) := fun S => by simp
    rw [e, e, set2_bl]
  · exact Iff.rfl
theorem put2_no {R : List Row} {row col n : Int} (h : in2 (nums R) row col = false) : put2 R row col n = R := by unfold put2; rw [h]; rfl
def cl (n : Int) (m : Nat) : Nat := min n.toNat m
end Go.Proofs.Ytnbmdlkeeabmjaa.Grd
