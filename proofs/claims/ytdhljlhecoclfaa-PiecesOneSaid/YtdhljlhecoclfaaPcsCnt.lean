/- A row of sixty counts. Printed by wip/gen/pcslaws.py. -/
import Derived.Test.YtdhljlhecoclfaaPcsAt
import Derived.Deep.LoopGhost
import Derived.Deep.RegionHeld3
import Derived.Deep.DeepCutAuto
import Derived.Deep.QuietTactic
import Derived.BigQuiet
namespace Go.Proofs.Ytdhljlhecoclfaa.Pcs
open Go Go.RowKit Lw
set_option linter.unusedVariables false
set_option linter.unusedSimpArgs false
def cntA (ls : List Nat) : Array Value := ((List.range 60).map (fun x => Value.int .i64 ((ls.count x : Nat) : Int))).toArray
theorem cntA_get {ls : List Nat} {x : Nat} (h : x < 60) : (cntA ls)[x]? = some (.int .i64 ((ls.count x : Nat) : Int)) := by
  unfold cntA
  rw [List.getElem?_toArray, List.getElem?_map, List.getElem?_range h]
  rfl
theorem cntA_size (ls : List Nat) : (cntA ls).size = 60 := by unfold cntA; simp
theorem cntA_set {ls : List Nat} {x : Nat} (h : x < 60) {v : Int} (hv : v = ((ls.count x : Nat) : Int) + 1) : (cntA ls).setIfInBounds x (.int .i64 v) = cntA (ls ++ [x]) := by
  apply Array.ext_getElem?
  intro j
  rw [Array.getElem?_setIfInBounds]
  by_cases hj : j < 60
  · rw [cntA_get hj, cntA_get hj, List.count_append]
    by_cases hx : x = j
    · subst hx
      rw [if_pos rfl, if_pos (by rw [cntA_size]; exact h), hv]
      simp
    · rw [if_neg hx]
      have : List.count j [x] = 0 := List.count_eq_zero.2 (by simp; omega)
      rw [this]
      simp
  · have h1 : ¬ x = j := by omega
    rw [if_neg h1]
    rw [Array.getElem?_eq_none (by rw [cntA_size]; omega), Array.getElem?_eq_none (by rw [cntA_size]; omega)]
theorem take_lev {l : List (Nat × Nat)} {k : Nat} {p : Nat × Nat} (h : l[k]? = some p) : (l.take (k + 1)).map (·.1) = (l.take k).map (·.1) ++ [p.1] := by
  obtain ⟨h1, h2⟩ := List.getElem?_eq_some_iff.1 h
  rw [List.take_succ_eq_append_getElem h1, h2, List.map_append]
  rfl
theorem boxs_frozen {w : World} {b : Nat} {e : TypeId} {vs : Array Value} (h : (boxT b e vs).I w) (i : Nat) : w.frozen? ⟨b, i, none⟩ = false := by
  have h1 : w.heap[b]? = some (.cells vs e (0, 0)) := h
  simp [World.frozen?, h1]
theorem boxs_set {w : World} {b : Nat} {e : TypeId} {vs : Array Value} (h : (boxT b e vs).I w) (i : Nat) (v : Value) : (boxT b e (vs.setIfInBounds i v)).I (w.setCell ⟨b, i, none⟩ v) := by
  have h1 : w.heap[b]? = some (.cells vs e (0, 0)) := h
  show (w.setCell ⟨b, i, none⟩ v).heap[b]? = _
  simp [World.setCell, Array.getElem?_modify, h1]
end Go.Proofs.Ytdhljlhecoclfaa.Pcs
