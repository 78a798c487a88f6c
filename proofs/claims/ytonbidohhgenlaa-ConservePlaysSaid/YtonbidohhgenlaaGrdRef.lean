/- The walks of the document's own answers for layer 6: a grid of rows, each with memory of its own. -/
import Derived.Test.YtonbidohhgenlaaRows
import Derived.Test.YtonbidohhgenlaaKept
import Derived.Deep.LoopGhost
namespace Go.Proofs.Ytonbidohhgenlaa.Grd
open Go Go.RowKit Lw
set_option linter.unusedVariables false
theorem i64_info : (Try.prog.info? 2).map (fun i => (i.zero, i.size, i.bytes)) = some (some (.int .i64 0), 1, 8) := by kernel_rfl
theorem i64s_u : Try.prog.underlying 37 = some (.slice 2) := by kernel_rfl
theorem ret_i {k : IntKind} {a b : Int} (h : a = b) : Ending.returned (.int k a) = .returned (.int k b) := by rw [h]
theorem ret_b {a b : Bool} (h : a = b) : Ending.returned (.bool a) = .returned (.bool b) := by rw [h]
/-- A row: its block, how much it may hold, its numbers. -/
abbrev Row := Nat × Nat × List Int
def rowHd (r : Row) : Value := .slice (some ⟨r.1, 0, none⟩) r.2.2.length r.2.1
structure RG (w : World) (b : Nat) (hdr : Value) (R : List Row) : Prop where
  cell : w.heap[b]? = some (.cells #[hdr] 61 (0, 0))
  outer : w.ownsRow 0 37 1 hdr R.length (R.map rowHd)
  rows : ∀ r ∈ R, w.ownsRow 0 2 1 (rowHd r) r.2.2.length (r.2.2.map (Value.int .i64))
  apart1 : hdr.ownBlock ≠ some b
  apart2 : ∀ r ∈ R, r.1 ≠ b ∧ hdr.ownBlock ≠ some r.1
  nd : (R.map (·.1)).Nodup
def RF (b : Nat) (hdr : Value) (R : List Row) (k : Nat) : Prop := k = b ∨ hdr.ownBlock = some k ∨ ∃ r ∈ R, r.1 = k
theorem RG.keep {F : Nat → Prop} {w w' : World} {b : Nat} {hdr : Value} {R : List Row} (h : RG w b hdr R) (k : Kept F w w') (hf : ∀ q, RF b hdr R q → ¬ F q) : RG w' b hdr R where
  cell := k.heap h.cell (hf b (.inl rfl))
  outer := k.own h.outer (fun q hq => hf q (.inr (.inl hq)))
  rows := fun r hr => k.own (h.rows r hr) (fun q hq => hf q (.inr (.inr ⟨r, hr, by simpa [rowHd, Value.ownBlock] using hq⟩)))
  apart1 := h.apart1
  apart2 := h.apart2
  nd := h.nd
/-- The number of a cell; 0 where there is none. -/
def at2 (L : List (List Int)) (row col : Int) : Int := if row < 0 ∨ col < 0 then 0 else ((L[row.toNat]?.getD [])[col.toNat]?).getD 0
def in2 (L : List (List Int)) (row col : Int) : Bool := decide (0 ≤ row ∧ row < L.length ∧ 0 ≤ col ∧ col < (L[row.toNat]?.getD []).length)
def nums (R : List Row) : List (List Int) := R.map (fun r => r.2.2)
theorem at2_out {L : List (List Int)} {row col : Int} (h : row < 0 ∨ (L.length : Int) ≤ row ∨ col < 0 ∨ ((L[row.toNat]?.getD []).length : Int) ≤ col) : at2 L row col = 0 := by
  unfold at2
  split
  · rfl
  · rename_i h2
    have h3 : L.length ≤ row.toNat ∨ (L[row.toNat]?.getD []).length ≤ col.toNat := by omega
    rcases h3 with h3 | h3
    · rw [List.getElem?_eq_none h3]; rfl
    · rw [List.getElem?_eq_none h3]; rfl
theorem RG.hd {w : World} {b : Nat} {hdr : Value} {R : List Row} (h : RG w b hdr R) : ∃ A cap, hdr = .slice A R.length cap ∧ R.length ≤ cap ∧ (A = none → R.length = 0) ∧ ∀ j r, R[j]? = some r → ∃ ad, A = some ad ∧ w.cell? (ad.add j) = some (rowHd r) := by
  rcases h.outer.2 with ⟨h1, h2⟩ | ⟨g, cap, cur, h1, h2, h3, h4, h5, h6, h7⟩
  · refine ⟨none, 0, by rw [h1, h2], by omega, fun _ => h2, fun j r hj => ?_⟩
    have := (List.getElem?_eq_some_iff.1 hj).1
    omega
  · refine ⟨some ⟨g, 0, none⟩, cap, h1, h4, (fun h => by cases h), fun j r hj => ⟨_, rfl, ?_⟩⟩
    exact h.outer.cells (g := g) (by rw [h1]; rfl) j _ (by rw [List.getElem?_map, hj]; rfl)
theorem RG.numAt {w : World} {b : Nat} {hdr : Value} {R : List Row} (h : RG w b hdr R) {r : Row} (hr : r ∈ R) {j : Nat} {v : Int} (hv : r.2.2[j]? = some v) : w.cell? ((⟨r.1, 0, none⟩ : Addr).add j) = some (.int .i64 v) :=
  (h.rows r hr).cells (g := r.1) rfl j _ (by rw [List.getElem?_map, hv]; rfl)
/-- The rows with one number set. -/
def set2 (R : List Row) (K C : Nat) (n : Int) : List Row := R.modify K (fun r => (r.1, r.2.1, r.2.2.set C n))
def put2 (R : List Row) (row col n : Int) : List Row := if in2 (nums R) row col = true then set2 R row.toNat col.toNat n else R
theorem in2_no {L : List (List Int)} {row col : Int} (h : row < 0 ∨ (L.length : Int) ≤ row ∨ col < 0 ∨ ((L[row.toNat]?.getD []).length : Int) ≤ col) : in2 L row col = false := by
  unfold in2
  exact decide_eq_false (by omega)
theorem set2_len (R : List Row) (K C : Nat) (n : Int) : (set2 R K C n).length = R.length := by simp [set2]
theorem set2_get (R : List Row) (K C : Nat) (n : Int) (i : Nat) : (set2 R K C n)[i]? = if K = i then (R[i]?).map (fun r => (r.1, r.2.1, r.2.2.set C n)) else R[i]? := by
  unfold set2
  rw [List.getElem?_modify]
  by_cases h : K = i <;> simp [h]
theorem set2_hd (R : List Row) (K C : Nat) (n : Int) : (set2 R K C n).map rowHd = R.map rowHd := by
  apply List.ext_getElem?
  intro i
  rw [List.getElem?_map, List.getElem?_map, set2_get]
  split
  · cases R[i]? <;> simp [rowHd]
  · rfl
theorem set2_bl (R : List Row) (K C : Nat) (n : Int) : (set2 R K C n).map (·.1) = R.map (·.1) := by
  apply List.ext_getElem?
  intro i
  rw [List.getElem?_map, List.getElem?_map, set2_get]
  split
  · cases R[i]? <;> simp
  · rfl
theorem set2_mem {R : List Row} {K C : Nat} {n : Int} {r : Row} (h : r ∈ set2 R K C n) : ∃ (i : Nat) (q : Row), R[i]? = some q ∧ r.1 = q.1 ∧ r.2.1 = q.2.1 ∧ ((K = i ∧ r.2.2 = q.2.2.set C n) ∨ (K ≠ i ∧ r.2.2 = q.2.2)) := by
  obtain ⟨i, hi, e⟩ := List.mem_iff_getElem.1 h
  have e2 : (set2 R K C n)[i]? = some r := by rw [List.getElem?_eq_getElem hi, e]
  rw [set2_get] at e2
  split at e2
  · rename_i hk
    obtain ⟨q, hq, rfl⟩ := Option.map_eq_some_iff.1 e2
    exact ⟨i, q, hq, rfl, rfl, .inl ⟨hk, rfl⟩⟩
  · rename_i hk
    exact ⟨i, r, e2, rfl, rfl, .inr ⟨hk, rfl⟩⟩
theorem RG.put {w : World} {b : Nat} {hdr : Value} {R : List Row} (h : RG w b hdr R) {K : Nat} {r : Row} (hr : R[K]? = some r) (C : Nat) (n : Int) : RG (w.setCell ⟨r.1, C, none⟩ (.int .i64 n)) b hdr (set2 R K C n) := by
  have hrm := List.mem_of_getElem? hr
  have hst := (h.rows r hrm).stored (g := r.1) (cap := r.2.1) C (.int .i64 n)
  have hk : Kept (fun q => q = r.1) w (w.setCell ⟨r.1, C, none⟩ (.int .i64 n)) := Kept.set (F := fun q => q = r.1) (Kept.refl _ w) (.inl rfl) C _
  have hnd := h.nd
  have uniq : ∀ (i : Nat) (q : Row), R[i]? = some q → q.1 = r.1 → i = K := by
    intro i q hq e
    have h1 := (List.getElem?_eq_some_iff.1 hq).1
    have h2 := (List.getElem?_eq_some_iff.1 hr).1
    have g1 := (List.getElem?_eq_some_iff.1 hq).2
    have g2 := (List.getElem?_eq_some_iff.1 hr).2
    refine Decidable.by_contra fun hne => ?_
    rcases Nat.lt_or_gt_of_ne hne with h3 | h3
    · exact List.pairwise_iff_getElem.1 hnd i K (by simpa using h1) (by simpa using h2) h3 (by simp [g1, g2, e])
    · exact List.pairwise_iff_getElem.1 hnd K i (by simpa using h2) (by simpa using h1) h3 (by simp [g1, g2, e])
  refine ⟨hk.heap h.cell (fun e => (h.apart2 r hrm).1 e.symm), ?_, ?_, h.apart1, ?_, by rw [set2_bl]; exact hnd⟩
  · rw [set2_len, set2_hd]
    exact hk.own h.outer (fun q hq e => (h.apart2 r hrm).2 (by rw [hq, e]))
  · intro x hx
    obtain ⟨i, q, hq, e1, e2, h3⟩ := set2_mem hx
    have hqm := List.mem_of_getElem? hq
    obtain ⟨x1, x2, x3⟩ := x
    obtain ⟨q1, q2, q3⟩ := q
    simp only at e1 e2 h3
    subst e1 e2
    rcases h3 with ⟨hk2, h3⟩ | ⟨hk2, h3⟩
    · subst h3
      subst hk2
      rw [hr] at hq
      injection hq with hq
      subst hq
      have h4 := hst.1
      rw [← List.map_set] at h4
      simpa [rowHd] using h4
    · subst h3
      exact hk.own (h.rows _ hqm) (fun p hp e => hk2 (uniq i _ hq (by simp [rowHd, Value.ownBlock] at hp; rw [hp, e])).symm)
  · intro x hx
    obtain ⟨i, q, hq, e1, e2, h3⟩ := set2_mem hx
    rw [e1]
    exact h.apart2 q (List.mem_of_getElem? hq)
theorem RF_put {b : Nat} {hdr : Value} {R : List Row} {row col n : Int} (k : Nat) : RF b hdr (put2 R row col n) k ↔ RF b hdr R k := by
  unfold RF put2
  split
  · have e : ∀ S : List Row, (∃ r ∈ S, r.1 = k) ↔ k ∈ S.map (·.1) := fun S => by simp
    rw [e, e, set2_bl]
  · exact Iff.rfl
theorem put2_no {R : List Row} {row col n : Int} (h : in2 (nums R) row col = false) : put2 R row col n = R := by unfold put2; rw [h]; rfl
theorem RG.blt {w : World} {b : Nat} {hdr : Value} {R : List Row} (h : RG w b hdr R) {k : Nat} (hk : RF b hdr R k) : k < w.heap.size := by
  rcases hk with rfl | hk | ⟨r, hr, rfl⟩
  · rcases Nat.lt_or_ge k w.heap.size with h1 | h1
    · exact h1
    · have := h.cell; rw [Array.getElem?_eq_none h1] at this; cases this
  · exact own_lt h.outer hk
  · exact own_lt (h.rows r hr) rfl
theorem RG.push {w w4 : World} {b : Nat} {hdr hdr' : Value} {R : List Row} {g c : Nat} {zs : List Int} (h : RG w b hdr R) (hk : Kept (fun q => q = b ∨ hdr.ownBlock = some q) w w4)
    (hc : w4.heap[b]? = some (.cells #[hdr'] 61 (0, 0))) (ho : w4.ownsRow 0 37 1 hdr' (R.length + 1) (R.map rowHd ++ [rowHd (g, c, zs)]))
    (hr : w4.ownsRow 0 2 1 (rowHd (g, c, zs)) zs.length (zs.map (Value.int .i64))) (hg : w.heap.size ≤ g)
    (hh : hdr'.ownBlock = hdr.ownBlock ∨ ∃ q, hdr'.ownBlock = some q ∧ w.heap.size ≤ q ∧ q ≠ g) : RG w4 b hdr' (R ++ [(g, c, zs)]) := by
  have hb := h.blt (.inl rfl)
  have hold : ∀ q, hdr.ownBlock = some q → q < w.heap.size := fun q hq => h.blt (.inr (.inl hq))
  have hrow : ∀ r ∈ R, r.1 < w.heap.size := fun r hr => h.blt (.inr (.inr ⟨r, hr, rfl⟩))
  refine ⟨hc, by simpa using ho, ?_, ?_, ?_, ?_⟩
  · intro r hrm
    rcases List.mem_append.1 hrm with h1 | h1
    · exact hk.own (h.rows r h1) (fun q hq e => by
        simp [rowHd, Value.ownBlock] at hq
        rcases e with e | e
        · exact (h.apart2 r h1).1 (by rw [hq, e])
        · exact (h.apart2 r h1).2 (by rw [hq, e]))
    · simp at h1
      subst h1
      exact hr
  · rcases hh with h1 | ⟨q, h1, h2, h3⟩
    · rw [h1]; exact h.apart1
    · rw [h1]; intro e; injection e with e; omega
  · intro r hrm
    rcases List.mem_append.1 hrm with h1 | h1
    · refine ⟨(h.apart2 r h1).1, ?_⟩
      rcases hh with h2 | ⟨q, h2, h3, h4⟩
      · rw [h2]; exact (h.apart2 r h1).2
      · rw [h2]; intro e; injection e with e; have := hrow r h1; omega
    · simp at h1
      subst h1
      refine ⟨by simp only; omega, ?_⟩
      rcases hh with h2 | ⟨q, h2, h3, h4⟩
      · rw [h2]; intro e; have := hold _ e; simp only at this; omega
      · rw [h2]; intro e; injection e with e; exact h4 e
  · rw [List.map_append, List.nodup_append]
    refine ⟨h.nd, by simp, ?_⟩
    intro x hx y hy e
    simp at hy
    subst hy
    subst e
    obtain ⟨r, hr, e⟩ := List.mem_map.1 hx
    have := hrow r hr
    omega
def cl (n : Int) (m : Nat) : Nat := min n.toNat m
theorem rows_info : (Try.prog.info? 37).map (fun i => (i.zero, i.size, i.bytes)) = some (some (.slice none 0 0), 1, 24) := by kernel_rfl
theorem rows_u : Try.prog.underlying 59 = some (.slice 37) := by kernel_rfl
end Go.Proofs.Ytonbidohhgenlaa.Grd
