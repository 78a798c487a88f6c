/- Things with memory of their own, side by side: what one turns leaves the others. For every stage that has things with memory. -/
import Derived.Test.YtdhljlhecoclfaaKept
import Derived.Deep.MidRow
namespace Go.Proofs.Ytdhljlhecoclfaa.Lw
open Go Go.RowKit
set_option linter.unusedVariables false
/-- A thing: what holds of it, its blocks; what else is turned leaves it. -/
structure Thing where
  I : World → Prop
  F : Nat → Prop
  keep : ∀ (w w' : World) (H : Nat → Prop), I w → Kept H w w' → (∀ k, F k → ¬ H k) → I w'
  lt : ∀ w, I w → ∀ k, F k → k < w.heap.size
/-- The things ts, apart, all made behind w0; what was there at w0 is as it was. -/
def Have (w0 w : World) : List Thing → Prop
  | [] => Below w0.heap.size w0 w
  | t :: ts => t.I w ∧ (∀ k, t.F k → w0.heap.size ≤ k) ∧ (∀ u ∈ ts, ∀ k, t.F k → ¬ u.F k) ∧ Have w0 w ts
theorem Have.below {w0 w : World} : ∀ {ts : List Thing}, Have w0 w ts → Below w0.heap.size w0 w
  | [], h => h
  | t :: ts, h => Have.below (ts := ts) h.2.2.2
theorem Have.one {w0 w : World} : ∀ {ts : List Thing}, Have w0 w ts → ∀ t ∈ ts, t.I w ∧ (∀ k, t.F k → w0.heap.size ≤ k)
  | [], h, t, ht => by simp at ht
  | s :: ts, h, t, ht => by
    rcases List.mem_cons.1 ht with rfl | ht
    · exact ⟨h.1, h.2.1⟩
    · exact Have.one (ts := ts) h.2.2.2 t ht
theorem Have.keep {w0 w w' : World} {H : Nat → Prop} (hk : Kept H w w') (hb : Below w0.heap.size w0 w') : ∀ {ts : List Thing}, Have w0 w ts → (∀ t ∈ ts, ∀ k, t.F k → ¬ H k) → Have w0 w' ts
  | [], h, _ => hb
  | t :: ts, h, hf => ⟨t.keep w w' H h.1 hk (hf t (by simp)), h.2.1, h.2.2.1, Have.keep hk hb (ts := ts) h.2.2.2 (fun u hu => hf u (by simp [hu]))⟩
theorem Have.up {w0 w w' : World} {ts : List Thing} (h : Have w0 w ts) (hb : Below w.heap.size w w') : Have w0 w' ts :=
  Have.keep (H := fun _ => False) (Kept.of_below hb) (h.below.trans (hb.mono h.below.size)) h (fun _ _ _ _ => fun h => h)
theorem Have.nil (w : World) : Have w w [] := Below.refl _ _
theorem Have.start {w w' : World} (h : Below w.heap.size w w') : Have w w' [] := h
/-- A new thing. -/
theorem Have.push {w0 w w' : World} {ts : List Thing} (h : Have w0 w ts) (t : Thing) (hb : Below w.heap.size w w') (ht : t.I w') (hn : ∀ k, t.F k → w.heap.size ≤ k) : Have w0 w' (t :: ts) := by
  refine ⟨ht, fun k hk => Nat.le_trans h.below.size (hn k hk), fun u hu k hk hu2 => ?_, h.up hb⟩
  have h1 := u.lt w (h.one u hu).1 k hu2
  have h2 := hn k hk
  omega
theorem Have.below_kept {w0 w w' : World} {ts : List Thing} (h : Have w0 w ts) {t : Thing} (ht : t ∈ ts) (hk : Kept t.F w w') : Below w0.heap.size w0 w' :=
  hk.low h.below h.below.size (fun q hq => (h.one t ht).2 q hq)
/-- The first thing is turned. -/
theorem Have.turn0 {w0 w w' : World} {t : Thing} {ts : List Thing} (h : Have w0 w (t :: ts)) (t' : Thing) (ht : t'.I w') (hk : Kept t.F w w') (hF : ∀ k, t'.F k → t.F k ∨ w.heap.size ≤ k) : Have w0 w' (t' :: ts) := by
  have hb := h.below_kept (t := t) (by simp) hk
  refine ⟨ht, fun k hk' => ?_, fun u hu k hk' hu2 => ?_, Have.keep hk hb h.2.2.2 (fun u hu k h1 h2 => h.2.2.1 u hu k h2 h1)⟩
  · rcases hF k hk' with h1 | h1
    · exact h.2.1 k h1
    · exact Nat.le_trans h.below.size h1
  · rcases hF k hk' with h1 | h1
    · exact h.2.2.1 u hu k h1 hu2
    · have := u.lt w (h.one u (by simp [hu])).1 k hu2
      omega
/-- A thing behind the first is turned. -/
theorem Have.under {w0 w w' : World} {s : Thing} {ts ts' : List Thing} (h : Have w0 w (s :: ts)) (H : Nat → Prop) (hk : Kept H w w') (hs : ∀ k, s.F k → ¬ H k) (h' : Have w0 w' ts') (hF : ∀ u' ∈ ts', ∀ k, u'.F k → (∃ u ∈ ts, u.F k) ∨ w.heap.size ≤ k) : Have w0 w' (s :: ts') := by
  refine ⟨s.keep w w' H h.1 hk hs, h.2.1, fun u' hu k h1 h2 => ?_, h'⟩
  rcases hF u' hu k h2 with ⟨u, hu, h3⟩ | h3
  · exact h.2.2.1 u hu k h1 h3
  · have := s.lt w h.1 k h1
    omega
theorem Have.turn1 {w0 w w' : World} {s t : Thing} {ts : List Thing} (h : Have w0 w (s :: t :: ts)) (t' : Thing) (ht : t'.I w') (hk : Kept t.F w w') (hF : ∀ k, t'.F k → t.F k ∨ w.heap.size ≤ k) : Have w0 w' (s :: t' :: ts) := by
  refine h.under t.F hk (fun k h1 h2 => h.2.2.1 t (by simp) k h1 h2) (Have.turn0 h.2.2.2 t' ht hk hF) ?_
  intro u hu k hk
  rcases List.mem_cons.1 hu with rfl | hu
  · rcases hF k hk with h1 | h1
    · exact .inl ⟨t, by simp, h1⟩
    · exact .inr h1
  · exact .inl ⟨u, by simp [hu], hk⟩
theorem Have.turn2 {w0 w w' : World} {r s t : Thing} {ts : List Thing} (h : Have w0 w (r :: s :: t :: ts)) (t' : Thing) (ht : t'.I w') (hk : Kept t.F w w') (hF : ∀ k, t'.F k → t.F k ∨ w.heap.size ≤ k) : Have w0 w' (r :: s :: t' :: ts) := by
  refine h.under t.F hk (fun k h1 h2 => h.2.2.1 t (by simp) k h1 h2) (Have.turn1 h.2.2.2 t' ht hk hF) ?_
  intro u hu k hk
  simp only [List.mem_cons] at hu
  rcases hu with rfl | rfl | hu
  · exact .inl ⟨u, by simp, hk⟩
  · rcases hF k hk with h1 | h1
    · exact .inl ⟨t, by simp, h1⟩
    · exact .inr h1
  · exact .inl ⟨u, by simp [hu], hk⟩
theorem Have.turn3 {w0 w w' : World} {q r s t : Thing} {ts : List Thing} (h : Have w0 w (q :: r :: s :: t :: ts)) (t' : Thing) (ht : t'.I w') (hk : Kept t.F w w') (hF : ∀ k, t'.F k → t.F k ∨ w.heap.size ≤ k) : Have w0 w' (q :: r :: s :: t' :: ts) := by
  refine h.under t.F hk (fun k h1 h2 => h.2.2.1 t (by simp) k h1 h2) (Have.turn2 h.2.2.2 t' ht hk hF) ?_
  intro u hu k hk
  simp only [List.mem_cons] at hu
  rcases hu with rfl | rfl | rfl | hu
  · exact .inl ⟨u, by simp, hk⟩
  · exact .inl ⟨u, by simp, hk⟩
  · rcases hF k hk with h1 | h1
    · exact .inl ⟨t, by simp, h1⟩
    · exact .inr h1
  · exact .inl ⟨u, by simp [hu], hk⟩
/-- The first thing is left aside. -/
theorem Have.drop {w0 w : World} {t : Thing} {ts : List Thing} (h : Have w0 w (t :: ts)) : Have w0 w ts := h.2.2.2
theorem Have.apart {w0 w : World} {t u : Thing} {ts : List Thing} (h : Have w0 w (t :: ts)) (hu : u ∈ ts) : ∀ k, t.F k → ¬ u.F k := h.2.2.1 u hu
/-- The thing behind the first is left aside. -/
theorem Have.erase1 {w0 w : World} {s t : Thing} {ts : List Thing} (h : Have w0 w (s :: t :: ts)) : Have w0 w (s :: ts) :=
  ⟨h.1, h.2.1, fun u hu => h.2.2.1 u (by simp [hu]), h.2.2.2.2.2.2⟩
theorem Have.erase2 {w0 w : World} {r s t : Thing} {ts : List Thing} (h : Have w0 w (r :: s :: t :: ts)) : Have w0 w (r :: s :: ts) :=
  ⟨h.1, h.2.1, fun u hu => h.2.2.1 u (by rcases List.mem_cons.1 hu with rfl | hu <;> simp [*]), h.2.2.2.erase1⟩
/-- Things that a call made behind w are things behind w0, beside those that were there. -/
theorem Have.join {w0 w w' : World} {us : List Thing} (h : Have w0 w us) : ∀ {ts : List Thing}, Have w w' ts → Have w0 w' (ts ++ us)
  | [], g => h.up g
  | t :: ts, g => by
    refine ⟨g.1, fun k hk => Nat.le_trans h.below.size (g.2.1 k hk), fun u hu k hk hu2 => ?_, Have.join h (ts := ts) g.2.2.2⟩
    rcases List.mem_append.1 hu with h1 | h1
    · exact g.2.2.1 u h1 k hk hu2
    · have h2 := u.lt w (h.one u h1).1 k hu2
      have h3 := g.2.1 k hk
      omega
/-- A variable of its own: a block whose cells are known. -/
def boxT (b : Nat) (e : TypeId) (vs : Array Value) : Thing where
  I := fun w => w.heap[b]? = some (.cells vs e (0, 0))
  F := fun k => k = b
  keep := fun w w' H h hk hf => hk.heap h (hf b rfl)
  lt := fun w h k hk => by
    subst hk
    rcases Nat.lt_or_ge k w.heap.size with h1 | h1
    · exact h1
    · rw [Array.getElem?_eq_none h1] at h; cases h
theorem box_cell {w : World} {b : Nat} {e : TypeId} {vs : Array Value} (h : (boxT b e vs).I w) {i : Nat} {v : Value} (hv : vs[i]? = some v) : w.cell? ⟨b, i, none⟩ = some v := by
  have h2 : w.heap[b]? = some (.cells vs e (0, 0)) := h
  simp [World.cell?, h2, hv]
theorem box_lt {w : World} {b : Nat} {e : TypeId} {vs : Array Value} (h : (boxT b e vs).I w) : b < w.heap.size := (boxT b e vs).lt w h b rfl
theorem box_range {w : World} {b : Nat} {e : TypeId} {vs : List Value} (h : (boxT b e vs.toArray).I w) : w.rangeAt b 0 vs := fun j v hj => by
  rw [Nat.zero_add]
  exact box_cell h (by simpa using hj)
theorem range_up {w w' : World} {b o : Nat} {cs : List Value} (h : w.rangeAt b o cs) (hb : Below w.heap.size w w') : w'.rangeAt b o cs := fun j v hj => cell_up (h j v hj) hb
theorem box_new (w : World) (e : TypeId) (vs : Array Value) : Have w (w.alloc (.cells vs e)) [boxT w.heap.size e vs] :=
  (Have.nil w).push (boxT w.heap.size e vs) (Lw.below_alloc (Below.refl _ _) _) (heap_alloc_new w _) (fun k hk => Nat.le_of_eq hk.symm)
end Go.Proofs.Ytdhljlhecoclfaa.Lw
