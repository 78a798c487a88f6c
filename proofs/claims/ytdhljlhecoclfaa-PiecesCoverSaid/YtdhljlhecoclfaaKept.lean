/- Memory that a call turns at named blocks alone: what else was there is as it was. For every stage that has things with memory. -/
import Derived.Test.YtdhljlhecoclfaaRow
namespace Go.Proofs.Ytdhljlhecoclfaa.Lw
open Go Go.RowKit
set_option linter.unusedVariables false
/-- w' is w, but for the blocks F and new ones. -/
structure Kept (F : Nat → Prop) (w w' : World) : Prop where
  os : w'.os = w.os
  tape : w'.tape = w.tape
  output : w'.output = w.output
  size : w.heap.size ≤ w'.heap.size
  block : ∀ k, k < w.heap.size → ¬ F k → w'.heap[k]? = w.heap[k]?
theorem Kept.refl (F : Nat → Prop) (w : World) : Kept F w w := ⟨rfl, rfl, rfl, Nat.le_refl _, fun _ _ _ => rfl⟩
theorem Kept.of_below {F : Nat → Prop} {w w' : World} (h : Below w.heap.size w w') : Kept F w w' :=
  ⟨h.1, h.2, h.3, h.4, fun k hk _ => h.5 k hk⟩
theorem Kept.mono {F G : Nat → Prop} {w w' : World} (h : Kept F w w') (hf : ∀ k, k < w.heap.size → F k → G k) : Kept G w w' :=
  ⟨h.os, h.tape, h.output, h.size, fun k hk hg => h.block k hk fun hF => hg (hf k hk hF)⟩
theorem Kept.trans {F G : Nat → Prop} {w w1 w2 : World} (h : Kept F w w1) (g : Kept G w1 w2) (hf : ∀ k, k < w.heap.size → G k → F k) : Kept F w w2 :=
  ⟨g.os.trans h.os, g.tape.trans h.tape, g.output.trans h.output, Nat.le_trans h.size g.size,
    fun k hk hF => (g.block k (Nat.lt_of_lt_of_le hk h.size) fun hG => hF (hf k hk hG)).trans (h.block k hk hF)⟩
theorem Kept.then {F : Nat → Prop} {w w1 w2 : World} (h : Kept F w w1) (g : Below w1.heap.size w1 w2) : Kept F w w2 :=
  h.trans (Kept.of_below (F := fun _ => False) g) (fun _ _ h => h.elim)
theorem Kept.below {w w' : World} (h : Kept (fun _ => False) w w') : Below w.heap.size w w' :=
  ⟨h.os, h.tape, h.output, h.size, fun k hk => h.block k hk fun h => h⟩
theorem Kept.alloc {F : Nat → Prop} {w w1 : World} (h : Kept F w w1) (o : Obj) : Kept F w (w1.alloc o) := h.then (Lw.below_alloc (Below.refl _ _) o)
theorem Kept.drew {F : Nat → Prop} {w w1 : World} (h : Kept F w w1) : Kept F w w1.drew := h.then (Below.drew (Below.refl _ _))
theorem Kept.drewN {F : Nat → Prop} {w w1 : World} (h : Kept F w w1) (n : Nat) : Kept F w (w1.drewN n) := h.then (below_drewN (Below.refl _ _) n)
theorem Kept.over {F : Nat → Prop} {w w1 : World} (h : Kept F w w1) (bs : Array Obj) (d : Nat) : Kept F w (grow w1 bs d) := h.then (grow_below _ _ _)
theorem Kept.set {F : Nat → Prop} {w w1 : World} (h : Kept F w w1) {g : Nat} (hg : F g ∨ w.heap.size ≤ g) (i : Nat) (v : Value) : Kept F w (w1.setCell ⟨g, i, none⟩ v) := by
  refine ⟨h.os, h.tape, h.output, by simpa [World.setCell] using h.size, ?_⟩
  intro k hk hF
  rw [← h.block k hk hF]
  simp only [World.setCell, Array.getElem?_modify]
  rw [if_neg]
  rintro rfl
  rcases hg with hg | hg
  · exact hF hg
  · omega
theorem Kept.grown {F : Nat → Prop} {w X w2 : World} {row : Option Nat} (h : Kept F w X) (g : X.grownBy w2 row) (hrow : ∀ q, row = some q → F q ∨ w.heap.size ≤ q) : Kept F w w2 := by
  refine ⟨g.os.trans h.os, g.tape.trans h.tape, g.output.trans h.output, Nat.le_trans h.size g.size, ?_⟩
  intro k hk hF
  refine (g.block k (Nat.lt_of_lt_of_le hk h.size) ?_).trans (h.block k hk hF)
  intro e
  rcases hrow k e.symm with h1 | h1
  · exact hF h1
  · omega
theorem Kept.low {F : Nat → Prop} {B : Nat} {w0 w w' : World} (h : Kept F w w') (hb : Below B w0 w) (hB : B ≤ w.heap.size) (hf : ∀ q, F q → B ≤ q) : Below B w0 w' :=
  ⟨h.os.trans hb.1, h.tape.trans hb.2, h.output.trans hb.3, Nat.le_trans hb.4 h.size, fun k hk => (h.block k (by omega) fun hF => by have := hf k hF; omega).trans (hb.5 k hk)⟩
theorem Kept.heap {F : Nat → Prop} {w w' : World} (h : Kept F w w') {b : Nat} {o : Obj} (hb : w.heap[b]? = some o) (hf : ¬ F b) : w'.heap[b]? = some o := by
  have hlt : b < w.heap.size := by
    rcases Nat.lt_or_ge b w.heap.size with h1 | h1
    · exact h1
    · rw [Array.getElem?_eq_none h1] at hb; cases hb
  rw [h.block b hlt hf, hb]
theorem Kept.cell {F : Nat → Prop} {w w' : World} (h : Kept F w w') {a : Addr} {v : Value} (hc : w.cell? a = some v) (hf : ¬ F a.block) : w'.cell? a = some v := by
  rw [World.cell?_of_block (h.block a.block (cell_lt hc) hf), hc]
theorem Kept.own {F : Nat → Prop} {w w' : World} {base : Nat} {e : TypeId} {size : Nat} {v : Value} {n : Nat} {xs : List Value} (h : Kept F w w') (ho : w.ownsRow base e size v n xs) (hf : ∀ q, v.ownBlock = some q → ¬ F q) : w'.ownsRow base e size v n xs := by
  refine ⟨ho.1, ?_⟩
  rcases ho.2 with h0 | ⟨g, cap, cur, rfl, hb, hg, h1, h2, h3, h4⟩
  · exact .inl h0
  · exact .inr ⟨g, cap, cur, rfl, hb, h.heap hg (hf g rfl), h1, h2, h3, h4⟩
theorem Rd.keep {k : IntKind} {F : Nat → Prop} {w w' : World} {A : Option Addr} {zs : List Int} (h : Rd k w A zs) (g : Kept F w w') (hf : ∀ a, A = some a → ¬ F a.block) : Rd k w' A zs := by
  intro j v hv
  obtain ⟨ad, e, hc⟩ := h j v hv
  refine ⟨ad, e, g.cell hc ?_⟩
  have hbl : (ad.add j).block = ad.block := by unfold Addr.add; split <;> rfl
  rw [hbl]
  exact hf ad e
theorem own_mono {w : World} {base base' : Nat} {e : TypeId} {size : Nat} {v : Value} {n : Nat} {xs : List Value} (h : w.ownsRow base e size v n xs) (hb : base' ≤ base) : w.ownsRow base' e size v n xs := by
  refine ⟨h.1, ?_⟩
  rcases h.2 with h0 | ⟨g, cap, cur, h1, h2, h3⟩
  · exact .inl h0
  · exact .inr ⟨g, cap, cur, h1, Nat.le_trans hb h2, h3⟩
end Go.Proofs.Ytdhljlhecoclfaa.Lw
