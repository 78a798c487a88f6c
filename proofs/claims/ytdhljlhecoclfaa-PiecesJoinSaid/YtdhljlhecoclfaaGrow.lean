/- A world that a call has grown, written out: what was there, new blocks behind it, and a count of draws. -/
import Derived.Test.YtdhljlhecoclfaaRows
import Derived.WalkKit
import Derived.Handy
import Derived.WalkSmall
import Derived.Deep.Draws
namespace Go.Proofs.Ytdhljlhecoclfaa.Lw
open Go Go.RowKit
def grow (w : World) (bs : Array Obj) (d : Nat) : World := { w with heap := w.heap ++ bs, drawn := d }
theorem below_grow {w w' : World} (h : Below w.heap.size w w') : ∃ (bs : Array Obj) (d : Nat), w' = grow w bs d := by
  obtain ⟨heap, tape, drawn, os, output⟩ := w
  obtain ⟨heap', tape', drawn', os', output'⟩ := w'
  obtain ⟨h1, h2, h3, h4, h5⟩ := h
  simp only at h1 h2 h3 h4 h5
  subst h1 h2 h3
  refine ⟨heap'.extract heap.size heap'.size, drawn', ?_⟩
  simp only [grow, World.mk.injEq, and_true]
  apply Array.ext_getElem?
  intro i
  rw [Array.getElem?_append]
  split
  · rename_i hi; exact h5 i hi
  · rename_i hi
    rw [Array.getElem?_extract]
    split
    · congr 1; omega
    · rw [Array.getElem?_eq_none (by omega)]
theorem grow_below (w : World) (bs : Array Obj) (d : Nat) : Below w.heap.size w (grow w bs d) :=
  ⟨rfl, rfl, rfl, by simp [grow], fun k hk => by simp only [grow]; rw [Array.getElem?_append, if_pos hk]⟩
theorem below_over {w0 w : World} (h : Below w0.heap.size w0 w) (bs : Array Obj) (d : Nat) : Below w0.heap.size w0 (grow w bs d) :=
  h.trans ((grow_below w bs d).mono h.size)
@[simp, go_sem] theorem size_grow (w : World) (bs : Array Obj) (d : Nat) : (grow w bs d).heap.size = w.heap.size + bs.size := by simp [grow]
@[go_sem] theorem cell_grow (w : World) (bs : Array Obj) (d n i : Nat) (h : n < w.heap.size) : (grow w bs d).cell? ⟨n, i, none⟩ = w.cell? ⟨n, i, none⟩ := (grow_below w bs d).cell (p := ⟨n, i, none⟩) h
@[go_sem] theorem frozen_grow (w : World) (bs : Array Obj) (d n i : Nat) (h : n < w.heap.size) : (grow w bs d).frozen? ⟨n, i, none⟩ = w.frozen? ⟨n, i, none⟩ := (grow_below w bs d).frozen (p := ⟨n, i, none⟩) h
@[go_sem] theorem setCell_grow (w : World) (bs : Array Obj) (d n i : Nat) (v : Value) (h : n < w.heap.size) : (grow w bs d).setCell ⟨n, i, none⟩ v = grow (w.setCell ⟨n, i, none⟩ v) bs d := by
  simp only [grow, World.setCell, World.mk.injEq, and_true]
  apply Array.ext_getElem?
  intro j
  simp only [Array.getElem?_modify, Array.getElem?_append, Array.size_modify]
  by_cases hn : n = j
  · subst hn; simp only [if_pos h, if_true]
  · simp only [if_neg hn]
@[go_sem] theorem drew_grow (w : World) (bs : Array Obj) (d : Nat) : (grow w bs d).drew = grow w bs (d + 1) := rfl
@[go_sem] theorem drewN_grow (w : World) (bs : Array Obj) (d n : Nat) : (grow w bs d).drewN n = grow w bs (d + n) := rfl
@[go_sem] theorem grow_drew (w : World) (bs : Array Obj) (d : Nat) : grow w.drew bs d = grow w bs d := rfl
@[go_sem] theorem grow_drewN (w : World) (bs : Array Obj) (d n : Nat) : grow (w.drewN n) bs d = grow w bs d := rfl
@[go_sem] theorem grow_grow (w : World) (bs cs : Array Obj) (d e : Nat) : grow (grow w bs d) cs e = grow w (bs ++ cs) e := by simp [grow, Array.append_assoc]
@[go_sem] theorem alloc_drewN (w : World) (n : Nat) (o : Obj) : (w.drewN n).alloc o = (w.alloc o).drewN n := rfl
@[go_sem] theorem setCell_drewN (w : World) (n : Nat) (a : Addr) (v : Value) : (w.drewN n).setCell a v = (w.setCell a v).drewN n := rfl
theorem lt_grow {n : Nat} {w : World} {bs : Array Obj} {d : Nat} (h : n < w.heap.size) : n < (grow w bs d).heap.size := by simp; omega
theorem lt_alloc {n : Nat} {w : World} {o : Obj} (h : n < w.heap.size) : n < (w.alloc o).heap.size := by simp; omega
@[simp, go_sem] theorem lt_1 (x z0 : Nat) : x < x + 1 + z0 := by omega
@[simp, go_sem] theorem ne_1 (x z0 : Nat) : (x = x + 1 + z0) = False := by simp; omega
@[simp, go_sem] theorem en_1 (x z0 : Nat) : (x + 1 + z0 = x) = False := by simp; omega
@[simp, go_sem] theorem lt_2 (x z0 z1 : Nat) : x < x + 1 + z0 + z1 := by omega
@[simp, go_sem] theorem ne_2 (x z0 z1 : Nat) : (x = x + 1 + z0 + z1) = False := by simp; omega
@[simp, go_sem] theorem en_2 (x z0 z1 : Nat) : (x + 1 + z0 + z1 = x) = False := by simp; omega
@[simp, go_sem] theorem lt_3 (x z0 z1 z2 : Nat) : x < x + 1 + z0 + z1 + z2 := by omega
@[simp, go_sem] theorem ne_3 (x z0 z1 z2 : Nat) : (x = x + 1 + z0 + z1 + z2) = False := by simp; omega
@[simp, go_sem] theorem en_3 (x z0 z1 z2 : Nat) : (x + 1 + z0 + z1 + z2 = x) = False := by simp; omega
@[simp, go_sem] theorem lt_4 (x z0 z1 z2 z3 : Nat) : x < x + 1 + z0 + z1 + z2 + z3 := by omega
@[simp, go_sem] theorem ne_4 (x z0 z1 z2 z3 : Nat) : (x = x + 1 + z0 + z1 + z2 + z3) = False := by simp; omega
@[simp, go_sem] theorem en_4 (x z0 z1 z2 z3 : Nat) : (x + 1 + z0 + z1 + z2 + z3 = x) = False := by simp; omega
@[simp, go_sem] theorem lt_5 (x z0 z1 z2 z3 z4 : Nat) : x < x + 1 + z0 + z1 + z2 + z3 + z4 := by omega
@[simp, go_sem] theorem ne_5 (x z0 z1 z2 z3 z4 : Nat) : (x = x + 1 + z0 + z1 + z2 + z3 + z4) = False := by simp; omega
@[simp, go_sem] theorem en_5 (x z0 z1 z2 z3 z4 : Nat) : (x + 1 + z0 + z1 + z2 + z3 + z4 = x) = False := by simp; omega
@[simp, go_sem] theorem lt_6 (x z0 z1 z2 z3 z4 z5 : Nat) : x < x + 1 + z0 + z1 + z2 + z3 + z4 + z5 := by omega
@[simp, go_sem] theorem ne_6 (x z0 z1 z2 z3 z4 z5 : Nat) : (x = x + 1 + z0 + z1 + z2 + z3 + z4 + z5) = False := by simp; omega
@[simp, go_sem] theorem en_6 (x z0 z1 z2 z3 z4 z5 : Nat) : (x + 1 + z0 + z1 + z2 + z3 + z4 + z5 = x) = False := by simp; omega
@[simp, go_sem] theorem lt_7 (x z0 z1 z2 z3 z4 z5 z6 : Nat) : x < x + 1 + z0 + z1 + z2 + z3 + z4 + z5 + z6 := by omega
@[simp, go_sem] theorem ne_7 (x z0 z1 z2 z3 z4 z5 z6 : Nat) : (x = x + 1 + z0 + z1 + z2 + z3 + z4 + z5 + z6) = False := by simp; omega
@[simp, go_sem] theorem en_7 (x z0 z1 z2 z3 z4 z5 z6 : Nat) : (x + 1 + z0 + z1 + z2 + z3 + z4 + z5 + z6 = x) = False := by simp; omega
@[simp, go_sem] theorem lt_8 (x z0 z1 z2 z3 z4 z5 z6 z7 : Nat) : x < x + 1 + z0 + z1 + z2 + z3 + z4 + z5 + z6 + z7 := by omega
@[simp, go_sem] theorem ne_8 (x z0 z1 z2 z3 z4 z5 z6 z7 : Nat) : (x = x + 1 + z0 + z1 + z2 + z3 + z4 + z5 + z6 + z7) = False := by simp; omega
@[simp, go_sem] theorem en_8 (x z0 z1 z2 z3 z4 z5 z6 z7 : Nat) : (x + 1 + z0 + z1 + z2 + z3 + z4 + z5 + z6 + z7 = x) = False := by simp; omega
@[simp, go_sem] theorem lt_9 (x z0 z1 z2 z3 z4 z5 z6 z7 z8 : Nat) : x < x + 1 + z0 + z1 + z2 + z3 + z4 + z5 + z6 + z7 + z8 := by omega
@[simp, go_sem] theorem ne_9 (x z0 z1 z2 z3 z4 z5 z6 z7 z8 : Nat) : (x = x + 1 + z0 + z1 + z2 + z3 + z4 + z5 + z6 + z7 + z8) = False := by simp; omega
@[simp, go_sem] theorem en_9 (x z0 z1 z2 z3 z4 z5 z6 z7 z8 : Nat) : (x + 1 + z0 + z1 + z2 + z3 + z4 + z5 + z6 + z7 + z8 = x) = False := by simp; omega
@[simp, go_sem] theorem lt_10 (x z0 z1 z2 z3 z4 z5 z6 z7 z8 z9 : Nat) : x < x + 1 + z0 + z1 + z2 + z3 + z4 + z5 + z6 + z7 + z8 + z9 := by omega
@[simp, go_sem] theorem ne_10 (x z0 z1 z2 z3 z4 z5 z6 z7 z8 z9 : Nat) : (x = x + 1 + z0 + z1 + z2 + z3 + z4 + z5 + z6 + z7 + z8 + z9) = False := by simp; omega
@[simp, go_sem] theorem en_10 (x z0 z1 z2 z3 z4 z5 z6 z7 z8 z9 : Nat) : (x + 1 + z0 + z1 + z2 + z3 + z4 + z5 + z6 + z7 + z8 + z9 = x) = False := by simp; omega
@[simp, go_sem] theorem lt_11 (x z0 z1 z2 z3 z4 z5 z6 z7 z8 z9 z10 : Nat) : x < x + 1 + z0 + z1 + z2 + z3 + z4 + z5 + z6 + z7 + z8 + z9 + z10 := by omega
@[simp, go_sem] theorem ne_11 (x z0 z1 z2 z3 z4 z5 z6 z7 z8 z9 z10 : Nat) : (x = x + 1 + z0 + z1 + z2 + z3 + z4 + z5 + z6 + z7 + z8 + z9 + z10) = False := by simp; omega
@[simp, go_sem] theorem en_11 (x z0 z1 z2 z3 z4 z5 z6 z7 z8 z9 z10 : Nat) : (x + 1 + z0 + z1 + z2 + z3 + z4 + z5 + z6 + z7 + z8 + z9 + z10 = x) = False := by simp; omega
@[simp, go_sem] theorem lt_12 (x z0 z1 z2 z3 z4 z5 z6 z7 z8 z9 z10 z11 : Nat) : x < x + 1 + z0 + z1 + z2 + z3 + z4 + z5 + z6 + z7 + z8 + z9 + z10 + z11 := by omega
@[simp, go_sem] theorem ne_12 (x z0 z1 z2 z3 z4 z5 z6 z7 z8 z9 z10 z11 : Nat) : (x = x + 1 + z0 + z1 + z2 + z3 + z4 + z5 + z6 + z7 + z8 + z9 + z10 + z11) = False := by simp; omega
@[simp, go_sem] theorem en_12 (x z0 z1 z2 z3 z4 z5 z6 z7 z8 z9 z10 z11 : Nat) : (x + 1 + z0 + z1 + z2 + z3 + z4 + z5 + z6 + z7 + z8 + z9 + z10 + z11 = x) = False := by simp; omega
@[simp, go_sem] theorem lt_13 (x z0 z1 z2 z3 z4 z5 z6 z7 z8 z9 z10 z11 z12 : Nat) : x < x + 1 + z0 + z1 + z2 + z3 + z4 + z5 + z6 + z7 + z8 + z9 + z10 + z11 + z12 := by omega
@[simp, go_sem] theorem ne_13 (x z0 z1 z2 z3 z4 z5 z6 z7 z8 z9 z10 z11 z12 : Nat) : (x = x + 1 + z0 + z1 + z2 + z3 + z4 + z5 + z6 + z7 + z8 + z9 + z10 + z11 + z12) = False := by simp; omega
@[simp, go_sem] theorem en_13 (x z0 z1 z2 z3 z4 z5 z6 z7 z8 z9 z10 z11 z12 : Nat) : (x + 1 + z0 + z1 + z2 + z3 + z4 + z5 + z6 + z7 + z8 + z9 + z10 + z11 + z12 = x) = False := by simp; omega
theorem grow_nil (w : World) : grow w #[] w.drawn = w := by simp [grow]
/-- The end of a walk: what was there is as it was. -/
theorem below_alloc {w w' : World} (h : Below w.heap.size w w') (o : Obj) : Below w.heap.size w (w'.alloc o) := h.alloc h.size o
end Go.Proofs.Ytdhljlhecoclfaa.Lw
