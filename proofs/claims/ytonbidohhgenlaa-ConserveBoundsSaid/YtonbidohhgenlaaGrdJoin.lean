/- The walk of the document's own answer Join for layer 6. Printed by wip/gen/grdjoin.py. -/
import Derived.Test.YtonbidohhgenlaaGrdNew
import Derived.Test.YtonbidohhgenlaaGrdDef
import Derived.Test.YtonbidohhgenlaaWidROfInt
import Derived.Test.YtonbidohhgenlaaWidRPlus
import Derived.Test.YtonbidohhgenlaaWidRMinus
import Derived.Test.YtonbidohhgenlaaWidRInt
import Derived.Deep.RegionHeld3
import Derived.Deep.DeepCutAuto
namespace Go.Proofs.Ytonbidohhgenlaa.Grd
open Go Go.RowKit Lw
set_option linter.unusedVariables false
theorem own_slice {w : World} {B : Nat} {e : TypeId} {size : Nat} {v : Value} {n : Nat} {xs : List Value} (h : w.ownsRow B e size v n xs) : ∃ A c, v = .slice A n c := by
  rcases h.2 with ⟨h1, h2⟩ | ⟨g, cap, cur, h1, _⟩
  · exact ⟨none, 0, by rw [h1, h2]⟩
  · exact ⟨_, _, h1⟩
/-- Rows of one's own, behind a slice of headers. -/
structure RO (w : World) (B : Nat) (hdr : Value) (R : List Row) : Prop where
  outer : w.ownsRow B 37 1 hdr R.length (R.map rowHd)
  rows : ∀ r ∈ R, w.ownsRow B 2 1 (rowHd r) r.2.2.length (r.2.2.map (Value.int .i64))
  apart : ∀ r ∈ R, hdr.ownBlock ≠ some r.1
  nd : (R.map (·.1)).Nodup
theorem RO.push {w w4 : World} {B : Nat} {hdr hdr' : Value} {R : List Row} {g c : Nat} {zs : List Int} (h : RO w B hdr R) (hk : Kept (fun q => hdr.ownBlock = some q) w w4)
    (ho : w4.ownsRow B 37 1 hdr' (R.length + 1) (R.map rowHd ++ [rowHd (g, c, zs)]))
    (hr : w4.ownsRow B 2 1 (rowHd (g, c, zs)) zs.length (zs.map (Value.int .i64))) (hg : w.heap.size ≤ g)
    (hh : hdr'.ownBlock = hdr.ownBlock ∨ ∃ q, hdr'.ownBlock = some q ∧ w.heap.size ≤ q ∧ q ≠ g) : RO w4 B hdr' (R ++ [(g, c, zs)]) := by
  have hold : ∀ q, hdr.ownBlock = some q → q < w.heap.size := fun q hq => own_lt h.outer hq
  have hrow : ∀ r ∈ R, r.1 < w.heap.size := fun r hr => own_lt (h.rows r hr) rfl
  refine ⟨by simpa using ho, ?_, ?_, ?_⟩
  · intro r hrm
    rcases List.mem_append.1 hrm with h1 | h1
    · exact hk.own (h.rows r h1) (fun q hq e => by
        simp [rowHd, Value.ownBlock] at hq
        exact h.apart r h1 (by rw [hq, e]))
    · simp at h1
      subst h1
      exact hr
  · intro r hrm
    rcases List.mem_append.1 hrm with h1 | h1
    · rcases hh with h2 | ⟨q, h2, h3, h4⟩
      · rw [h2]; exact h.apart r h1
      · rw [h2]; intro e; injection e with e; have := hrow r h1; omega
    · simp at h1
      subst h1
      rcases hh with h2 | ⟨q, h2, h3, h4⟩
      · rw [h2]; intro e; have := hold _ e; simp only at this; omega
      · rw [h2]; intro e; injection e with e; exact h4 e
  · rw [List.map_append, List.nodup_append]
    refine ⟨h.nd, by simp, ?_⟩
    intro x hx y hy e
    simp at hy
    subst hy
    subst e
    obtain ⟨r, hr, e⟩ := List.mem_map.1 hx
    have := hrow r hr
    omega
theorem RO.keep {F : Nat → Prop} {w w' : World} {B : Nat} {hdr : Value} {R : List Row} (h : RO w B hdr R) (k : Kept F w w') (hf : ∀ q, B ≤ q → ¬ F q) : RO w' B hdr R where
  outer := k.own h.outer (fun q hq => hf q (own_ge h.outer q hq))
  rows := fun r hr => k.own (h.rows r hr) (fun q hq => hf q (own_ge (h.rows r hr) q hq))
  apart := h.apart
  nd := h.nd
/-- Laid into a grid's block that lies below. -/
theorem RO.laid {w : World} {B b : Nat} {hdr old : Value} {R : List Row} (h : RO w B hdr R) (hb : b < B) (hc : w.heap[b]? = some (.cells #[old] 61 (0, 0))) : RG (w.setCell ⟨b, 0, none⟩ hdr) b hdr R := by
  have hk : Kept (fun q => q = b) w (w.setCell ⟨b, 0, none⟩ hdr) := Kept.set (F := fun q => q = b) (Kept.refl _ w) (.inl rfl) 0 _
  have h2 := h.keep hk (fun q hq e => by omega)
  refine ⟨?_, own_mono h2.outer (Nat.zero_le _), fun r hr => own_mono (h2.rows r hr) (Nat.zero_le _), ?_, fun r hr => ⟨?_, h2.apart r hr⟩, h2.nd⟩
  · have := heap_setCell_same w b 0 _ _ hdr hc
    simpa using this
  · intro e; have := own_ge h2.outer b e; omega
  · have := own_ge (h2.rows r hr) r.1 rfl; omega
theorem rowS_next (s : Int) (xs ys : List Int) (j : Nat) (x y : Int) (hx : xs[j]? = some x) (hy : ys[j]? = some y) : rowS s (xs.take (j + 1)) (ys.take (j + 1)) = rowS s (xs.take j) (ys.take j) ++ [x + s * y] := by
  unfold rowS
  rw [List.take_add_one, List.take_add_one, hx, hy]
  have h1 := (List.getElem?_eq_some_iff.1 hx).1
  have h2 := (List.getElem?_eq_some_iff.1 hy).1
  rw [List.zipWith_append (by simp; omega)]
  rfl
theorem gridS_next (s : Int) (L M : List (List Int)) (k : Nat) (x y : List Int) (hx : L[k]? = some x) (hy : M[k]? = some y) : gridS s (L.take (k + 1)) (M.take (k + 1)) = gridS s (L.take k) (M.take k) ++ [rowS s x y] := by
  unfold gridS
  rw [List.take_add_one, List.take_add_one, hx, hy]
  have h1 := (List.getElem?_eq_some_iff.1 hx).1
  have h2 := (List.getElem?_eq_some_iff.1 hy).1
  rw [List.zipWith_append (by simp; omega)]
  rfl
theorem not_fits {s : Int} {L M : List (List Int)} {k j : Nat} {xs ys : List Int} {x y : Int} (hL : L[k]? = some xs) (hM : M[k]? = some ys) (hx : xs[j]? = some x) (hy : ys[j]? = some y) (hf : Wid.fit64 (x + s * y) = false) : fitsAll (gridS s L M) = false := by
  unfold fitsAll
  rw [List.all_eq_false]
  refine ⟨rowS s xs ys, ?_, ?_⟩
  · refine List.mem_of_getElem? (i := k) ?_
    unfold gridS
    rw [List.getElem?_zipWith, hL, hM]
  · rw [Bool.not_eq_true, List.all_eq_false]
    refine ⟨x + s * y, ?_, by simp [hf]⟩
    refine List.mem_of_getElem? (i := j) ?_
    unfold rowS
    rw [List.getElem?_zipWith, hx, hy]
end Go.Proofs.Ytonbidohhgenlaa.Grd
