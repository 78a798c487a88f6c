/- Rows of numbers behind a slice of headers, each read alone: a thing that grows by append. For every stage. -/
import Derived.Test.YtonbidohhgenlaaGrdRef
import Derived.Test.YtonbidohhgenlaaThing
namespace Go.Proofs.Ytonbidohhgenlaa.Lw
open Go Go.RowKit Grd
set_option linter.unusedVariables false
structure RR (w : World) (B : Nat) (eo : TypeId) (hdr : Value) (R : List Row) : Prop where
  outer : w.ownsRow B eo 1 hdr R.length (R.map rowHd)
  rows : ∀ r ∈ R, B ≤ r.1 ∧ r.1 < w.heap.size ∧ r.2.2.length ≤ r.2.1 ∧ r.2.1 ≤ maxLen ∧ hdr.ownBlock ≠ some r.1 ∧ Rd .i64 w (some ⟨r.1, 0, none⟩) r.2.2
def RRF (hdr : Value) (R : List Row) (k : Nat) : Prop := hdr.ownBlock = some k ∨ ∃ r ∈ R, r.1 = k
theorem RR.keep {F : Nat → Prop} {w w' : World} {B : Nat} {eo : TypeId} {hdr : Value} {R : List Row} (h : RR w B eo hdr R) (k : Kept F w w') (hf : ∀ q, RRF hdr R q → ¬ F q) : RR w' B eo hdr R := by
  refine ⟨k.own h.outer (fun q hq => hf q (.inl hq)), fun r hr => ?_⟩
  obtain ⟨h1, h2, h3, h4, h5, h6⟩ := h.rows r hr
  exact ⟨h1, Nat.lt_of_lt_of_le h2 k.size, h3, h4, h5, h6.keep k (fun a ha => by injection ha with ha; subst ha; exact hf r.1 (.inr ⟨r, hr, rfl⟩))⟩
theorem RR.lt {w : World} {B : Nat} {eo : TypeId} {hdr : Value} {R : List Row} (h : RR w B eo hdr R) {k : Nat} (hk : RRF hdr R k) : k < w.heap.size := by
  rcases hk with hk | ⟨r, hr, rfl⟩
  · exact own_lt h.outer hk
  · exact (h.rows r hr).2.1
def rrT (B : Nat) (eo : TypeId) (hdr : Value) (R : List Row) : Thing where
  I := fun w => RR w B eo hdr R
  F := RRF hdr R
  keep := fun w w' H h hk hf => h.keep hk hf
  lt := fun w h k hk => h.lt hk
theorem rr_start (w : World) (B : Nat) (eo : TypeId) : RR w B eo (.slice none 0 0) [] := ⟨⟨by simp, .inl ⟨rfl, rfl⟩⟩, fun r hr => by simp at hr⟩
theorem RR.hd {w : World} {B : Nat} {eo : TypeId} {hdr : Value} {R : List Row} (h : RR w B eo hdr R) : ∃ A cap, hdr = .slice A R.length cap ∧ R.length ≤ cap ∧ cap ≤ maxLen ∧ (A = none → R.length = 0 ∧ cap = 0) ∧ ∀ j r, R[j]? = some r → ∃ ad, A = some ad ∧ w.cell? (ad.add j) = some (rowHd r) := by
  rcases h.outer.2 with ⟨h1, h2⟩ | ⟨g, cap, cur, h1, h2, h3, h4, h5, h6, h7⟩
  · refine ⟨none, 0, by rw [h1, h2], by omega, by simp, fun _ => ⟨h2, rfl⟩, fun j r hj => ?_⟩
    have := (List.getElem?_eq_some_iff.1 hj).1
    omega
  · refine ⟨some ⟨g, 0, none⟩, cap, h1, h4, h5, (fun h => by cases h), fun j r hj => ⟨_, rfl, ?_⟩⟩
    exact h.outer.cells (g := g) (by rw [h1]; rfl) j _ (by rw [List.getElem?_map, hj]; rfl)
/-- A row that was made is put behind the others. -/
theorem RR.push {w1 w4 : World} {B : Nat} {eo : TypeId} {hdr : Value} {R : List Row} {g cap gr c : Nat} {zs : List Int} (h : RR w1 B eo hdr R)
    (ho : w4.ownsRow B eo 1 (.slice (some ⟨g, 0, none⟩) (R.length + 1) cap) (R.length + 1) (R.map rowHd ++ [rowHd (gr, c, zs)]))
    (hk : Kept (fun q => hdr.ownBlock = some q) w1 w4) (hg : hdr.ownBlock = some g ∨ w1.heap.size ≤ g) (hB : B ≤ gr) (hlt : gr < w1.heap.size) (hap : hdr.ownBlock ≠ some gr)
    (hc : zs.length ≤ c) (hm : c ≤ maxLen) (hr : Rd .i64 w1 (some ⟨gr, 0, none⟩) zs) : RR w4 B eo (.slice (some ⟨g, 0, none⟩) (R.length + 1) cap) (R ++ [(gr, c, zs)]) := by
  refine ⟨by simpa using ho, fun r hrm => ?_⟩
  have hown : (Value.slice (some ⟨g, 0, none⟩) (R.length + 1) cap).ownBlock = some g := rfl
  rw [hown]
  rcases List.mem_append.1 hrm with h1 | h1
  · obtain ⟨a1, a2, a3, a4, a5, a6⟩ := h.rows r h1
    refine ⟨a1, Nat.lt_of_lt_of_le a2 hk.size, a3, a4, ?_, a6.keep hk (fun a ha => by injection ha with ha; subst ha; exact a5)⟩
    intro e
    injection e with e
    rcases hg with hg | hg
    · rw [e] at hg; exact a5 hg
    · omega
  · simp at h1
    subst h1
    refine ⟨hB, Nat.lt_of_lt_of_le hlt hk.size, hc, hm, ?_, hr.keep hk (fun a ha => by injection ha with ha; subst ha; exact hap)⟩
    intro e
    injection e with e
    rcases hg with hg | hg
    · rw [e] at hg; exact hap hg
    · simp only at e; omega
theorem rr_of {w0 w : World} {t : Thing} {B : Nat} {eo : TypeId} {hdr : Value} {R : List Row} {ts : List Thing} (h : Have w0 w (t :: rrT B eo hdr R :: ts)) : RR w B eo hdr R := h.2.2.2.1
theorem rr_up {w w' : World} {B : Nat} {eo : TypeId} {hdr : Value} {R : List Row} (h : RR w B eo hdr R) (hb : Below w.heap.size w w') : RR w' B eo hdr R := h.keep (Kept.of_below (F := fun _ => False) hb) (fun _ _ h => h)
/-- A row that was made behind a thing and rows is appended to the rows. -/
theorem Have.row_push {w0 w5 w6 w7 : World} {t : Thing} {ts : List Thing} {B : Nat} {eo : TypeId} {hdr : Value} {R : List Row} {o : Obj} {g6 cap6 m g7 cap7 : Nat} {Z : List Int} (h : Have w0 w5 (t :: rrT B eo hdr R :: ts)) (h6 : Below w5.heap.size w5 w6)
    (hB : B ≤ w5.heap.size) (hg6 : w5.heap.size ≤ g6) (hl6 : g6 < w6.heap.size) (hZ : Z.length = m) (hc : m ≤ cap6) (hm : cap6 ≤ maxLen) (hr : Rd .i64 w6 (some ⟨g6, 0, none⟩) Z)
    (own7 : w7.ownsRow B eo 1 (.slice (some ⟨g7, 0, none⟩) (R.length + 1) cap7) (R.length + 1) (R.map rowHd ++ [.slice (some ⟨g6, 0, none⟩) m cap6]))
    (grow7 : (w6.alloc o).grownBy w7 hdr.ownBlock) (hg7 : hdr.ownBlock = some g7 ∨ g7 = (w6.alloc o).heap.size) :
    Have w0 w7 (t :: rrT B eo (.slice (some ⟨g7, 0, none⟩) (R.length + 1) cap7) (R ++ [(g6, cap6, Z)]) :: ts) ∧ Kept (fun q => hdr.ownBlock = some q) w6 w7 := by
  have hr5 := rr_of h
  have K7 : Kept (fun q => hdr.ownBlock = some q) w6 w7 := ((Kept.refl _ w6).alloc o).grown grow7 (fun q hq => .inl hq)
  have hap : hdr.ownBlock ≠ some g6 := fun e => by
    have := own_lt hr5.outer e
    omega
  have e6 : (Value.slice (some ⟨g6, 0, none⟩) m cap6) = rowHd (g6, cap6, Z) := by unfold rowHd; rw [hZ]
  rw [e6] at own7
  rw [World.size_alloc] at hg7
  have hg8 : hdr.ownBlock = some g7 ∨ w6.heap.size ≤ g7 := hg7.imp id (fun e => by omega)
  have h7 := (rr_up hr5 h6).push own7 K7 hg8 (by omega) hl6 hap (by omega) hm hr
  refine ⟨h.turn1 (rrT B eo (.slice (some ⟨g7, 0, none⟩) (R.length + 1) cap7) (R ++ [(g6, cap6, Z)])) h7 ((Kept.of_below (F := RRF hdr R) h6).trans K7 (fun k _ hk => .inl hk)) ?_, K7⟩
  intro k hk
  have h6s := h6.size
  rcases hk with hk | ⟨r, hr, rfl⟩
  · have e : g7 = k := by injection hk
    subst e
    rcases hg8 with h1 | h1
    · exact .inl (.inl h1)
    · exact .inr (by omega)
  · rcases List.mem_append.1 hr with h1 | h1
    · exact .inl (.inr ⟨r, h1, rfl⟩)
    · simp at h1
      subst h1
      exact .inr hg6
end Go.Proofs.Ytonbidohhgenlaa.Lw
