/- Texts that the statement QuantLoaded leans on, put together: StkPlN. -/
import Derived.Test.YtiblpdjehknbcaaGreatMg
import Derived.Test.YtiblpdjehknbcaaGreatQl
import Derived.Test.YtiblpdjehknbcaaGreatQm
import Derived.Test.YtiblpdjehknbcaaGreatQn
import Derived.Deep.LoopGhost
import Derived.Deep.RegionHeld3
import Derived.Deep.DeepCutAuto
import Derived.Deep.QuietTactic
import Derived.BigQuiet
/- What StackPlays wants beside the contracts of the calls. Printed by wip/gen/stk20.py. -/
namespace Go.Proofs.YtiblpdjehknbcaaGreat.Stk
open Go Go.RowKit Lw Grd Lin Con Shp Sk Exa Lev Go.Shelf
set_option linter.unusedVariables false
set_option linter.unusedSimpArgs false
theorem in64_flat {m n : Nat} {L : List (List Int)} (h : Dims m n L) : In64 L.flatten := fun v hv => by
  obtain ⟨r, hr, h2⟩ := List.mem_flatten.1 hv
  exact (h.rows r hr).2 v h2
theorem elv_in {w : World} {v : Value} {F : Nat → Prop} {c : Cfg} {l : Int} {st : LS} (h : ELV w v F c l st) : In64 st.fl := by
  cases st with
  | A L =>
    obtain ⟨p, rfl, h2⟩ := h.2
    exact h2.in64
  | S L =>
    obtain ⟨p, rfl, h2⟩ := h.2
    exact in64_flat h2.dims
theorem st_lvl {w : World} {p : Addr} {F : Nat → Prop} {c : Cfg} {sts : List LS} (h : ST w p F c sts) {n : Nat} {st : LS} (hs : sts[n]? = some st) : ∃ v Q, ELV w v Q c (n : Int) st := by
  obtain ⟨hr, hc, hlen, b, B0, hdr, vals, ts, rfl, hrow, hI, rfl⟩ := h
  obtain ⟨st2, v, Q, e1, e2, e3⟩ := hrow.at (j := n) ((List.getElem?_eq_some_iff.1 hs).1)
  rw [hs] at e1
  injection e1 with e1
  subst e1
  exact ⟨v, Q, hI.1 (elvT v Q c (n : Int) st) (List.mem_cons_of_mem _ (List.mem_cons_of_mem _ (List.mem_of_getElem? e3)))⟩
/-- A level of the document's stack, as the law reaches it; what its turning turns. -/
theorem dk_lvl {w : World} {b0 : Nat} {F : Nat → Prop} {c : Cfg} {sts : List LS} (h : DK w ⟨b0, 0, none⟩ F c sts) {n : Nat} {st : LS} (hs : sts[n]? = some st) : ∃ (g0 N cap0 : Nat) (p0 : Addr) (Q0 : Nat → Prop), w.cell? ⟨b0, 5, none⟩ = some (.slice (some ⟨g0, 0, none⟩) N cap0) ∧ n < N ∧ w.cell? ⟨g0, n, none⟩ = some (.pointer (some p0)) ∧ DLV w p0 Q0 c (n : Int) st ∧ (∀ k, Q0 k → F k) ∧
    (∀ (w' : World) (Q' : Nat → Prop) (st' : LS), DLV w' p0 Q' c (n : Int) st' → Kept Q0 w w' → (∀ k, Q' k → Q0 k ∨ w.heap.size ≤ k) → ∃ F', DK w' ⟨b0, 0, none⟩ F' c (sts.set n st') ∧ Kept F w w' ∧ (∀ q, F' q → F q ∨ w.heap.size ≤ q)) := by
  obtain ⟨hr, hc, hl, b1, B0, hdr0, vals0, ts0, e0, hrow0, hI, rfl⟩ := h
  injection e0 with e0
  subst e0
  have hH := Hold.start hI
  obtain ⟨g0, cap0, rfl, hcs⟩ := ownD_cell (hH.i (t := ownT B0 49 hdr0 vals0) (by simp)) (by have := hrow0.lv; omega)
  obtain ⟨p0, Q0, e1, e2, e3⟩ := dk_at hrow0 hH hs
  have hn := (List.getElem?_eq_some_iff.1 hs).1
  refine ⟨g0, vals0.length, cap0, p0, Q0, box_cell (hH.i (t := dkB b0 c (.slice (some ⟨g0, 0, none⟩) vals0.length cap0)) (by simp)) (i := 5) rfl, by rw [hrow0.lv]; exact hn, hcs n _ e1, e2, fun k hk => ⟨dlT (.pointer (some p0)) Q0 c (n : Int) st, List.mem_cons_of_mem _ (List.mem_cons_of_mem _ (List.mem_of_getElem? e3)), hk⟩, fun w' Q' st' h1 h2 h3 => ?_⟩
  have h4 := Hold.set (pre := [dkB b0 c (.slice (some ⟨g0, 0, none⟩) vals0.length cap0), ownT B0 49 (.slice (some ⟨g0, 0, none⟩) vals0.length cap0) vals0]) (post := []) (by simpa using hH) e3 (dlT (.pointer (some p0)) Q' c (n : Int) st') ⟨p0, rfl, h1⟩ h2 h3
  have h5 := dk_of hr hc (by rw [List.length_set]; exact hl) (hrow0.put e1 Q' st') (by simpa using h4)
  exact ⟨_, h5.1, h5.2.1, h5.2.2⟩
theorem dk_ptr {w : World} {r : Addr} {F : Nat → Prop} {c : Cfg} {sts : List LS} (h : DK w r F c sts) : ∃ b0, r = ⟨b0, 0, none⟩ := by
  obtain ⟨hr, hc, hl, b1, B0, hdr0, vals0, ts0, e0, _⟩ := h
  exact ⟨b1, e0⟩
end Go.Proofs.YtiblpdjehknbcaaGreat.Stk
