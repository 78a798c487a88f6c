/- The opening of a Play of layer 8's laws. Printed by wip/gen/linlaws2.py. -/
import Derived.Test.YtonbidohhgenlaaLinDone
import Derived.Deep.LoopGhost
import Derived.Deep.RegionHeld3
import Derived.Deep.QuietTactic
import Derived.BigQuiet
namespace Go.Proofs.Ytonbidohhgenlaa.Lin
open Go Go.RowKit Lw Grd
set_option linter.unusedVariables false
set_option linter.unusedSimpArgs false
theorem box3 {w : World} {b : Nat} {e : TypeId} {v0 v1 v2 : Value} (h : (boxT b e #[v0, v1, v2]).I w) : w.cell? ⟨b, 0, none⟩ = some v0 ∧ w.cell? ⟨b, 1, none⟩ = some v1 ∧ w.cell? ⟨b, 2, none⟩ = some v2 :=
  ⟨box_cell h rfl, box_cell h rfl, box_cell h rfl⟩
theorem cells_q (p : Addr) (F : Nat → Prop) (m n q : Nat) (L : List (List Int)) (w : World) (h : PG w p F m n L) (hq : m * n = q) :
    Calls Try.prog 14 #[.pointer (some p)] w fun e w' => ∃ (A : Option Addr) (cap : Nat), e = .returned (.slice A q cap) ∧ Row1 w' A L.flatten ∧ q ≤ cap ∧ cap ≤ maxLen ∧ (∀ a, A = some a → w.heap.size ≤ a.block) ∧ Below w.heap.size w w' := by
  subst hq
  exact cells_any p F m n L w h
theorem same_yes (A B : Option Addr) (n ca cb : Nat) (xs : List Int) (w : World) (ha : Rd .i64 w A xs) (hb : Rd .i64 w B xs) (hl : xs.length = n) (hn : n ≤ 1000000) :
    Calls Try.prog 13 #[.slice A n ca, .slice B n cb] w fun e w' => e = .returned (.bool true) ∧ Below w.heap.size w w' :=
  (rsame_any A B n n ca cb xs xs w ha hb hl hl (by omega) (by omega)).mono fun e w' h => by
    rw [decide_eq_true rfl] at h
    exact h
/-- The columns of a step, out of all. -/
theorem row_at {w : World} {B : Nat} {eo : TypeId} {Ah : Option Addr} {N ch : Nat} {R : List Row} {qs : List StepV} {m n : Nat} (h : RR w B eo (.slice Ah N ch) R) (hR : nums R = (qs.take 60).map (fun q => cutOf q.zs m n)) {j : Nat} {q : StepV} (hj : j < 60) (hq : qs[j]? = some q) :
    ∃ (ad gad : Addr) (cap : Nat), Ah = some ad ∧ w.cell? (ad.add j) = some (.slice (some gad) m cap) ∧ m ≤ cap ∧ cap ≤ maxLen ∧ Rd .i64 w (some gad) (cutOf q.zs m n) := by
  have e1 : (nums R)[j]? = some (cutOf q.zs m n) := by
    rw [hR, List.getElem?_map, List.getElem?_take, if_pos hj, hq]
    rfl
  unfold nums at e1
  rw [List.getElem?_map] at e1
  obtain ⟨r, hr, e2⟩ := Option.map_eq_some_iff.1 e1
  obtain ⟨A, cap, e3, _, _, _, hc⟩ := h.hd
  injection e3 with e3 _ _
  subst e3
  obtain ⟨ad, hA, hcell⟩ := hc j r hr
  obtain ⟨_, _, h3, h4, _, h6⟩ := h.rows r (List.mem_of_getElem? hr)
  have hl : r.2.2.length = m := by rw [e2, cut_len]
  refine ⟨ad, ⟨r.1, 0, none⟩, r.2.1, hA, ?_, by omega, h4, by rw [← e2]; exact h6⟩
  rw [hcell]
  unfold rowHd
  rw [hl]
theorem rows_len {R : List Row} {qs : List StepV} {m n : Nat} (hR : nums R = (qs.take 60).map (fun q => cutOf q.zs m n)) : R.length = min 60 qs.length := by
  have := congrArg List.length hR
  rw [nums_len, List.length_map, List.length_take] at this
  exact this
theorem hit_next {ops : Ops} {r c k : Nat} {o : List Int × Int} (h : ops[k]? = some o) : hit (ops.take (k + 1)) r c = hit (ops.take k) r c + (if o.1[r]? = some (c : Int) then o.2 else 0) := by
  obtain ⟨h1, h2⟩ := List.getElem?_eq_some_iff.1 h
  rw [List.take_succ_eq_append_getElem h1, hit_app, h2]
  simp [hit]
theorem hit_bd {m n : Nat} {b : Int} (hb : 0 ≤ b) {r c : Nat} : ∀ {ops : Ops}, OpsOk m n b ops → -(ops.length * b) ≤ hit ops r c ∧ hit ops r c ≤ ops.length * b
  | [], _ => by simp [hit]
  | o :: ops, h => by
    have ih := hit_bd hb (r := r) (c := c) (ops := ops) (fun p hp => h p (by simp [hp]))
    have h1 := h o (by simp)
    have e1 : ((o :: ops).length : Int) * b = (ops.length : Int) * b + b := by
      have e1 : ((o :: ops).length : Int) = (ops.length : Int) + 1 := by simp
      rw [e1, Int.add_mul, Int.one_mul]
    rw [e1]
    simp only [hit]
    split <;> omega
theorem cut_get (cols : List Int) {m n r : Nat} (hr : r < m) (hn : 1 ≤ n) : ∃ v : Nat, (cutOf cols m n)[r]? = some (v : Int) ∧ v < n := by
  have hl : r < (cutOf cols m n).length := by rw [cut_len]; exact hr
  have h := cut_in cols m n hn _ (List.getElem_mem hl)
  exact ⟨((cutOf cols m n)[r]).toNat, by rw [List.getElem?_eq_getElem hl]; congr 1; omega, by omega⟩
end Go.Proofs.Ytonbidohhgenlaa.Lin
