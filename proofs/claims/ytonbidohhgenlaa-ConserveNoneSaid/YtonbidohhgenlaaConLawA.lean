/- What the statements of layer 9 lean on. Printed by wip/gen/conlaws.py. -/
import Derived.Test.YtonbidohhgenlaaConCode
import Derived.Test.YtonbidohhgenlaaConMath
import Derived.Test.YtonbidohhgenlaaConRef
import Derived.Test.YtonbidohhgenlaaLinPlay
import Derived.Test.YtonbidohhgenlaaLinLstM
import Derived.Test.YtonbidohhgenlaaThings
import Derived.Test.YtonbidohhgenlaaLaw
import Derived.Test.YtonbidohhgenlaaBits
import Derived.Deep.LoopGhost
import Derived.Deep.RegionHeld3
import Derived.Deep.QuietTactic
import Derived.BigQuiet
namespace Go.Proofs.Ytonbidohhgenlaa.Con
open Go Go.RowKit Lw Grd Lin
set_option linter.unusedVariables false
set_option linter.unusedSimpArgs false
theorem pgI {w : World} {p : Addr} {F : Nat → Prop} {m n : Nat} {L : List (List Int)} (h : (pgT p F m n L).I w) : PG w p F m n L := h
theorem dgI {w : World} {p : Addr} {F : Nat → Prop} {m n : Nat} {L : List (List Int)} (h : (dgT p F m n L).I w) : DG w p F m n L := h
theorem rrI {w : World} {B : Nat} {eo : TypeId} {hdr : Value} {R : List Row} (h : (rrT B eo hdr R).I w) : RR w B eo hdr R := h
theorem rowI {w : World} {A : Option Addr} {Z : List Int} (h : (rowT A Z).I w) : Rd .i64 w A Z := Row1.rd h
def sA : List (List Int) := rsRes 2 3 (zerosL 2 3) [0, 1] 5
def sB : List (List Int) := rsRes 2 3 sA [0, 2] 7
theorem q1 : rsCode 2 3 (zerosL 2 3) [0, 1] 5 = 0 := by decide
theorem q2 : rsCode 2 3 sA [0, 2] 7 = 0 := by decide
theorem q3 : rsCode 2 3 sB [0, 2] (-1) = 3 := by decide
theorem q4 : rsRes 2 3 sB [0, 2] (-1) = sB := by decide
theorem q5 : at2 sB 0 0 = 7 := by decide
theorem q6 : at2 sB 1 1 = 5 := by decide
theorem q7 : at2 sB 1 2 = 7 := by decide
theorem ret_bc {a b : Bool} (h : a = b) : Ending.returned (.bool a) = Ending.returned (.bool b) := by rw [h]
set_option maxRecDepth 100000 in
set_option maxHeartbeats 4000000 in
theorem shown_any (w : World) : Calls Try.prog 8 #[] w fun e w' => e = .returned (.bool true) ∧ Below w.heap.size w w' := by
  have e1 := q1
  have e2 := q2
  have e3 := q3
  have e5 := q5
  have e6 := q6
  have e7 := q7
  have HV0 : Hid (Have w w []) := Lib.hid (Have.nil w)
  go_enter Try.func8, Try.ntmps8
  go_wp2_with (first
  | (go_at_call 24; (with_reducible refine (at_any p F3 2 3 sB 1 2 _ (pgI (Have.i0 (HV6.out.up (by repeat' (first | (with_reducible exact Below.refl _ _) | (with_reducible assumption) | (with_reducible refine below_over ?_ _ _) | (with_reducible refine Lw.below_alloc ?_ _) | (with_reducible refine Below.drew ?_) | (with_reducible refine below_drewN ?_ _) | (with_reducible refine Below.setCell ?_ ?_ _) | go_size))))) (by omega) (by omega) (by omega) (by omega)).mono ?_); rintro e w' ⟨rfl, hb⟩; have HV7 := Lib.hid ((HV6.out.up (by repeat' (first | (with_reducible exact Below.refl _ _) | (with_reducible assumption) | (with_reducible refine below_over ?_ _ _) | (with_reducible refine Lw.below_alloc ?_ _) | (with_reducible refine Below.drew ?_) | (with_reducible refine below_drewN ?_ _) | (with_reducible refine Below.setCell ?_ ?_ _) | go_size))).up hb); clear hb)
  | (go_at_call 24; (with_reducible refine (at_any p F3 2 3 sB 1 1 _ (pgI (Have.i0 (HV5.out.up (by repeat' (first | (with_reducible exact Below.refl _ _) | (with_reducible assumption) | (with_reducible refine below_over ?_ _ _) | (with_reducible refine Lw.below_alloc ?_ _) | (with_reducible refine Below.drew ?_) | (with_reducible refine below_drewN ?_ _) | (with_reducible refine Below.setCell ?_ ?_ _) | go_size))))) (by omega) (by omega) (by omega) (by omega)).mono ?_); rintro e w' ⟨rfl, hb⟩; have HV6 := Lib.hid ((HV5.out.up (by repeat' (first | (with_reducible exact Below.refl _ _) | (with_reducible assumption) | (with_reducible refine below_over ?_ _ _) | (with_reducible refine Lw.below_alloc ?_ _) | (with_reducible refine Below.drew ?_) | (with_reducible refine below_drewN ?_ _) | (with_reducible refine Below.setCell ?_ ?_ _) | go_size))).up hb); clear hb)
  | (go_at_call 24; (with_reducible refine (at_any p F3 2 3 sB 0 0 _ (pgI (Have.i0 (HV4.out.up (by repeat' (first | (with_reducible exact Below.refl _ _) | (with_reducible assumption) | (with_reducible refine below_over ?_ _ _) | (with_reducible refine Lw.below_alloc ?_ _) | (with_reducible refine Below.drew ?_) | (with_reducible refine below_drewN ?_ _) | (with_reducible refine Below.setCell ?_ ?_ _) | go_size))))) (by omega) (by omega) (by omega) (by omega)).mono ?_); rintro e w' ⟨rfl, hb⟩; have HV5 := Lib.hid ((HV4.out.up (by repeat' (first | (with_reducible exact Below.refl _ _) | (with_reducible assumption) | (with_reducible refine below_over ?_ _ _) | (with_reducible refine Lw.below_alloc ?_ _) | (with_reducible refine Below.drew ?_) | (with_reducible refine below_drewN ?_ _) | (with_reducible refine Below.setCell ?_ ?_ _) | go_size))).up hb); clear hb)
  | (go_at_call 11; (with_reducible refine (raise_any p F2 2 3 sB _ 2 2 [0, 2] (-1) _ (pgI (Have.i0 (HV3.out.up (by repeat' (first | (with_reducible exact Below.refl _ _) | (with_reducible assumption) | (with_reducible refine below_over ?_ _ _) | (with_reducible refine Lw.below_alloc ?_ _) | (with_reducible refine Below.drew ?_) | (with_reducible refine below_drewN ?_ _) | (with_reducible refine Below.setCell ?_ ?_ _) | go_size))))) (rd2 (by simp [go_sem]) (by simp [go_sem])) (new_apart HV3.out) rfl (by omega) (by unfold In64; decide) (by omega) (by omega)).mono ?_); rintro e w' ⟨rfl, F3, hnp, hnk, hnf⟩; rw [q4] at hnp; have HV4 := Lib.hid (Have.turn_0 (HV3.out.up (by repeat' (first | (with_reducible exact Below.refl _ _) | (with_reducible assumption) | (with_reducible refine below_over ?_ _ _) | (with_reducible refine Lw.below_alloc ?_ _) | (with_reducible refine Below.drew ?_) | (with_reducible refine below_drewN ?_ _) | (with_reducible refine Below.setCell ?_ ?_ _) | go_size))) (pgT p F3 2 3 sB) hnp hnk hnf); clear hnp hnk hnf)
  | (go_at_call 11; (with_reducible refine (raise_any p F1 2 3 sA _ 2 2 [0, 2] 7 _ (pgI (Have.i0 (HV2.out.up (by repeat' (first | (with_reducible exact Below.refl _ _) | (with_reducible assumption) | (with_reducible refine below_over ?_ _ _) | (with_reducible refine Lw.below_alloc ?_ _) | (with_reducible refine Below.drew ?_) | (with_reducible refine below_drewN ?_ _) | (with_reducible refine Below.setCell ?_ ?_ _) | go_size))))) (rd2 (by simp [go_sem]) (by simp [go_sem])) (new_apart HV2.out) rfl (by omega) (by unfold In64; decide) (by omega) (by omega)).mono ?_); rintro e w' ⟨rfl, F2, hnp, hnk, hnf⟩; have HV3 := Lib.hid (Have.turn_0 (HV2.out.up (by repeat' (first | (with_reducible exact Below.refl _ _) | (with_reducible assumption) | (with_reducible refine below_over ?_ _ _) | (with_reducible refine Lw.below_alloc ?_ _) | (with_reducible refine Below.drew ?_) | (with_reducible refine below_drewN ?_ _) | (with_reducible refine Below.setCell ?_ ?_ _) | go_size))) (pgT p F2 2 3 sB) hnp hnk hnf); clear hnp hnk hnf)
  | (go_at_call 11; (with_reducible refine (raise_any p F0 2 3 (zerosL 2 3) _ 2 2 [0, 1] 5 _ (pgI (Have.i0 (HV1.out.up (by repeat' (first | (with_reducible exact Below.refl _ _) | (with_reducible assumption) | (with_reducible refine below_over ?_ _ _) | (with_reducible refine Lw.below_alloc ?_ _) | (with_reducible refine Below.drew ?_) | (with_reducible refine below_drewN ?_ _) | (with_reducible refine Below.setCell ?_ ?_ _) | go_size))))) (rd2 (by simp [go_sem]) (by simp [go_sem])) (new_apart HV1.out) rfl (by omega) (by unfold In64; decide) (by omega) (by omega)).mono ?_); rintro e w' ⟨rfl, F1, hnp, hnk, hnf⟩; have HV2 := Lib.hid (Have.turn_0 (HV1.out.up (by repeat' (first | (with_reducible exact Below.refl _ _) | (with_reducible assumption) | (with_reducible refine below_over ?_ _ _) | (with_reducible refine Lw.below_alloc ?_ _) | (with_reducible refine Below.drew ?_) | (with_reducible refine below_drewN ?_ _) | (with_reducible refine Below.setCell ?_ ?_ _) | go_size))) (pgT p F1 2 3 sA) hnp hnk hnf); clear hnp hnk hnf)
  | (go_at_call 9; (with_reducible refine (new_mn 2 3 2 3 _ c28 c3128 (by omega) (by omega) (by omega) (by omega)).mono ?_); rintro e w' ⟨p, F0, rfl, hnp, hnf, hnb⟩; have HV1 := Lib.hid (((HV0.out.up (by repeat' (first | (with_reducible exact Below.refl _ _) | (with_reducible assumption) | (with_reducible refine below_over ?_ _ _) | (with_reducible refine Lw.below_alloc ?_ _) | (with_reducible refine Below.drew ?_) | (with_reducible refine below_drewN ?_ _) | (with_reducible refine Below.setCell ?_ ?_ _) | go_size)))).push (pgT p F0 2 3 (zerosL 2 3)) hnb hnp hnf); clear hnp hnf hnb))
  all_goals go_ret
  all_goals exact ⟨ret_bc (by first | rfl | (simp [*]; done)), HV7.out.below⟩
theorem open_steps_u : Try.prog.underlying 22 = some (.slice 32) := by kernel_rfl
theorem open_steps_c : Try.prog.cellsOf 32 = 2 := by kernel_rfl
theorem step_int_c : Try.prog.cellsOf 3 = 1 := by kernel_rfl
set_option maxRecDepth 100000 in
theorem open_steps {H : Type} {enc : TypeId × Value → H} {w : World} {base fuel : Nat} {spare : Nat → Bool} {held : Bool} {cs : List Value} {x : DataW H × List MemPlace} (h : DataW.trod enc Try.prog w base spare held fuel 22 cs = some x) :
    ∃ (A : Option Addr) (len cap : Nat) (qs : List StepV), cs = [.slice A len cap] ∧ (A = none → len = 0 ∧ cap = 0) ∧ len ≤ cap ∧ cap ≤ maxLen ∧ qs.length = len ∧ ∀ (i : Nat) q, qs[i]? = some q → q.In w ∧ ∃ a, A = some a ∧ w.cell? (a.add (i * 2)) = some (.slice q.A q.n q.c) ∧ w.cell? (a.add (i * 2 + 1)) = some (.int .i64 q.d) := by
  rcases Go.Deep.open_slice open_steps_u h with ⟨rfl, _⟩ | ⟨a, len, cap, m, n, D, Pl, rfl, hb, hl, hm, hmm, _, hx⟩
  · exact ⟨none, 0, 0, [], rfl, fun _ => ⟨rfl, rfl⟩, Nat.le_refl _, by simp, rfl, fun i q hq => by simp at hq⟩
  have hlm : len ≤ m := by rw [hmm]; split <;> omega
  have each : ∀ i, i < len → ∃ q : StepV, q.In w ∧ w.cell? (a.add (i * 2)) = some (.slice q.A q.n q.c) ∧ w.cell? (a.add (i * 2 + 1)) = some (.int .i64 q.d) := by
    intro i hi
    obtain ⟨cs', h1, h2⟩ := hx i (by omega)
    rw [open_steps_c] at h1
    obtain ⟨_, hlen, hcell⟩ := World.cells?_some h1
    obtain ⟨xs, k, _, _, _, hxl, hf⟩ := DataW.trod_struct Try.underlying32 h2
    match xs, hxl, cs', hlen with
    | [y0, y1], _, [v0, v1], _ =>
      have g0 := hf 0 _ rfl
      have g1 := hf 1 _ rfl
      have e0 := hcell 0 (by omega)
      have e1 := hcell 1 (by omega)
      rw [add_add'] at e0 e1
      simp [show Try.prog.cellsOf 30 = 1 from by kernel_rfl, show Try.prog.cellsOf 2 = 1 from by kernel_rfl] at g0 g1
      obtain ⟨d, f1, _, w1⟩ := DataW.trod_int (show Try.prog.underlying 2 = some (.int .i64) by kernel_rfl) g1
      simp at f1
      subst f1
      rcases Go.ChangeShapes.open_ints Try.underlying30 Try.underlying3 step_int_c g0 with ⟨hcs, _⟩ | ⟨b, len', cap', zs, hcs, _, hl', hm', hz', _, hcell', hwz⟩
      · simp at hcs
        subst hcs
        exact ⟨⟨none, 0, 0, [], d⟩, ⟨fun _ => ⟨rfl, rfl⟩, Nat.le_refl _, by simp, rd_nil _ _ _, rfl, in64_nil, Lw.wf_i64 w1⟩, by simpa using e0, by simpa using e1⟩
      · simp at hcs
        subst hcs
        have hz2 : len' ≤ zs.length := by 
          have h3 : zs.length = if spare b.block = true then cap' else len' := by simpa using hz'
          rw [h3]
          split <;> omega
        refine ⟨⟨some b, len', cap', zs.take len', d⟩, ⟨(fun h => by cases h), hl', hm', ?_, by simp; omega, fun v hv => Lw.wf_i64 (hwz v (List.mem_of_mem_take hv)), Lw.wf_i64 w1⟩, by simpa using e0, by simpa using e1⟩
        intro j v hk
        simp only [List.getElem?_take] at hk
        split at hk
        · refine ⟨b, rfl, ?_⟩
          rw [hcell' j (by omega)]
          simp [hk]
        · cases hk
  have each2 : ∀ i, ∃ q : StepV, i < len → (q.In w ∧ w.cell? (a.add (i * 2)) = some (.slice q.A q.n q.c) ∧ w.cell? (a.add (i * 2 + 1)) = some (.int .i64 q.d)) := fun i => by
    by_cases hi : i < len
    · obtain ⟨q, hq⟩ := each i hi
      exact ⟨q, fun _ => hq⟩
    · exact ⟨⟨none, 0, 0, [], 0⟩, fun h => absurd h hi⟩
  refine ⟨some a, len, cap, (List.range len).map fun i => Classical.choose (each2 i), rfl, (fun h => by cases h), hl, hm, by simp, ?_⟩
  intro i q hq
  rw [List.getElem?_map] at hq
  obtain ⟨j, hj, rfl⟩ := Option.map_eq_some_iff.1 hq
  have hj2 := List.getElem?_eq_some_iff.1 hj
  obtain ⟨hj3, hj4⟩ := hj2
  simp at hj3 hj4
  subst hj4
  have hs := Classical.choose_spec (each2 i) hj3
  exact ⟨hs.1, a, rfl, hs.2⟩
set_option maxRecDepth 100000 in
theorem sized_any (rows width : Int) (A : Option Addr) (n c : Nat) (w : World) :
    Calls Try.prog 16 #[.agg #[.int .i64 rows, .int .i64 width, .slice A n c]] w fun e w' => e = .returned (.tuple #[.int .i64 (rowsOf rows), .int .i64 (widthOf width)]) ∧ Below w.heap.size w w' := by
  obtain ⟨X1, Y1, a1, b1, c1, d1, e1, f1, g1⟩ := sized_part rows 5 (by omega) (by omega)
  obtain ⟨X2, Y2, a2, b2, c2, d2, e2, f2, g2⟩ := sized_part width 9 (by omega) (by omega)
  have h1 : ((rowsOf rows : Nat) : Int) = 1 + Y1 := by unfold rowsOf; rw [e1]; omega
  have h2 : ((widthOf width : Nat) : Int) = 1 + Y2 := by unfold widthOf; rw [e2]; omega
  rw [h1, h2]
  clear h1 h2 e1 e2
  go_enter Try.func16, Try.ntmps16
  go_wp2
  go_quiet (fail)
  go_wp2
  go_ret2
  exact ⟨rfl, by repeat' (first | (with_reducible exact Below.refl _ _) | (with_reducible assumption) | (with_reducible refine below_over ?_ _ _) | (with_reducible refine Lw.below_alloc ?_ _) | (with_reducible refine Below.drew ?_) | (with_reducible refine below_drewN ?_ _) | (with_reducible refine Below.setCell ?_ ?_ _) | go_size)⟩
theorem open_play_c : Try.prog.cellsOf 24 = 3 := by kernel_rfl
set_option maxRecDepth 100000 in
theorem open_play {H : Type} {enc : TypeId × Value → H} {w : World} {v : Value} {d : DataW H} {p : List MemPlace} {base : Nat} (hv : Value.okWide Try.prog w .any base 24 v)
    (h : DataW.Trod enc Try.prog w 0 (fun _ => true) true 24 v d p) :
    ∃ (r u : Int) (A : Option Addr) (n c : Nat) (qs : List StepV), v = .agg #[.int .i64 r, .int .i64 u, .slice A n c] ∧ (-9223372036854775808 ≤ r ∧ r ≤ 9223372036854775807) ∧ (-9223372036854775808 ≤ u ∧ u ≤ 9223372036854775807) ∧ Lin.Steps w A n c qs := by
  have hcs : ∃ cs : Array Value, v = .agg cs ∧ cs.size = Try.prog.cellsOf 24 := by
    simp only [Value.okWide, Try.underlying24] at hv
    obtain ⟨cs, h1, h2, _⟩ := hv
    exact ⟨cs, h1, h2⟩
  obtain ⟨⟨l⟩, rfl, hsz⟩ := hcs
  rw [open_play_c] at hsz
  obtain ⟨fuel, hf0⟩ := h
  obtain ⟨xs, k, _, _, _, hxl, hf⟩ := DataW.trod_struct Try.underlying24 hf0
  match xs, hxl, l, hsz with
  | [y0, y1, y2], _, [v0, v1, v2], _ =>
    have g0 := hf 0 _ rfl
    have g1 := hf 1 _ rfl
    have g2 := hf 2 _ rfl
    simp [Value.cells, show Try.prog.cellsOf 3 = 1 from by kernel_rfl, show Try.prog.cellsOf 22 = 1 from by kernel_rfl] at g0 g1 g2
    obtain ⟨x0, f0, _, w0⟩ := DataW.trod_int (show Try.prog.underlying 3 = some (.int .i64) by kernel_rfl) g0
    simp at f0
    subst f0
    obtain ⟨x1, f1, _, w1⟩ := DataW.trod_int (show Try.prog.underlying 3 = some (.int .i64) by kernel_rfl) g1
    simp at f1
    subst f1
    obtain ⟨A, n, c, qs, f2, h0, h1, h2, h3, h4⟩ := open_steps g2
    simp at f2
    subst f2
    exact ⟨x0, x1, A, n, c, qs, rfl, Lw.wf_i64 w0, Lw.wf_i64 w1, ⟨h0, h1, h2, h3, h4⟩⟩
theorem plain_any (d : Int) (w : World) (d0 : -9223372036854775808 ≤ d) (d1 : d ≤ 9223372036854775807) :
    Calls Try.prog 31 #[.int .i64 d] w fun e w' => e = .returned (.int .i64 (dv true d)) ∧ w' = w := by
  have h1 := tmod_bd d
  obtain ⟨t, ht⟩ : ∃ t, Int.tmod d 1099511627776 = t := ⟨_, rfl⟩
  have hdv : dv true d = if 0 ≤ t then t else -t := by unfold dv; rw [if_pos rfl, ht]
  rw [ht] at h1
  by_cases hs : 0 ≤ t
  · rw [if_pos hs] at hdv
    rw [hdv]
    clear hdv
    go_enter Try.func31, Try.ntmps31
    go_wp2
    all_goals go_ret
    all_goals exact ⟨ret_i (by omega), rfl⟩
  · rw [if_neg hs] at hdv
    rw [hdv]
    clear hdv
    go_enter Try.func31, Try.ntmps31
    go_wp2
    all_goals go_ret
    all_goals exact ⟨ret_i (by omega), rfl⟩
end Go.Proofs.Ytonbidohhgenlaa.Con
