/- What the statements of layer 8 lean on. Printed by wip/gen/linlaws.py. -/
import Derived.Test.YtmneihdkkmgbkaaLinCode
import Derived.Test.YtmneihdkkmgbkaaLinChg
import Derived.Test.YtmneihdkkmgbkaaLaw
import Derived.Test.YtmneihdkkmgbkaaBits
import Derived.Deep.LoopGhost
import Derived.Deep.RegionHeld3
import Derived.Deep.QuietTactic
import Derived.BigQuiet
namespace Go.Proofs.Ytmneihdkkmgbkaa.Lin
open Go Go.RowKit Lw Grd
set_option linter.unusedVariables false
set_option linter.unusedSimpArgs false
theorem pg0 {w0 w : World} {p : Addr} {F : Nat → Prop} {m n : Nat} {L : List (List Int)} {ts : List Thing} (h : Have w0 w (pgT p F m n L :: ts)) : PG w p F m n L := h.1
theorem new_mn (rows width : Int) (m n : Nat) (w : World) (hm : cl rows 8 = m) (hn : cl width 128 = n) (r0 : -9223372036854775808 ≤ rows) (r1 : rows ≤ 9223372036854775807) (c0 : -9223372036854775808 ≤ width) (c1 : width ≤ 9223372036854775807) :
    Calls Try.prog 10 #[.int .i64 rows, .int .i64 width] w fun e w' => ∃ (p : Addr) (F : Nat → Prop), e = .returned (.pointer (some p)) ∧ PG w' p F m n (zerosL m n) ∧ (∀ k, F k → w.heap.size ≤ k) ∧ Below w.heap.size w w' := by
  subst hm hn
  exact new_any rows width w r0 r1 c0 c1
/-- A block that is made now is none of a thing's. -/
theorem new_apart {w0 w : World} {t : Thing} {ts : List Thing} (h : Have w0 w (t :: ts)) : ∀ a, (some (⟨w.heap.size, 0, none⟩ : Addr)) = some a → ¬ t.F a.block := by
  intro a ha hf
  injection ha with ha
  subst ha
  have := t.lt w h.1 _ hf
  simp at this
theorem c28 : cl 2 8 = 2 := by decide
theorem c3128 : cl 3 128 = 3 := by decide
def sZ : List (List Int) := zerosL 2 3
def sA : List (List Int) := chRes 2 3 sZ [0, 1] 5
def sB : List (List Int) := chRes 2 3 sA [0, 2] 7
def sC : List (List Int) := chRes 2 3 sB [0, 3] 7
theorem q1 : chCode 2 3 sZ [0, 1] 5 = 0 := by decide
theorem q2 : chCode 2 3 sA [0, 2] 7 = 0 := by decide
theorem q3 : chCode 2 3 sB [0, 3] 7 = 1 := by decide
theorem q4 : rdCode 2 3 [0, 1] = 0 := by decide
theorem q5 : rdCode 2 3 [0, 2] = 0 := by decide
theorem q6 : readOf 2 3 sC [0, 1] = [12, 5] := by decide
theorem q7 : Ord.kv (readOf 2 3 sC [0, 1]) 0 = 5 := by decide
theorem q8 : Ord.kv (readOf 2 3 sC [0, 2]) ((((readOf 2 3 sC [0, 2]).length : Int) - 1) / 2) = 7 := by decide
set_option maxRecDepth 100000 in
set_option maxHeartbeats 4000000 in
theorem shown_any (w : World) : Calls Try.prog 9 #[] w fun e w' => e = .returned (.bool true) ∧ Below w.heap.size w w' := by
  have e1 := q1
  have e2 := q2
  have e3 := q3
  have e4 := q4
  have e5 := q5
  have e7 := q7
  have e8 := q8
  have HV0 : Hid (Have w w []) := Lib.hid (Have.nil w)
  go_enter Try.func9, Try.ntmps9
  go_wp2_with (first
  | (go_at_call 16; (with_reducible refine (middle_any p F3 2 3 sC _ 2 2 [0, 2] _ (pg0 (HV6.out.up (by repeat' (first | (with_reducible exact Below.refl _ _) | (with_reducible assumption) | (with_reducible refine below_over ?_ _ _) | (with_reducible refine Lw.below_alloc ?_ _) | (with_reducible refine Below.drew ?_) | (with_reducible refine below_drewN ?_ _) | (with_reducible refine Below.setCell ?_ ?_ _) | go_size)))) (rd2 (by simp [go_sem]) (by simp [go_sem])) rfl (by omega) (by unfold In64; decide)).mono ?_); rintro e w' ⟨rfl, hb⟩; have HV7 := Lib.hid ((HV6.out.up (by repeat' (first | (with_reducible exact Below.refl _ _) | (with_reducible assumption) | (with_reducible refine below_over ?_ _ _) | (with_reducible refine Lw.below_alloc ?_ _) | (with_reducible refine Below.drew ?_) | (with_reducible refine below_drewN ?_ _) | (with_reducible refine Below.setCell ?_ ?_ _) | go_size))).up hb); have HRD7 := Lib.hid (HRD6.out.up (below_call (by repeat' (first | (with_reducible exact Below.refl _ _) | (with_reducible assumption) | (with_reducible refine below_over ?_ _ _) | (with_reducible refine Lw.below_alloc ?_ _) | (with_reducible refine Below.drew ?_) | (with_reducible refine below_drewN ?_ _) | (with_reducible refine Below.setCell ?_ ?_ _) | go_size)) hb (Nat.le_refl _))); clear hb; obtain ⟨al, rfl, l0⟩ := HRD7.out 0 12 rfl; have l1 : w'.cell? ⟨al.block, al.off + 1, none⟩ = some (.int .i64 5) := (by simpa [Addr.add] using HRD7.out.at (j := 1) (v := 5) rfl); have la : al.add 0 = al := (by unfold Addr.add; simp); rw [la] at l0)
  | (go_at_call 15; (with_reducible refine (least_any p F3 2 3 sC _ 2 2 [0, 1] _ (pg0 (HV5.out.up (by repeat' (first | (with_reducible exact Below.refl _ _) | (with_reducible assumption) | (with_reducible refine below_over ?_ _ _) | (with_reducible refine Lw.below_alloc ?_ _) | (with_reducible refine Below.drew ?_) | (with_reducible refine below_drewN ?_ _) | (with_reducible refine Below.setCell ?_ ?_ _) | go_size)))) (rd2 (by simp [go_sem]) (by simp [go_sem])) rfl (by omega) (by unfold In64; decide)).mono ?_); rintro e w' ⟨rfl, hb⟩; have HV6 := Lib.hid ((HV5.out.up (by repeat' (first | (with_reducible exact Below.refl _ _) | (with_reducible assumption) | (with_reducible refine below_over ?_ _ _) | (with_reducible refine Lw.below_alloc ?_ _) | (with_reducible refine Below.drew ?_) | (with_reducible refine below_drewN ?_ _) | (with_reducible refine Below.setCell ?_ ?_ _) | go_size))).up hb); have HRD6 := Lib.hid (HRD.out.up (below_call (by repeat' (first | (with_reducible exact Below.refl _ _) | (with_reducible assumption) | (with_reducible refine below_over ?_ _ _) | (with_reducible refine Lw.below_alloc ?_ _) | (with_reducible refine Below.drew ?_) | (with_reducible refine below_drewN ?_ _) | (with_reducible refine Below.setCell ?_ ?_ _) | go_size)) hb (Nat.le_refl _))); clear hb)
  | (go_at_call 14; (with_reducible refine (read_any p F3 2 3 sC _ 2 2 [0, 1] _ (pg0 (HV4.out.up (by repeat' (first | (with_reducible exact Below.refl _ _) | (with_reducible assumption) | (with_reducible refine below_over ?_ _ _) | (with_reducible refine Lw.below_alloc ?_ _) | (with_reducible refine Below.drew ?_) | (with_reducible refine below_drewN ?_ _) | (with_reducible refine Below.setCell ?_ ?_ _) | go_size)))) (rd2 (by simp [go_sem]) (by simp [go_sem])) rfl (by omega) (by unfold In64; decide)).mono ?_); rintro e w' ⟨A2, len, cap2, rfl, hrd, hlen, hc2, hm2, hA2, hn2, hb⟩; have HV5 := Lib.hid ((HV4.out.up (by repeat' (first | (with_reducible exact Below.refl _ _) | (with_reducible assumption) | (with_reducible refine below_over ?_ _ _) | (with_reducible refine Lw.below_alloc ?_ _) | (with_reducible refine Below.drew ?_) | (with_reducible refine below_drewN ?_ _) | (with_reducible refine Below.setCell ?_ ?_ _) | go_size))).up hb); rw [q6] at hrd hlen; obtain rfl : 2 = len := hlen; have HRD := Lib.hid hrd; clear hrd hb hA2 hn2)
  | (go_at_call 12; (with_reducible refine (change_any p F2 2 3 sB _ 2 2 [0, 3] 7 _ (pg0 (HV3.out.up (by repeat' (first | (with_reducible exact Below.refl _ _) | (with_reducible assumption) | (with_reducible refine below_over ?_ _ _) | (with_reducible refine Lw.below_alloc ?_ _) | (with_reducible refine Below.drew ?_) | (with_reducible refine below_drewN ?_ _) | (with_reducible refine Below.setCell ?_ ?_ _) | go_size)))) (rd2 (by simp [go_sem]) (by simp [go_sem])) (new_apart HV3.out) rfl (by omega) (by unfold In64; decide) (by omega) (by omega)).mono ?_); rintro e w' ⟨rfl, F3, hnp, hnk, hnf⟩; have HV4 := Lib.hid (Have.turn0 (HV3.out.up (by repeat' (first | (with_reducible exact Below.refl _ _) | (with_reducible assumption) | (with_reducible refine below_over ?_ _ _) | (with_reducible refine Lw.below_alloc ?_ _) | (with_reducible refine Below.drew ?_) | (with_reducible refine below_drewN ?_ _) | (with_reducible refine Below.setCell ?_ ?_ _) | go_size))) (pgT p F3 2 3 sC) hnp hnk hnf); clear hnp hnk hnf)
  | (go_at_call 12; (with_reducible refine (change_any p F1 2 3 sA _ 2 2 [0, 2] 7 _ (pg0 (HV2.out.up (by repeat' (first | (with_reducible exact Below.refl _ _) | (with_reducible assumption) | (with_reducible refine below_over ?_ _ _) | (with_reducible refine Lw.below_alloc ?_ _) | (with_reducible refine Below.drew ?_) | (with_reducible refine below_drewN ?_ _) | (with_reducible refine Below.setCell ?_ ?_ _) | go_size)))) (rd2 (by simp [go_sem]) (by simp [go_sem])) (new_apart HV2.out) rfl (by omega) (by unfold In64; decide) (by omega) (by omega)).mono ?_); rintro e w' ⟨rfl, F2, hnp, hnk, hnf⟩; have HV3 := Lib.hid (Have.turn0 (HV2.out.up (by repeat' (first | (with_reducible exact Below.refl _ _) | (with_reducible assumption) | (with_reducible refine below_over ?_ _ _) | (with_reducible refine Lw.below_alloc ?_ _) | (with_reducible refine Below.drew ?_) | (with_reducible refine below_drewN ?_ _) | (with_reducible refine Below.setCell ?_ ?_ _) | go_size))) (pgT p F2 2 3 sB) hnp hnk hnf); clear hnp hnk hnf)
  | (go_at_call 12; (with_reducible refine (change_any p F0 2 3 sZ _ 2 2 [0, 1] 5 _ (pg0 (HV1.out.up (by repeat' (first | (with_reducible exact Below.refl _ _) | (with_reducible assumption) | (with_reducible refine below_over ?_ _ _) | (with_reducible refine Lw.below_alloc ?_ _) | (with_reducible refine Below.drew ?_) | (with_reducible refine below_drewN ?_ _) | (with_reducible refine Below.setCell ?_ ?_ _) | go_size)))) (rd2 (by simp [go_sem]) (by simp [go_sem])) (new_apart HV1.out) rfl (by omega) (by unfold In64; decide) (by omega) (by omega)).mono ?_); rintro e w' ⟨rfl, F1, hnp, hnk, hnf⟩; have HV2 := Lib.hid (Have.turn0 (HV1.out.up (by repeat' (first | (with_reducible exact Below.refl _ _) | (with_reducible assumption) | (with_reducible refine below_over ?_ _ _) | (with_reducible refine Lw.below_alloc ?_ _) | (with_reducible refine Below.drew ?_) | (with_reducible refine below_drewN ?_ _) | (with_reducible refine Below.setCell ?_ ?_ _) | go_size))) (pgT p F1 2 3 sA) hnp hnk hnf); clear hnp hnk hnf)
  | (go_at_call 10; (with_reducible refine (new_mn 2 3 2 3 _ c28 c3128 (by omega) (by omega) (by omega) (by omega)).mono ?_); rintro e w' ⟨p, F0, rfl, hnp, hnf, hnb⟩; have HV1 := Lib.hid (((HV0.out.up (by repeat' (first | (with_reducible exact Below.refl _ _) | (with_reducible assumption) | (with_reducible refine below_over ?_ _ _) | (with_reducible refine Lw.below_alloc ?_ _) | (with_reducible refine Below.drew ?_) | (with_reducible refine below_drewN ?_ _) | (with_reducible refine Below.setCell ?_ ?_ _) | go_size)))).push (pgT p F0 2 3 (zerosL 2 3)) hnb hnp hnf); clear hnp hnf hnb))
  all_goals go_ret
  all_goals exact ⟨ret_b (by first | rfl | (simp [*]; done)), HV7.out.below⟩
/-- A step: its columns and what is added. -/
structure StepV where
  A : Option Addr
  n : Nat
  c : Nat
  zs : List Int
  d : Int
structure StepV.In (s : StepV) (w : World) : Prop where
  nil : s.A = none → s.n = 0 ∧ s.c = 0
  nc : s.n ≤ s.c
  cm : s.c ≤ maxLen
  rd : Rd .i64 w s.A s.zs
  len : s.zs.length = s.n
  zb : In64 s.zs
  db : -9223372036854775808 ≤ s.d ∧ s.d ≤ 9223372036854775807
theorem open_steps_u : Try.prog.underlying 22 = some (.slice 30) := by kernel_rfl
theorem open_steps_c : Try.prog.cellsOf 30 = 2 := by kernel_rfl
theorem step_int_c : Try.prog.cellsOf 3 = 1 := by kernel_rfl
set_option maxRecDepth 100000 in
theorem open_steps {H : Type} {enc : TypeId × Value → H} {w : World} {base fuel : Nat} {spare : Nat → Bool} {held : Bool} {cs : List Value} {x : DataW H × List MemPlace} (h : DataW.trod enc Try.prog w base spare held fuel 22 cs = some x) :
    ∃ (A : Option Addr) (len cap : Nat) (qs : List StepV), cs = [.slice A len cap] ∧ (A = none → len = 0 ∧ cap = 0) ∧ len ≤ cap ∧ cap ≤ maxLen ∧ qs.length = len ∧ ∀ (i : Nat) q, qs[i]? = some q → q.In w ∧ ∃ a, A = some a ∧ w.cell? (a.add (i * 2)) = some (.slice q.A q.n q.c) ∧ w.cell? (a.add (i * 2 + 1)) = some (.int .i64 q.d) := by
  rcases Go.Deep.open_slice open_steps_u h with ⟨rfl, _⟩ | ⟨a, len, cap, m, n, D, Pl, rfl, hb, hl, hm, hmm, _, hx⟩
  · exact ⟨none, 0, 0, [], rfl, fun _ => ⟨rfl, rfl⟩, Nat.le_refl _, by simp, rfl, fun i q hq => by simp at hq⟩
  have hlm : len ≤ m := by rw [hmm]; split <;> omega
  have each : ∀ i, i < len → ∃ q : StepV, q.In w ∧ w.cell? (a.add (i * 2)) = some (.slice q.A q.n q.c) ∧ w.cell? (a.add (i * 2 + 1)) = some (.int .i64 q.d) := by
    intro i hi
    obtain ⟨cs', h1, h2⟩ := hx i (by omega)
    rw [open_steps_c] at h1
    obtain ⟨_, hlen, hcell⟩ := World.cells?_some h1
    obtain ⟨xs, k, _, _, _, hxl, hf⟩ := DataW.trod_struct Try.underlying30 h2
    match xs, hxl, cs', hlen with
    | [y0, y1], _, [v0, v1], _ =>
      have g0 := hf 0 _ rfl
      have g1 := hf 1 _ rfl
      have e0 := hcell 0 (by omega)
      have e1 := hcell 1 (by omega)
      rw [add_add'] at e0 e1
      simp [show Try.prog.cellsOf 28 = 1 from by kernel_rfl, show Try.prog.cellsOf 2 = 1 from by kernel_rfl] at g0 g1
      obtain ⟨d, f1, _, w1⟩ := DataW.trod_int (show Try.prog.underlying 2 = some (.int .i64) by kernel_rfl) g1
      simp at f1
      subst f1
      rcases Go.ChangeShapes.open_ints Try.underlying28 Try.underlying3 step_int_c g0 with ⟨hcs, _⟩ | ⟨b, len', cap', zs, hcs, _, hl', hm', hz', _, hcell', hwz⟩
      · simp at hcs
        subst hcs
        exact ⟨⟨none, 0, 0, [], d⟩, ⟨fun _ => ⟨rfl, rfl⟩, Nat.le_refl _, by simp, rd_nil _ _ _, rfl, in64_nil, Lw.wf_i64 w1⟩, by simpa using e0, by simpa using e1⟩
      · simp at hcs
        subst hcs
        have hz2 : len' ≤ zs.length := by 
          have h3 : zs.length = if spare b.block = true then cap' else len' := by simpa using hz'
          rw [h3]
          split <;> omega
        refine ⟨⟨some b, len', cap', zs.take len', d⟩, ⟨(fun h => by cases h), hl', hm', ?_, by simp; omega, fun v hv => Lw.wf_i64 (hwz v (List.mem_of_mem_take hv)), Lw.wf_i64 w1⟩, by simpa using e0, by simpa using e1⟩
        intro j v hk
        simp only [List.getElem?_take] at hk
        split at hk
        · refine ⟨b, rfl, ?_⟩
          rw [hcell' j (by omega)]
          simp [hk]
        · cases hk
  have each2 : ∀ i, ∃ q : StepV, i < len → (q.In w ∧ w.cell? (a.add (i * 2)) = some (.slice q.A q.n q.c) ∧ w.cell? (a.add (i * 2 + 1)) = some (.int .i64 q.d)) := fun i => by
    by_cases hi : i < len
    · obtain ⟨q, hq⟩ := each i hi
      exact ⟨q, fun _ => hq⟩
    · exact ⟨⟨none, 0, 0, [], 0⟩, fun h => absurd h hi⟩
  refine ⟨some a, len, cap, (List.range len).map fun i => Classical.choose (each2 i), rfl, (fun h => by cases h), hl, hm, by simp, ?_⟩
  intro i q hq
  rw [List.getElem?_map] at hq
  obtain ⟨j, hj, rfl⟩ := Option.map_eq_some_iff.1 hq
  have hj2 := List.getElem?_eq_some_iff.1 hj
  obtain ⟨hj3, hj4⟩ := hj2
  simp at hj3 hj4
  subst hj4
  have hs := Classical.choose_spec (each2 i) hj3
  exact ⟨hs.1, a, rfl, hs.2⟩
theorem small_any (d : Int) (w : World) (d0 : -9223372036854775808 ≤ d) (d1 : d ≤ 9223372036854775807) :
    Calls Try.prog 25 #[.int .i64 d] w fun e w' => e = .returned (.int .i64 (Int.tmod d 1099511627776)) ∧ w = w' := by
  have h1 := Int.tmod_lt_of_pos d (show (0 : Int) < 1099511627776 by omega)
  have h2 : -1099511627776 < Int.tmod d 1099511627776 := by
    have h3 := Int.tmod_lt_of_pos (-d) (show (0 : Int) < 1099511627776 by omega)
    rw [Int.neg_tmod] at h3
    omega
  go_enter Try.func25, Try.ntmps25
  go_wp2
  go_ret
  exact ⟨rfl, rfl⟩
theorem sized_part (x m : Int) (hm0 : 1 ≤ m) (hm1 : m ≤ 65536) : ∃ X Y, bits .and .i64 x 65535 = X ∧ 0 ≤ X ∧ X ≤ 65535 ∧ Int.tmod X m = Y ∧ x % 65536 % m = Y ∧ 0 ≤ Y ∧ Y < m :=
  ⟨x % 65536, x % 65536 % m, and16i x, by omega, by omega, Int.tmod_eq_emod_of_nonneg (by omega), rfl, Int.emod_nonneg _ (by omega), Int.emod_lt_of_pos _ (by omega)⟩
def rowsOf (x : Int) : Nat := (1 + x % 65536 % 5).toNat
def widthOf (x : Int) : Nat := (1 + x % 65536 % 9).toNat
theorem rows_bd (x : Int) : 1 ≤ rowsOf x ∧ rowsOf x ≤ 5 := by unfold rowsOf; omega
theorem width_bd (x : Int) : 1 ≤ widthOf x ∧ widthOf x ≤ 9 := by unfold widthOf; omega
set_option maxRecDepth 100000 in
theorem sized_any (rows width : Int) (A : Option Addr) (n c : Nat) (w : World) :
    Calls Try.prog 23 #[.agg #[.int .i64 rows, .int .i64 width, .slice A n c]] w fun e w' => e = .returned (.tuple #[.int .i64 (rowsOf rows), .int .i64 (widthOf width)]) ∧ Below w.heap.size w w' := by
  obtain ⟨X1, Y1, a1, b1, c1, d1, e1, f1, g1⟩ := sized_part rows 5 (by omega) (by omega)
  obtain ⟨X2, Y2, a2, b2, c2, d2, e2, f2, g2⟩ := sized_part width 9 (by omega) (by omega)
  have h1 : ((rowsOf rows : Nat) : Int) = 1 + Y1 := by unfold rowsOf; rw [e1]; omega
  have h2 : ((widthOf width : Nat) : Int) = 1 + Y2 := by unfold widthOf; rw [e2]; omega
  rw [h1, h2]
  clear h1 h2 e1 e2
  go_enter Try.func23, Try.ntmps23
  go_wp2
  go_quiet (fail)
  go_wp2
  go_ret2
  exact ⟨rfl, by repeat' (first | (with_reducible exact Below.refl _ _) | (with_reducible assumption) | (with_reducible refine below_over ?_ _ _) | (with_reducible refine Lw.below_alloc ?_ _) | (with_reducible refine Below.drew ?_) | (with_reducible refine below_drewN ?_ _) | (with_reducible refine Below.setCell ?_ ?_ _) | go_size)⟩
end Go.Proofs.Ytmneihdkkmgbkaa.Lin
