/- Texts that the statement QuantTells leans on, put together: SpnNum, QntPt, SpnPt, StkRGet, SpnRPt, QntRef, StkRUpd, StkUpd, StkApp. -/
import Derived.Test.YtiblpdjehknbcaaGreatMc
import Derived.Test.YtiblpdjehknbcaaGreatMh
import Derived.Test.YtiblpdjehknbcaaGreatMi
import Derived.Test.YtiblpdjehknbcaaGreatQj
import Derived.Test.YtiblpdjehknbcaaGreatQk
import Derived.Test.YtiblpdjehknbcaaGreatQl
import Derived.Deep.LoopGhost
import Derived.Deep.RegionHeld3
import Derived.Deep.DeepCutAuto
import Derived.Deep.QuietTactic
import Derived.BigQuiet
/- What spans of stacks that were fed have, in numbers. For stages from 16 on. -/
namespace Go.Proofs.YtiblpdjehknbcaaGreat.Spn
open Go Go.RowKit Lw Grd Lin Con Shp Sk Exa Lev Stk Pcs
set_option linter.unusedVariables false
theorem cel_within {b : Int} {L : List (List Int)} (hb : 0 ≤ b) (h : Within b L) (r v : Nat) : -b ≤ cel L r v ∧ cel L r v ≤ b := by
  unfold cel
  cases h1 : L[r]? with
  | none => simp; omega
  | some x =>
    simp only [Option.getD_some]
    cases h2 : x[v]? with
    | none => simp; omega
    | some y => exact h x (List.mem_of_getElem? h1) y (List.mem_of_getElem? h2)
end Go.Proofs.YtiblpdjehknbcaaGreat.Spn
/- The way to a rank's key in a stack that was fed. For stages from 17 on. By hand. -/
namespace Go.Proofs.YtiblpdjehknbcaaGreat.Qnt
open Go Go.RowKit Lw Grd Lin Con Shp Sk Exa Lev Stk Pcs Spn
set_option linter.unusedVariables false
/-- What a stack that was fed tells of a piece. -/
abbrev ptU (c : Cfg) (us : Ups) : Nat → Int → Int := fun L i => spV c (stsOf c us) (L : Int) i
end Go.Proofs.YtiblpdjehknbcaaGreat.Qnt
/- What Range tells of all keys, of one key, and of what is not there, of a stack that was fed. Printed by wip/gen/spn4.py. -/
namespace Go.Proofs.YtiblpdjehknbcaaGreat.Spn
open Go Go.RowKit Lw Grd Lin Con Shp Sk Exa Lev Stk Pcs
set_option linter.unusedVariables false
set_option linter.unusedSimpArgs false
end Go.Proofs.YtiblpdjehknbcaaGreat.Spn
/- The document's Total and Point of a stack. Printed by wip/gen/stk18.py. -/
namespace Go.Proofs.YtiblpdjehknbcaaGreat.Stk
open Go Go.RowKit Lw Grd Lin Con Shp Sk Exa Lev
set_option linter.unusedVariables false
set_option linter.unusedSimpArgs false
theorem spd_no {c : Cfg} {sts : List LS} {n : Int} (hl : sts.length = c.bt.toNat + 1) (hb : 1 ≤ c.bt) (hn : ¬ (0 ≤ n ∧ n ≤ c.bt)) (i : Int) : spV c sts n i = 0 ∧ spC c sts n i = 2 := by
  unfold spV spC
  by_cases h0 : 0 ≤ n
  · rw [if_pos h0, if_pos h0, List.getElem?_eq_none (by omega)]
    exact ⟨rfl, rfl⟩
  · rw [if_neg h0, if_neg h0]
    exact ⟨rfl, rfl⟩
theorem spd_yes {c : Cfg} {sts : List LS} {n : Nat} {st : LS} (hn : sts[n]? = some st) (i : Int) : spV c sts (n : Int) i = lsPtV c n st i ∧ spC c sts (n : Int) i = lsPtC c n st i := by
  unfold spV spC
  rw [if_pos (by omega), if_pos (by omega), Int.toNat_natCast, hn]
  exact ⟨rfl, rfl⟩
set_option maxHeartbeats 4000000 in
theorem dk_total (p : Addr) (F : Nat → Prop) (c : Cfg) (sts : List LS) (w : World) (h : DK w p F c sts) :
    Calls Tryz.prog 42 #[.pointer (some p)] w fun e w' => e = .returned (.int .i64 (spV c sts c.bt 0)) ∧ Below w.heap.size w w' := by
  obtain ⟨hr, hc, hl, b0, B0, hdr0, vals0, ts0, rfl, hrow0, hI, rfl⟩ := h
  have HH := Lib.hid (Hold.start hI)
  have HO := Lib.hid hc
  have HR := Lib.hid hr
  have HL := Lib.hid hl
  have HROW0 := Lib.hid hrow0
  have hb1 := hr.1
  have hb2 := hr.2.1
  obtain ⟨g0, cap0, rfl, hcs⟩ := ownD_cell (HH.out.i (t := ownT B0 49 hdr0 vals0) (by simp)) (by have := hrow0.lv; omega)
  obtain ⟨N, hN⟩ : ∃ N, vals0.length = N := ⟨_, rfl⟩
  have HNB : Hid (N = c.bt.toNat + 1) := Lib.hid (by have := hrow0.lv; omega)
  have hN60 : N ≤ 60 := by have := HNB.out; omega
  have HCS := Lib.hid hcs
  have d5 : w.cell? ⟨b0, 5, none⟩ = some (.slice (some ⟨g0, 0, none⟩) N cap0) := by rw [← hN]; exact box_cell (HH.out.i (t := dkB b0 c (.slice (some ⟨g0, 0, none⟩) vals0.length cap0)) (by simp)) (i := 5) rfl
  have HD5 := Lib.hid d5
  have HLS : Hid (sts.length = N) := Lib.hid (by have := hrow0.lv; omega)
  obtain ⟨m, hm⟩ : ∃ m : Nat, c.bt = m := ⟨c.bt.toNat, by omega⟩
  obtain ⟨st, hst⟩ : ∃ st, sts[m]? = some st := ⟨_, List.getElem?_eq_getElem (by have := HL.out; omega)⟩
  obtain ⟨p0, Q0, e1, e2, e3⟩ := dk_at HROW0.out HH.out hst
  have d6 := HCS.out m _ e1
  have HE := Lib.hid e2
  have hw1 : IntKind.i64.wrap ((N : Int) - 1) = (m : Int) := by
    have h9 := HNB.out
    have h8 : (N : Int) - 1 = m := by omega
    rw [h8]
    exact IntWalk.i64_in _ ⟨by omega, by omega⟩
  have hw2 : wrap64 ((N : Int) - 1) = (m : Int) := by
    have h9 := HNB.out
    have h8 : (N : Int) - 1 = m := by omega
    rw [h8]
    exact IntWalk.wrap64_in _ ⟨by omega, by omega⟩
  have hmN : (m : Int) < (N : Int) := by have := HNB.out; omega
  have hm0 : (0 : Int) ≤ (m : Int) := by omega
  have e4 : spV c sts c.bt 0 = lsPtV c m st 0 := by rw [hm]; exact (spd_yes hst 0).1
  rw [e4]
  clear hr hc hl hrow0 hI hcs hN hm e1 e2 e3 e4 hst hb1 hb2 hN60
  go_enter Tryz.func42, Tryz.ntmps42
  go_wp2
  go_region_held3 (fun w' => Below w.heap.size w w' ∧ w'.cell? ⟨b0, 5, none⟩ = some (.slice (some ⟨g0, 0, none⟩) N cap0) ∧ w'.cell? ⟨g0, m, none⟩ = some (.pointer (some p0))) (first | (refine ⟨?_, ?_, ?_⟩ <;> (first | (with_reducible assumption) | (with_reducible refine cell_up d5 ?_) | (with_reducible refine cell_up d6 ?_) | skip) <;> ((repeat' (first | (with_reducible exact Below.refl _ _) | (with_reducible assumption) | (with_reducible refine below_over ?_ _ _) | (with_reducible refine Lw.below_alloc ?_ _) | (with_reducible refine Below.drew ?_) | (with_reducible refine below_drewN ?_ _) | (with_reducible refine Below.setCell ?_ ?_ _) | go_size))))) (first
    | (go_at_call 66; (with_reducible refine (dv_point p0 Q0 c m st 0 _ (dlv_up HE.out (by (repeat' (first | (with_reducible exact Below.refl _ _) | (with_reducible assumption) | (with_reducible refine below_over ?_ _ _) | (with_reducible refine Lw.below_alloc ?_ _) | (with_reducible refine Below.drew ?_) | (with_reducible refine below_drewN ?_ _) | (with_reducible refine Below.setCell ?_ ?_ _) | go_size)))) (by omega) (by omega)).mono ?_); rintro e w5 ⟨rfl, hb⟩; obtain ⟨bs, d, rfl⟩ := below_grow hb; clear hb))
  all_goals go_wp2
  all_goals go_ret
  all_goals exact ⟨rfl, (by (repeat' (first | (with_reducible exact Below.refl _ _) | (with_reducible assumption) | (with_reducible refine below_over ?_ _ _) | (with_reducible refine Lw.below_alloc ?_ _) | (with_reducible refine Below.drew ?_) | (with_reducible refine below_drewN ?_ _) | (with_reducible refine Below.setCell ?_ ?_ _) | go_size)))⟩
set_option maxHeartbeats 8000000 in
theorem dk_point (p : Addr) (F : Nat → Prop) (c : Cfg) (sts : List LS) (n i : Int) (w : World) (h : DK w p F c sts) (n0 : -9223372036854775808 ≤ n) (n1 : n ≤ 9223372036854775807) (i0 : 0 ≤ i) (i1 : i ≤ 18446744073709551615) :
    Calls Tryz.prog 43 #[.pointer (some p), .agg #[.int .i64 n, .int .u64 i]] w fun e w' => e = .returned (.tuple #[.int .i64 (spV c sts n i), .int .i64 (spC c sts n i)]) ∧ Below w.heap.size w w' := by
  obtain ⟨hr, hc, hl, b0, B0, hdr0, vals0, ts0, rfl, hrow0, hI, rfl⟩ := h
  have HH := Lib.hid (Hold.start hI)
  have HO := Lib.hid hc
  have HR := Lib.hid hr
  have HL := Lib.hid hl
  have HROW0 := Lib.hid hrow0
  have hb1 := hr.1
  have hb2 := hr.2.1
  obtain ⟨g0, cap0, rfl, hcs⟩ := ownD_cell (HH.out.i (t := ownT B0 49 hdr0 vals0) (by simp)) (by have := hrow0.lv; omega)
  obtain ⟨N, hN⟩ : ∃ N, vals0.length = N := ⟨_, rfl⟩
  have HNB : Hid (N = c.bt.toNat + 1) := Lib.hid (by have := hrow0.lv; omega)
  have hN60 : N ≤ 60 := by have := HNB.out; omega
  have HCS := Lib.hid hcs
  have d5 : w.cell? ⟨b0, 5, none⟩ = some (.slice (some ⟨g0, 0, none⟩) N cap0) := by rw [← hN]; exact box_cell (HH.out.i (t := dkB b0 c (.slice (some ⟨g0, 0, none⟩) vals0.length cap0)) (by simp)) (i := 5) rfl
  have HD5 := Lib.hid d5
  have HLS : Hid (sts.length = N) := Lib.hid (by have := hrow0.lv; omega)
  have I0 := Lib.hid i0
  have I1 := Lib.hid i1
  have B0w : Below w.heap.size w (w.alloc (.cells #[.int .i64 n, .int .u64 i] 61)) := Lw.below_alloc (Below.refl _ _) _
  have k5 := cell_up d5 B0w
  by_cases hlo : n < 0
  · obtain ⟨e1, e2⟩ := spd_no (sts := sts) HL.out hb1 (fun h => by omega : ¬ (0 ≤ n ∧ n ≤ c.bt)) i
    rw [e1, e2]
    have hd : decide (n < 0) = true := decide_eq_true hlo
    clear hr hc hl hrow0 hI hcs hN hb1 hb2 hN60 n0 n1 i0 i1 e1 e2
    go_enter Tryz.func43, Tryz.ntmps43
    go_wp2
    go_quiet (fail)
    go_wp2
    go_ret2
    exact ⟨rfl, (by (repeat' (first | (with_reducible exact Below.refl _ _) | (with_reducible assumption) | (with_reducible refine below_over ?_ _ _) | (with_reducible refine Lw.below_alloc ?_ _) | (with_reducible refine Below.drew ?_) | (with_reducible refine below_drewN ?_ _) | (with_reducible refine Below.setCell ?_ ?_ _) | go_size)))⟩
  · obtain ⟨m, rfl⟩ : ∃ m : Nat, n = m := ⟨n.toNat, by omega⟩
    by_cases hhi : (N : Int) ≤ (m : Int)
    · obtain ⟨e1, e2⟩ := spd_no (sts := sts) HL.out hb1 (fun h => by have := HNB.out; omega : ¬ (0 ≤ (m : Int) ∧ (m : Int) ≤ c.bt)) i
      rw [e1, e2]
      have hd : decide ((m : Int) < 0) = false := decide_eq_false hlo
      have hd2 : decide ((N : Int) ≤ (m : Int)) = true := decide_eq_true hhi
      have hm0 : (0 : Int) ≤ (m : Int) := by omega
      clear hr hc hl hrow0 hI hcs hN hb1 hb2 hN60 n0 n1 i0 i1 e1 e2
      go_enter Tryz.func43, Tryz.ntmps43
      go_wp2
      go_quiet (fail)
      go_wp2
      go_ret2
      exact ⟨rfl, (by (repeat' (first | (with_reducible exact Below.refl _ _) | (with_reducible assumption) | (with_reducible refine below_over ?_ _ _) | (with_reducible refine Lw.below_alloc ?_ _) | (with_reducible refine Below.drew ?_) | (with_reducible refine below_drewN ?_ _) | (with_reducible refine Below.setCell ?_ ?_ _) | go_size)))⟩
    · obtain ⟨st, hst⟩ : ∃ st, sts[m]? = some st := ⟨_, List.getElem?_eq_getElem (by have := HLS.out; omega)⟩
      obtain ⟨p0, Q0, e1, e2, e3⟩ := dk_at HROW0.out HH.out hst
      have d6 := HCS.out m _ e1
      have k6 := cell_up d6 B0w
      have HE := Lib.hid e2
      obtain ⟨e4, e5⟩ := spd_yes (c := c) hst i
      rw [e4, e5]
      have hd : decide ((m : Int) < 0) = false := decide_eq_false hlo
      have hd2 : decide ((N : Int) ≤ (m : Int)) = false := decide_eq_false hhi
      have hmN : (m : Int) < (N : Int) := by omega
      have hm0 : (0 : Int) ≤ (m : Int) := by omega
      clear hr hc hl hrow0 hI hcs hN hb1 hb2 hN60 n0 n1 i0 i1 e1 e2 e3 e4 e5 hst
      go_enter Tryz.func43, Tryz.ntmps43
      go_wp2
      go_quiet (fail)
      go_wp2
      have q0 : (w.alloc (.cells #[.int .i64 m, .int .u64 i] 61)).cell? ⟨w.heap.size, 0, none⟩ = some (.int .i64 m) := box_cell (heap_alloc_new w _) rfl
      have q1 : (w.alloc (.cells #[.int .i64 m, .int .u64 i] 61)).cell? ⟨w.heap.size, 1, none⟩ = some (.int .u64 i) := box_cell (heap_alloc_new w _) rfl
      go_region_held3 (fun w' => Below w.heap.size w w' ∧ w'.cell? ⟨b0, 5, none⟩ = some (.slice (some ⟨g0, 0, none⟩) N cap0) ∧ w'.cell? ⟨w.heap.size, 0, none⟩ = some (.int .i64 m) ∧ w'.cell? ⟨w.heap.size, 1, none⟩ = some (.int .u64 i) ∧ w'.cell? ⟨g0, m, none⟩ = some (.pointer (some p0))) (first | (refine ⟨?_, ?_, ?_, ?_, ?_⟩ <;> (first | (with_reducible assumption) | (with_reducible refine cell_up k5 ?_) | (with_reducible refine cell_up k6 ?_) | (with_reducible refine cell_up q0 ?_) | (with_reducible refine cell_up q1 ?_) | skip) <;> ((repeat' (first | (with_reducible exact Below.refl _ _) | (with_reducible assumption) | (with_reducible refine below_over ?_ _ _) | (with_reducible refine Lw.below_alloc ?_ _) | (with_reducible refine Below.drew ?_) | (with_reducible refine below_drewN ?_ _) | (with_reducible refine Below.setCell ?_ ?_ _) | go_size))))) (first
        | (go_at_call 66; (with_reducible refine (dv_point p0 Q0 c m st i _ (dlv_up HE.out (by (repeat' (first | (with_reducible exact Below.refl _ _) | (with_reducible assumption) | (with_reducible refine below_over ?_ _ _) | (with_reducible refine Lw.below_alloc ?_ _) | (with_reducible refine Below.drew ?_) | (with_reducible refine below_drewN ?_ _) | (with_reducible refine Below.setCell ?_ ?_ _) | go_size)))) I0.out I1.out).mono ?_); rintro e w5 ⟨rfl, hb⟩; obtain ⟨bs, d, rfl⟩ := below_grow hb; clear hb))
      all_goals go_wp2
      all_goals go_ret2
      all_goals exact ⟨rfl, (by (repeat' (first | (with_reducible exact Below.refl _ _) | (with_reducible assumption) | (with_reducible refine below_over ?_ _ _) | (with_reducible refine Lw.below_alloc ?_ _) | (with_reducible refine Below.drew ?_) | (with_reducible refine below_drewN ?_ _) | (with_reducible refine Below.setCell ?_ ?_ _) | go_size)))⟩
end Go.Proofs.YtiblpdjehknbcaaGreat.Stk
/- The document's Parts of layer 16. Printed by wip/gen/spn12.py. -/
namespace Go.Proofs.YtiblpdjehknbcaaGreat.Spn
open Go Go.RowKit Lw Grd Lin Con Shp Sk Exa Lev Stk Pcs
set_option linter.unusedVariables false
set_option linter.unusedSimpArgs false
theorem dk_bt {w : World} {r : Addr} {F : Nat → Prop} {c : Cfg} {sts : List LS} (h : DK w r F c sts) : ∃ b, r = ⟨b, 0, none⟩ ∧ w.cell? ⟨b, 0, none⟩ = some (.int .i64 c.bt) ∧ b < w.heap.size := by
  obtain ⟨hr, hc, hl, b, B0, hdr, vals, ts, e, hrow, hI, -⟩ := h
  have hb := (Hold.start hI).i (t := dkB b c hdr) (by simp)
  exact ⟨b, e, box_cell hb (i := 0) rfl, box_lt hb⟩
end Go.Proofs.YtiblpdjehknbcaaGreat.Spn
/- The document's Way and Quantile of layer 17. Printed by wip/gen/qnt5.py. -/
namespace Go.Proofs.YtiblpdjehknbcaaGreat.Qnt
open Go Go.RowKit Lw Grd Lin Con Shp Sk Exa Lev Stk Pcs Spn
set_option linter.unusedVariables false
set_option linter.unusedSimpArgs false
theorem own_pc1 (X : World) (U D : Int) (base : Nat) (hb : base ≤ X.heap.size) : (X.alloc (.cells #[.int .i64 U, .int .u64 D] 61)).ownsRow base 61 2 (.slice (some ⟨X.heap.size, 0, none⟩) 1 1) 1 [.int .i64 U, .int .u64 D] :=
  ⟨rfl, .inr ⟨X.heap.size, 1, _, rfl, hb, heap_alloc_new X _, Nat.le_refl _, by decide, rfl, rfl⟩⟩
set_option maxRecDepth 100000 in
set_option maxHeartbeats 8000000 in
theorem rway_s (r : Addr) (F : Nat → Prop) (c : Cfg) (sts : List LS) (k : Int) (w : World) (h : DK w r F c sts) (hin : ∀ n i : Int, -9223372036854775808 ≤ spV c sts n i ∧ spV c sts n i ≤ 9223372036854775807) (k0 : -9223372036854775808 ≤ k) (k1 : k ≤ 9223372036854775807) (h1 : 1 ≤ k) (h2 : k ≤ spV c sts c.bt 0) (lw : List (Nat × Nat)) (hw : wayQ (fun L i => spV c sts (L : Int) i) c.bt.toNat 0 k = some lw) :
    Calls Tryz.prog 16 #[.pointer (some r), .int .i64 k] w fun e w' => ∃ (A : Option Addr) (n cap : Nat), e = .returned (.tuple #[.slice A n cap, .int .i64 (qnC c (fun L i => spV c sts (L : Int) i) k)]) ∧ (pcT A n cap (ints (qnL c (fun L i => spV c sts (L : Int) i) k))).I w' ∧ Below w.heap.size w w' := by
  have hr := h.right.1
  have hbt := hr.1
  have hbt2 := hr.2.1
  have etop : spV c sts ((c.bt.toNat : Nat) : Int) 0 = spV c sts c.bt 0 := by
    rw [show ((c.bt.toNat : Nat) : Int) = c.bt by omega]
  have hq := qn_yes (c := c) (pt := (fun L i => spV c sts (L : Int) i)) h1 (by rw [etop]; exact h2) hw
  rw [hq.1, hq.2.1]
  obtain ⟨b, rfl, d0, dlt⟩ := dk_bt h
  have CTT := Lib.hid (fun w hs => dk_total ⟨b, 0, none⟩ F c sts w hs)
  have CPT := Lib.hid (fun n i w hs n0 n1 i0 i1 => dk_point ⟨b, 0, none⟩ F c sts n i w hs n0 n1 i0 i1)
  have HD := Lib.hid h
  have HIN := Lib.hid hin
  have HW := Lib.hid hw
  obtain ⟨TT, hTT⟩ : ∃ T, spV c sts c.bt 0 = T := ⟨_, rfl⟩
  rw [hTT] at CTT h2
  obtain ⟨BB, hBB⟩ : ∃ B, c.bt.toNat = B := ⟨_, rfl⟩
  rw [hBB] at HW
  have hcb : c.bt = (BB : Int) := by omega
  have hb59 : BB ≤ 59 := by omega
  rw [hcb] at d0
  have HB59 := Lib.hid hb59
  have f1 : decide (k < 1) = false := decide_eq_false (by omega)
  have f2 : decide (TT < k) = false := decide_eq_false (by omega)
  have f3 : ¬ k < 1 := by omega
  have f4 : ¬ TT < k := by omega
  have H1 := Lib.hid h1
  have K1 := Lib.hid k1
  have hwr : IntKind.i64.wrap ((BB : Int) - 1) = (BB : Int) - 1 := IntWalk.i64_in _ ⟨by omega, by omega⟩
  have hwr2 : wrap64 ((BB : Int) - 1) = (BB : Int) - 1 := IntWalk.wrap64_in _ ⟨by omega, by omega⟩
  obtain ⟨i0, hi_, hz0, hz1, hz2⟩ := info_parts pc_info
  have dd := Lib.hid (fun (w1 : World) (hb : Below w.heap.size w w1) => cell_up d0 hb)
  clear h hin hw hq etop hr hbt hbt2 hTT hBB hcb h1 h2 k0 k1
  go_enter Tryz.func16, Tryz.ntmps16
  go_wp2_with (go_at_call 42; (with_reducible refine (CTT.out _ HD.out).mono ?_); rintro e w4 ⟨rfl, hb⟩; have HB4 := Lib.hid hb; have d4 := dd.out _ hb; have dl4 := cell_lt d4; clear hb)
  have HB5 : Hid (Below w.heap.size w (w4.alloc (.cells #[.int .i64 (BB : Int), .int .u64 0] 61))) := Lib.hid (Lw.below_alloc HB4.out _)
  have HO5 : Hid ((w4.alloc (.cells #[.int .i64 (BB : Int), .int .u64 0] 61)).ownsRow w.heap.size 61 2 (.slice (some ⟨w4.heap.size, 0, none⟩) 1 1) 1 [.int .i64 (BB : Int), .int .u64 0]) := Lib.hid (own_pc1 w4 (BB : Int) 0 w.heap.size HB4.out.size)
  clear f1 f2 f3 f4 d0 d4 dlt dd dl4
  go_loopw [1, 6, 7, 8] (fun kv ov yv lv wr => ∃ (L i : Nat) (kk : Int) (xs : List (Nat × Nat)), L ≤ BB ∧ kv = .int .i64 kk ∧ yv = .int .u64 (i : Int) ∧ lv = .int .i64 ((L : Int) - 1) ∧ wr.ownsRow w.heap.size 61 2 ov (xs.length + 1) (flatP (ints (xs ++ [(L, i)]))) ∧ xs.length + L = BB ∧ wayQ (fun L i => spV c sts (L : Int) i) BB 0 k = (wayQ (fun L i => spV c sts (L : Int) i) L i kk).map (fun l => xs ++ l) ∧ i < 2 ^ (BB - L) ∧ 1 ≤ kk ∧ kk ≤ 9223372036854775807 ∧ Below w.heap.size w wr) (fun _ _ _ lv _ => (intOf lv + 1).toNat)
  case atStart => exact ⟨BB, 0, k, [], Nat.le_refl _, rfl, rfl, rfl, HO5.out, by simp, by simp, Nat.two_pow_pos _, H1.out, K1.out, HB5.out⟩
  case round =>
    obtain ⟨L, i, kk, xs, hL, rfl, rfl, rfl, hown, hxl, hwy, hi, hk1, hk2, hbw⟩ := hrel
    have HOWN := Lib.hid hown
    have HBWR := Lib.hid hbw
    have HWY := Lib.hid hwy
    have HDR := Lib.hid (HD.out.up hbw)
    clear hown hbw hwy hwr hwr2
    cases L with
    | zero =>
      have hlw : lw = xs ++ [(0, i)] := by
        have h := HWY.out
        rw [HW.out] at h
        injection h
      have hxs : xs.length + 1 ≤ 60 := by omega
      have HBI := Lib.hid (fun u (hu : u ∈ ints lw) => (show (-9223372036854775808 ≤ u.1 ∧ u.1 ≤ 9223372036854775807) ∧ (0 ≤ u.2 ∧ u.2 ≤ 18446744073709551615) from by
        obtain ⟨p, hp, rfl⟩ := List.mem_map.1 hu
        obtain ⟨j, hj⟩ := List.getElem?_of_mem hp
        obtain ⟨g1, g2, g3⟩ := (wayQ_path HW.out).at j p hj
        have g4 := Nat.pow_le_pow_right (show 0 < 2 by omega) (show j ≤ 59 by omega)
        have g5 : (2 : Nat) ^ 59 = 576460752303423488 := rfl
        refine ⟨⟨?_, ?_⟩, ?_, ?_⟩
        · show -9223372036854775808 ≤ (p.1 : Int); omega
        · show (p.1 : Int) ≤ 9223372036854775807; omega
        · show 0 ≤ (p.2 : Int); omega
        · show (p.2 : Int) ≤ 18446744073709551615; omega))
      have hown2 := HOWN.out
      rw [← hlw] at hown2
      obtain ⟨A2, cap2, rfl, hI, -⟩ := pc_own hown2 (by rw [ints_len, hlw]; simp) HBI.out
      have HI := Lib.hid hI
      clear hI hown2 hlw hxs hi hk1 hk2
      go_wp2
      refine bodyPost_ret (v := .tuple #[.slice A2 (xs.length + 1) cap2, .int .i64 0]) (by simp [results, Tryz.results16, go_sem]) rfl ?_
      exact ⟨A2, _, cap2, rfl, HI.out, HBWR.out⟩
    | succ L =>
      have e1 : ((L + 1 : Nat) : Int) - 1 = (L : Int) := by omega
      rw [e1]
      have hpw : BB - L = (BB - (L + 1)) + 1 := by omega
      have hp59 : 2 ^ (BB - L) ≤ 2 ^ 59 := Nat.pow_le_pow_right (by omega) (by omega)
      have e59 : (2 : Nat) ^ 59 = 576460752303423488 := rfl
      have hi2 : 2 * i + 1 < 2 ^ (BB - L) := by rw [hpw, Nat.pow_succ]; omega
      have HI2 := Lib.hid hi2
      obtain ⟨I2, hI2⟩ : ∃ I2, 2 * i = I2 := ⟨_, rfl⟩
      have HEI := Lib.hid hI2
      have hvb := HIN.out (L : Int) (I2 : Int)
      have CPJ := Lib.hid (fun w hs => CPT.out (L : Int) (I2 : Int) w hs (by omega) (by omega) (by omega) (by omega))
      have HSTEP := Lib.hid (show ∀ VV, spV c sts (L : Int) (I2 : Int) = VV → (kk ≤ VV → wayQ (fun L i => spV c sts (L : Int) i) (L + 1) i kk = (wayQ (fun L i => spV c sts (L : Int) i) L I2 kk).map (fun l => (L + 1, i) :: l)) ∧ (¬ kk ≤ VV → Wid.fit64 (kk - VV) = true → wayQ (fun L i => spV c sts (L : Int) i) (L + 1) i kk = (wayQ (fun L i => spV c sts (L : Int) i) L (I2 + 1) (kk - VV)).map (fun l => (L + 1, i) :: l)) ∧ (¬ kk ≤ VV → Wid.fit64 (kk - VV) = false → wayQ (fun L i => spV c sts (L : Int) i) (L + 1) i kk = none) from by
        intro VV hV
        subst hI2
        subst hV
        exact ⟨fun h => wayQ_left h, fun h h2 => wayQ_right h h2, fun h h2 => wayQ_none h h2⟩)
      obtain ⟨VV, hVV⟩ : ∃ v, spV c sts (L : Int) (I2 : Int) = v := ⟨_, rfl⟩
      obtain ⟨VC, hVC⟩ : ∃ v, spC c sts (L : Int) (I2 : Int) = v := ⟨_, rfl⟩
      rw [hVV, hVC] at CPJ
      rw [hVV] at hvb
      have HST := Lib.hid (HSTEP.out VV hVV)
      have f1 : 0 ≤ (L : Int) := by omega
      have f2 : IntKind.u64.wrap ((i : Int) * 2) = (I2 : Int) := by rw [IntKind.wrap_u64]; omega
      have f3 : wrap64 ((L : Int) - 1) = (L : Int) - 1 := IntWalk.wrap64_in _ ⟨by omega, by omega⟩
      have HXL : Hid (xs.length + 1 + L = BB) := Lib.hid (by omega)
      have HK := Lib.hid (And.intro hk1 hk2)
      have HLB : Hid (L ≤ BB) := Lib.hid (by omega)
      have HFL : Hid (∀ J : Nat, flatP (ints ((xs ++ [(L + 1, i)]) ++ [(L, J)])) = flatP (ints (xs ++ [(L + 1, i)])) ++ [.int .i64 (L : Int), .int .u64 (J : Int)]) := Lib.hid (fun J => by rw [ints_app]; exact flatP_snoc _ _)
      have hxl2 : xs.length + 1 ≤ 60 := by omega
      clear HSTEP hVV hVC e1 hpw hp59 e59 hi2 hI2 hi hxl hL
      by_cases hle : kk ≤ VV
      · have g1 : decide (VV < kk) = false := decide_eq_false (by omega)
        have g2 : ¬ VV < kk := by omega
        have HLE := Lib.hid hle
        clear hle hk1 hk2 hvb
        go_wp2_with (first
          | (at_builtin; go_must (refine wpList_append_lies _ rfl _ _ 42 rfl w.heap.size 61 i0 (.agg #[.int .i64 0, .int .u64 0]) 2 16 pcs_u hi_ hz0 hz1 hz2 rfl (by decide) _ _ _ rfl ((own2_up' HOWN.out HBX.out).alloc _) ⟨_, 0, none⟩ 1 1 [.int .i64 (L : Int), .int .u64 (I2 : Int)] rfl rfl (pc_news (pc_alloc (by simp))) (pc_one _ _) (by decide) (by unfold maxLen; omega) (by omega) (by simp; have := HBW.out.size; omega) _ rfl ?_); intro g7 cap7 w7 hown7 hgrow7 hat7 hlt7)
          | (go_at_call 43; (with_reducible refine (CPJ.out _ HDR.out).mono ?_); rintro e wp ⟨rfl, hb⟩; have HBX := Lib.hid hb; have HBW := Lib.hid (HBWR.out.trans (hb.mono HBWR.out.size)); clear hb))
        go_roundw
        case rel => exact ⟨L, I2, kk, xs ++ [(L + 1, i)], HLB.out, rfl, rfl, by go_num, by rw [HFL.out, List.length_append]; exact hown7, by rw [List.length_append]; exact HXL.out, way_push HWY.out (HST.out.1 HLE.out), by have := HI2.out; have := HEI.out; omega, HK.out.1, HK.out.2, (HBW.out.alloc HBW.out.size _).grown hgrow7 (by simp; have := HBW.out.size; omega) (fun x hx => own_ge HOWN.out x hx)⟩
        case measure => simp [intOf]; omega
      · have g1 : decide (VV < kk) = true := decide_eq_true (by omega)
        have g2 : VV < kk := by omega
        have HNE := Lib.hid hle
        have em : kk + -VV = kk - VV := by omega
        have HEM := Lib.hid em
        have CM1 := Lib.hid (fun w => Wid.rofint_any kk w (by omega) hk2)
        have CM2 := Lib.hid (fun w => Wid.rofint_any VV w hvb.1 hvb.2)
        have CM3 := Lib.hid (fun w => Wid.rminus_any VV _ _ _ _ _ _ _ _ _ _ w rfl)
        have CM4 := Lib.hid (fun w => Wid.rplus_any kk (-VV) _ _ _ _ _ _ _ _ _ _ _ _ _ _ _ _ _ _ _ _ w rfl rfl)
        have CM5 := Lib.hid (fun w => Wid.rint_any (kk + -VV) _ _ _ _ _ _ _ _ _ _ w rfl (by omega) (by omega))
        rw [show Wid.f64 (kk + -VV) = Wid.f64 (kk - VV) by rw [em], show Wid.fit64 (kk + -VV) = Wid.fit64 (kk - VV) by rw [em]] at CM5
        cases hfit : Wid.fit64 (kk - VV) with
        | false =>
          exfalso
          have h := HWY.out
          rw [HW.out, HST.out.2.2 hle hfit] at h
          cases h
        | true =>
          have e6 : Wid.f64 (kk - VV) = kk - VV := by unfold Wid.f64; rw [hfit]; rfl
          rw [hfit, e6] at CM5
          have hfb := of_decide_eq_true hfit
          have HRT := Lib.hid (HST.out.2.1 hle hfit)
          have HKB : Hid (1 ≤ kk - VV ∧ kk - VV ≤ 9223372036854775807) := Lib.hid ⟨by omega, by omega⟩
          obtain ⟨KN, hKN⟩ : ∃ v, kk - VV = v := ⟨_, rfl⟩
          rw [hKN] at CM5 HRT HKB
          have f4 : IntKind.u64.wrap ((I2 : Int) + 1) = (I2 : Int) + 1 := by rw [IntKind.wrap_u64]; have := HI2.out; have := HEI.out; have := Nat.pow_le_pow_right (show 0 < 2 by omega) (show BB - L ≤ 59 by omega); have e59 : (2 : Nat) ^ 59 = 576460752303423488 := rfl; omega
          have f5 : ((I2 + 1 : Nat) : Int) = (I2 : Int) + 1 := by omega
          clear hle hk1 hk2 hvb em hfit e6 hfb hKN
          go_wp2_with (first
            | (at_builtin; go_must (refine wpList_append_lies _ rfl _ _ 42 rfl w.heap.size 61 i0 (.agg #[.int .i64 0, .int .u64 0]) 2 16 pcs_u hi_ hz0 hz1 hz2 rfl (by decide) _ _ _ rfl ((own2_up' HOWN.out HRe.out).alloc _) ⟨_, 0, none⟩ 1 1 [.int .i64 (L : Int), .int .u64 ((I2 : Int) + 1)] rfl rfl (pc_news (pc_alloc (by simp))) (pc_one _ _) (by decide) (by unfold maxLen; omega) (by omega) (by simp; have := HBe.out.size; omega) _ rfl ?_); intro g7 cap7 w7 hown7 hgrow7 hat7 hlt7)
            | (go_at_call 46; (with_reducible refine (CM1.out _).mono ?_); rintro e wa ⟨rfl, hb⟩; have HBa := Lib.hid (HBW.out.trans (hb.mono HBW.out.size)); have HRa := Lib.hid (HBX.out.trans (hb.mono HBX.out.size)); clear hb)
            | (go_at_call 46; (with_reducible refine (CM2.out _).mono ?_); rintro e wb ⟨rfl, hb⟩; have HBb := Lib.hid (HBa.out.trans (hb.mono HBa.out.size)); have HRb := Lib.hid (HRa.out.trans (hb.mono HRa.out.size)); clear hb)
            | (go_at_call 47; (with_reducible refine (CM3.out _).mono ?_); rintro e wc ⟨rfl, hb⟩; have HBc := Lib.hid (HBb.out.trans (hb.mono HBb.out.size)); have HRc := Lib.hid (HRb.out.trans (hb.mono HRb.out.size)); clear hb)
            | (go_at_call 45; (with_reducible refine (CM4.out _).mono ?_); rintro e wd ⟨rfl, hb⟩; have HBd := Lib.hid (HBc.out.trans (hb.mono HBc.out.size)); have HRd := Lib.hid (HRc.out.trans (hb.mono HRc.out.size)); clear hb)
            | (go_at_call 44; (with_reducible refine (CM5.out _).mono ?_); rintro e we ⟨rfl, hb⟩; have HBe := Lib.hid (HBd.out.trans (hb.mono HBd.out.size)); have HRe := Lib.hid (HRd.out.trans (hb.mono HRd.out.size)); clear hb)
            | (go_at_call 43; (with_reducible refine (CPJ.out _ HDR.out).mono ?_); rintro e wp ⟨rfl, hb⟩; have HBX := Lib.hid hb; have HBW := Lib.hid (HBWR.out.trans (hb.mono HBWR.out.size)); clear hb))
          go_roundw
          case rel => exact ⟨L, I2 + 1, KN, xs ++ [(L + 1, i)], HLB.out, rfl, rfl, by go_num, by rw [HFL.out, List.length_append]; exact hown7, by rw [List.length_append]; exact HXL.out, way_push HWY.out HRT.out, by have := HI2.out; have := HEI.out; omega, HKB.out.1, HKB.out.2, (HBe.out.alloc HBe.out.size _).grown hgrow7 (by simp; have := HBe.out.size; omega) (fun x hx => own_ge HOWN.out x hx)⟩
          case measure => simp [intOf]; omega
set_option maxRecDepth 100000 in
set_option maxHeartbeats 8000000 in
theorem rway_o (r : Addr) (F : Nat → Prop) (c : Cfg) (sts : List LS) (k : Int) (w : World) (h : DK w r F c sts) (hin : ∀ n i : Int, -9223372036854775808 ≤ spV c sts n i ∧ spV c sts n i ≤ 9223372036854775807) (k0 : -9223372036854775808 ≤ k) (k1 : k ≤ 9223372036854775807) (h1 : 1 ≤ k) (h2 : k ≤ spV c sts c.bt 0) (hw : wayQ (fun L i => spV c sts (L : Int) i) c.bt.toNat 0 k = none) :
    Calls Tryz.prog 16 #[.pointer (some r), .int .i64 k] w fun e w' => ∃ (A : Option Addr) (n cap : Nat), e = .returned (.tuple #[.slice A n cap, .int .i64 (qnC c (fun L i => spV c sts (L : Int) i) k)]) ∧ (pcT A n cap (ints (qnL c (fun L i => spV c sts (L : Int) i) k))).I w' ∧ Below w.heap.size w w' := by
  have hr := h.right.1
  have hbt := hr.1
  have hbt2 := hr.2.1
  have etop : spV c sts ((c.bt.toNat : Nat) : Int) 0 = spV c sts c.bt 0 := by
    rw [show ((c.bt.toNat : Nat) : Int) = c.bt by omega]
  have hq := qn_over (c := c) (pt := (fun L i => spV c sts (L : Int) i)) h1 (by rw [etop]; exact h2) hw
  rw [hq.1, hq.2.1]
  obtain ⟨b, rfl, d0, dlt⟩ := dk_bt h
  have CTT := Lib.hid (fun w hs => dk_total ⟨b, 0, none⟩ F c sts w hs)
  have CPT := Lib.hid (fun n i w hs n0 n1 i0 i1 => dk_point ⟨b, 0, none⟩ F c sts n i w hs n0 n1 i0 i1)
  have HD := Lib.hid h
  have HIN := Lib.hid hin
  have HW := Lib.hid hw
  obtain ⟨TT, hTT⟩ : ∃ T, spV c sts c.bt 0 = T := ⟨_, rfl⟩
  rw [hTT] at CTT h2
  obtain ⟨BB, hBB⟩ : ∃ B, c.bt.toNat = B := ⟨_, rfl⟩
  rw [hBB] at HW
  have hcb : c.bt = (BB : Int) := by omega
  have hb59 : BB ≤ 59 := by omega
  rw [hcb] at d0
  have HB59 := Lib.hid hb59
  have f1 : decide (k < 1) = false := decide_eq_false (by omega)
  have f2 : decide (TT < k) = false := decide_eq_false (by omega)
  have f3 : ¬ k < 1 := by omega
  have f4 : ¬ TT < k := by omega
  have H1 := Lib.hid h1
  have K1 := Lib.hid k1
  have hwr : IntKind.i64.wrap ((BB : Int) - 1) = (BB : Int) - 1 := IntWalk.i64_in _ ⟨by omega, by omega⟩
  have hwr2 : wrap64 ((BB : Int) - 1) = (BB : Int) - 1 := IntWalk.wrap64_in _ ⟨by omega, by omega⟩
  obtain ⟨i0, hi_, hz0, hz1, hz2⟩ := info_parts pc_info
  have dd := Lib.hid (fun (w1 : World) (hb : Below w.heap.size w w1) => cell_up d0 hb)
  clear h hin hw hq etop hr hbt hbt2 hTT hBB hcb h1 h2 k0 k1
  go_enter Tryz.func16, Tryz.ntmps16
  go_wp2_with (go_at_call 42; (with_reducible refine (CTT.out _ HD.out).mono ?_); rintro e w4 ⟨rfl, hb⟩; have HB4 := Lib.hid hb; have d4 := dd.out _ hb; have dl4 := cell_lt d4; clear hb)
  have HB5 : Hid (Below w.heap.size w (w4.alloc (.cells #[.int .i64 (BB : Int), .int .u64 0] 61))) := Lib.hid (Lw.below_alloc HB4.out _)
  have HO5 : Hid ((w4.alloc (.cells #[.int .i64 (BB : Int), .int .u64 0] 61)).ownsRow w.heap.size 61 2 (.slice (some ⟨w4.heap.size, 0, none⟩) 1 1) 1 [.int .i64 (BB : Int), .int .u64 0]) := Lib.hid (own_pc1 w4 (BB : Int) 0 w.heap.size HB4.out.size)
  clear f1 f2 f3 f4 d0 d4 dlt dd dl4
  go_loopw [1, 6, 7, 8] (fun kv ov yv lv wr => ∃ (L i : Nat) (kk : Int) (xs : List (Nat × Nat)), L ≤ BB ∧ kv = .int .i64 kk ∧ yv = .int .u64 (i : Int) ∧ lv = .int .i64 ((L : Int) - 1) ∧ wr.ownsRow w.heap.size 61 2 ov (xs.length + 1) (flatP (ints (xs ++ [(L, i)]))) ∧ xs.length + L = BB ∧ wayQ (fun L i => spV c sts (L : Int) i) BB 0 k = (wayQ (fun L i => spV c sts (L : Int) i) L i kk).map (fun l => xs ++ l) ∧ i < 2 ^ (BB - L) ∧ 1 ≤ kk ∧ kk ≤ 9223372036854775807 ∧ Below w.heap.size w wr) (fun _ _ _ lv _ => (intOf lv + 1).toNat)
  case atStart => exact ⟨BB, 0, k, [], Nat.le_refl _, rfl, rfl, rfl, HO5.out, by simp, by simp, Nat.two_pow_pos _, H1.out, K1.out, HB5.out⟩
  case round =>
    obtain ⟨L, i, kk, xs, hL, rfl, rfl, rfl, hown, hxl, hwy, hi, hk1, hk2, hbw⟩ := hrel
    have HOWN := Lib.hid hown
    have HBWR := Lib.hid hbw
    have HWY := Lib.hid hwy
    have HDR := Lib.hid (HD.out.up hbw)
    clear hown hbw hwy hwr hwr2
    cases L with
    | zero =>
      exfalso
      have h := HWY.out
      rw [HW.out] at h
      cases h
    | succ L =>
      have e1 : ((L + 1 : Nat) : Int) - 1 = (L : Int) := by omega
      rw [e1]
      have hpw : BB - L = (BB - (L + 1)) + 1 := by omega
      have hp59 : 2 ^ (BB - L) ≤ 2 ^ 59 := Nat.pow_le_pow_right (by omega) (by omega)
      have e59 : (2 : Nat) ^ 59 = 576460752303423488 := rfl
      have hi2 : 2 * i + 1 < 2 ^ (BB - L) := by rw [hpw, Nat.pow_succ]; omega
      have HI2 := Lib.hid hi2
      obtain ⟨I2, hI2⟩ : ∃ I2, 2 * i = I2 := ⟨_, rfl⟩
      have HEI := Lib.hid hI2
      have hvb := HIN.out (L : Int) (I2 : Int)
      have CPJ := Lib.hid (fun w hs => CPT.out (L : Int) (I2 : Int) w hs (by omega) (by omega) (by omega) (by omega))
      have HSTEP := Lib.hid (show ∀ VV, spV c sts (L : Int) (I2 : Int) = VV → (kk ≤ VV → wayQ (fun L i => spV c sts (L : Int) i) (L + 1) i kk = (wayQ (fun L i => spV c sts (L : Int) i) L I2 kk).map (fun l => (L + 1, i) :: l)) ∧ (¬ kk ≤ VV → Wid.fit64 (kk - VV) = true → wayQ (fun L i => spV c sts (L : Int) i) (L + 1) i kk = (wayQ (fun L i => spV c sts (L : Int) i) L (I2 + 1) (kk - VV)).map (fun l => (L + 1, i) :: l)) ∧ (¬ kk ≤ VV → Wid.fit64 (kk - VV) = false → wayQ (fun L i => spV c sts (L : Int) i) (L + 1) i kk = none) from by
        intro VV hV
        subst hI2
        subst hV
        exact ⟨fun h => wayQ_left h, fun h h2 => wayQ_right h h2, fun h h2 => wayQ_none h h2⟩)
      obtain ⟨VV, hVV⟩ : ∃ v, spV c sts (L : Int) (I2 : Int) = v := ⟨_, rfl⟩
      obtain ⟨VC, hVC⟩ : ∃ v, spC c sts (L : Int) (I2 : Int) = v := ⟨_, rfl⟩
      rw [hVV, hVC] at CPJ
      rw [hVV] at hvb
      have HST := Lib.hid (HSTEP.out VV hVV)
      have f1 : 0 ≤ (L : Int) := by omega
      have f2 : IntKind.u64.wrap ((i : Int) * 2) = (I2 : Int) := by rw [IntKind.wrap_u64]; omega
      have f3 : wrap64 ((L : Int) - 1) = (L : Int) - 1 := IntWalk.wrap64_in _ ⟨by omega, by omega⟩
      have HXL : Hid (xs.length + 1 + L = BB) := Lib.hid (by omega)
      have HK := Lib.hid (And.intro hk1 hk2)
      have HLB : Hid (L ≤ BB) := Lib.hid (by omega)
      have HFL : Hid (∀ J : Nat, flatP (ints ((xs ++ [(L + 1, i)]) ++ [(L, J)])) = flatP (ints (xs ++ [(L + 1, i)])) ++ [.int .i64 (L : Int), .int .u64 (J : Int)]) := Lib.hid (fun J => by rw [ints_app]; exact flatP_snoc _ _)
      have hxl2 : xs.length + 1 ≤ 60 := by omega
      clear HSTEP hVV hVC e1 hpw hp59 e59 hi2 hI2 hi hxl hL
      by_cases hle : kk ≤ VV
      · have g1 : decide (VV < kk) = false := decide_eq_false (by omega)
        have g2 : ¬ VV < kk := by omega
        have HLE := Lib.hid hle
        clear hle hk1 hk2 hvb
        go_wp2_with (first
          | (at_builtin; go_must (refine wpList_append_lies _ rfl _ _ 42 rfl w.heap.size 61 i0 (.agg #[.int .i64 0, .int .u64 0]) 2 16 pcs_u hi_ hz0 hz1 hz2 rfl (by decide) _ _ _ rfl ((own2_up' HOWN.out HBX.out).alloc _) ⟨_, 0, none⟩ 1 1 [.int .i64 (L : Int), .int .u64 (I2 : Int)] rfl rfl (pc_news (pc_alloc (by simp))) (pc_one _ _) (by decide) (by unfold maxLen; omega) (by omega) (by simp; have := HBW.out.size; omega) _ rfl ?_); intro g7 cap7 w7 hown7 hgrow7 hat7 hlt7)
          | (go_at_call 43; (with_reducible refine (CPJ.out _ HDR.out).mono ?_); rintro e wp ⟨rfl, hb⟩; have HBX := Lib.hid hb; have HBW := Lib.hid (HBWR.out.trans (hb.mono HBWR.out.size)); clear hb))
        go_roundw
        case rel => exact ⟨L, I2, kk, xs ++ [(L + 1, i)], HLB.out, rfl, rfl, by go_num, by rw [HFL.out, List.length_append]; exact hown7, by rw [List.length_append]; exact HXL.out, way_push HWY.out (HST.out.1 HLE.out), by have := HI2.out; have := HEI.out; omega, HK.out.1, HK.out.2, (HBW.out.alloc HBW.out.size _).grown hgrow7 (by simp; have := HBW.out.size; omega) (fun x hx => own_ge HOWN.out x hx)⟩
        case measure => simp [intOf]; omega
      · have g1 : decide (VV < kk) = true := decide_eq_true (by omega)
        have g2 : VV < kk := by omega
        have HNE := Lib.hid hle
        have em : kk + -VV = kk - VV := by omega
        have HEM := Lib.hid em
        have CM1 := Lib.hid (fun w => Wid.rofint_any kk w (by omega) hk2)
        have CM2 := Lib.hid (fun w => Wid.rofint_any VV w hvb.1 hvb.2)
        have CM3 := Lib.hid (fun w => Wid.rminus_any VV _ _ _ _ _ _ _ _ _ _ w rfl)
        have CM4 := Lib.hid (fun w => Wid.rplus_any kk (-VV) _ _ _ _ _ _ _ _ _ _ _ _ _ _ _ _ _ _ _ _ w rfl rfl)
        have CM5 := Lib.hid (fun w => Wid.rint_any (kk + -VV) _ _ _ _ _ _ _ _ _ _ w rfl (by omega) (by omega))
        rw [show Wid.f64 (kk + -VV) = Wid.f64 (kk - VV) by rw [em], show Wid.fit64 (kk + -VV) = Wid.fit64 (kk - VV) by rw [em]] at CM5
        cases hfit : Wid.fit64 (kk - VV) with
        | false =>
          have e6 : Wid.f64 (kk - VV) = 0 := by unfold Wid.f64; rw [hfit]; rfl
          rw [hfit, e6] at CM5
          clear hle hk1 hk2 hvb em hfit e6
          go_wp2_with (first
            | (go_at_call 46; (with_reducible refine (CM1.out _).mono ?_); rintro e wa ⟨rfl, hb⟩; have HBa := Lib.hid (HBW.out.trans (hb.mono HBW.out.size)); clear hb)
            | (go_at_call 46; (with_reducible refine (CM2.out _).mono ?_); rintro e wb ⟨rfl, hb⟩; have HBb := Lib.hid (HBa.out.trans (hb.mono HBa.out.size)); clear hb)
            | (go_at_call 47; (with_reducible refine (CM3.out _).mono ?_); rintro e wc ⟨rfl, hb⟩; have HBc := Lib.hid (HBb.out.trans (hb.mono HBb.out.size)); clear hb)
            | (go_at_call 45; (with_reducible refine (CM4.out _).mono ?_); rintro e wd ⟨rfl, hb⟩; have HBd := Lib.hid (HBc.out.trans (hb.mono HBc.out.size)); clear hb)
            | (go_at_call 44; (with_reducible refine (CM5.out _).mono ?_); rintro e we ⟨rfl, hb⟩; have HBe := Lib.hid (HBd.out.trans (hb.mono HBd.out.size)); clear hb)
            | (go_at_call 43; (with_reducible refine (CPJ.out _ HDR.out).mono ?_); rintro e wp ⟨rfl, hb⟩; have HBX := Lib.hid hb; have HBW := Lib.hid (HBWR.out.trans (hb.mono HBWR.out.size)); clear hb)
          )
          refine bodyPost_ret (v := .tuple #[.slice none 0 0, .int .i64 4]) (by simp [results, Tryz.results16, go_sem]) rfl ?_
          exact ⟨none, 0, 0, rfl, pcT_nil _ _ (fun a e => by cases e), HBe.out⟩
        | true =>
          have e6 : Wid.f64 (kk - VV) = kk - VV := by unfold Wid.f64; rw [hfit]; rfl
          rw [hfit, e6] at CM5
          have hfb := of_decide_eq_true hfit
          have HRT := Lib.hid (HST.out.2.1 hle hfit)
          have HKB : Hid (1 ≤ kk - VV ∧ kk - VV ≤ 9223372036854775807) := Lib.hid ⟨by omega, by omega⟩
          obtain ⟨KN, hKN⟩ : ∃ v, kk - VV = v := ⟨_, rfl⟩
          rw [hKN] at CM5 HRT HKB
          have f4 : IntKind.u64.wrap ((I2 : Int) + 1) = (I2 : Int) + 1 := by rw [IntKind.wrap_u64]; have := HI2.out; have := HEI.out; have := Nat.pow_le_pow_right (show 0 < 2 by omega) (show BB - L ≤ 59 by omega); have e59 : (2 : Nat) ^ 59 = 576460752303423488 := rfl; omega
          have f5 : ((I2 + 1 : Nat) : Int) = (I2 : Int) + 1 := by omega
          clear hle hk1 hk2 hvb em hfit e6 hfb hKN
          go_wp2_with (first
            | (at_builtin; go_must (refine wpList_append_lies _ rfl _ _ 42 rfl w.heap.size 61 i0 (.agg #[.int .i64 0, .int .u64 0]) 2 16 pcs_u hi_ hz0 hz1 hz2 rfl (by decide) _ _ _ rfl ((own2_up' HOWN.out HRe.out).alloc _) ⟨_, 0, none⟩ 1 1 [.int .i64 (L : Int), .int .u64 ((I2 : Int) + 1)] rfl rfl (pc_news (pc_alloc (by simp))) (pc_one _ _) (by decide) (by unfold maxLen; omega) (by omega) (by simp; have := HBe.out.size; omega) _ rfl ?_); intro g7 cap7 w7 hown7 hgrow7 hat7 hlt7)
            | (go_at_call 46; (with_reducible refine (CM1.out _).mono ?_); rintro e wa ⟨rfl, hb⟩; have HBa := Lib.hid (HBW.out.trans (hb.mono HBW.out.size)); have HRa := Lib.hid (HBX.out.trans (hb.mono HBX.out.size)); clear hb)
            | (go_at_call 46; (with_reducible refine (CM2.out _).mono ?_); rintro e wb ⟨rfl, hb⟩; have HBb := Lib.hid (HBa.out.trans (hb.mono HBa.out.size)); have HRb := Lib.hid (HRa.out.trans (hb.mono HRa.out.size)); clear hb)
            | (go_at_call 47; (with_reducible refine (CM3.out _).mono ?_); rintro e wc ⟨rfl, hb⟩; have HBc := Lib.hid (HBb.out.trans (hb.mono HBb.out.size)); have HRc := Lib.hid (HRb.out.trans (hb.mono HRb.out.size)); clear hb)
            | (go_at_call 45; (with_reducible refine (CM4.out _).mono ?_); rintro e wd ⟨rfl, hb⟩; have HBd := Lib.hid (HBc.out.trans (hb.mono HBc.out.size)); have HRd := Lib.hid (HRc.out.trans (hb.mono HRc.out.size)); clear hb)
            | (go_at_call 44; (with_reducible refine (CM5.out _).mono ?_); rintro e we ⟨rfl, hb⟩; have HBe := Lib.hid (HBd.out.trans (hb.mono HBd.out.size)); have HRe := Lib.hid (HRd.out.trans (hb.mono HRd.out.size)); clear hb)
            | (go_at_call 43; (with_reducible refine (CPJ.out _ HDR.out).mono ?_); rintro e wp ⟨rfl, hb⟩; have HBX := Lib.hid hb; have HBW := Lib.hid (HBWR.out.trans (hb.mono HBWR.out.size)); clear hb))
          go_roundw
          case rel => exact ⟨L, I2 + 1, KN, xs ++ [(L + 1, i)], HLB.out, rfl, rfl, by go_num, by rw [HFL.out, List.length_append]; exact hown7, by rw [List.length_append]; exact HXL.out, way_push HWY.out HRT.out, by have := HI2.out; have := HEI.out; omega, HKB.out.1, HKB.out.2, (HBe.out.alloc HBe.out.size _).grown hgrow7 (by simp; have := HBe.out.size; omega) (fun x hx => own_ge HOWN.out x hx)⟩
          case measure => simp [intOf]; omega
theorem qtop {c : Cfg} (hr : IsRight c) (sts : List LS) : spV c sts ((c.bt.toNat : Nat) : Int) 0 = spV c sts c.bt 0 := by
  have hbt := hr.1
  rw [show ((c.bt.toNat : Nat) : Int) = c.bt by omega]
set_option maxRecDepth 100000 in
set_option maxHeartbeats 4000000 in
theorem rway_r (r : Addr) (F : Nat → Prop) (c : Cfg) (sts : List LS) (k : Int) (w : World) (h : DK w r F c sts) (hin : ∀ n i : Int, -9223372036854775808 ≤ spV c sts n i ∧ spV c sts n i ≤ 9223372036854775807) (k0 : -9223372036854775808 ≤ k) (k1 : k ≤ 9223372036854775807) (h1 : k < 1 ∨ spV c sts c.bt 0 < k) :
    Calls Tryz.prog 16 #[.pointer (some r), .int .i64 k] w fun e w' => ∃ (A : Option Addr) (n cap : Nat), e = .returned (.tuple #[.slice A n cap, .int .i64 (qnC c (fun L i => spV c sts (L : Int) i) k)]) ∧ (pcT A n cap (ints (qnL c (fun L i => spV c sts (L : Int) i) k))).I w' ∧ Below w.heap.size w w' := by
  have hq := qn_rank (c := c) (pt := (fun L i => spV c sts (L : Int) i)) (k := k) (by rw [qtop h.right.1 sts]; exact h1)
  rw [hq.1, hq.2.1]
  have CTT := Lib.hid (fun w hs => dk_total r F c sts w hs)
  have HD := Lib.hid h
  obtain ⟨TT, hTT⟩ : ∃ T, spV c sts c.bt 0 = T := ⟨_, rfl⟩
  rw [hTT] at CTT h1
  by_cases h2 : k < 1
  · have f1 : decide (k < 1) = true := decide_eq_true h2
    clear h hin k0 k1 h1 hq hTT
    go_enter Tryz.func16, Tryz.ntmps16
    go_wp2
    refine bodyPost_ret (v := .tuple #[.slice none 0 0, .int .i64 6]) (by simp [results, Tryz.results16, go_sem]) rfl ?_
    exact ⟨none, 0, 0, rfl, pcT_nil _ _ (fun a e => by cases e), Below.refl _ _⟩
  · have h3 : TT < k := by omega
    have f1 : decide (k < 1) = false := decide_eq_false h2
    have f2 : decide (TT < k) = true := decide_eq_true h3
    clear h hin k0 k1 h1 hq hTT
    go_enter Tryz.func16, Tryz.ntmps16
    go_wp2_with (go_at_call 42; (with_reducible refine (CTT.out _ HD.out).mono ?_); rintro e w4 ⟨rfl, hb⟩; have HB4 := Lib.hid hb; clear hb)
    refine bodyPost_ret (v := .tuple #[.slice none 0 0, .int .i64 6]) (by simp [results, Tryz.results16, go_sem]) rfl ?_
    exact ⟨none, 0, 0, rfl, pcT_nil _ _ (fun a e => by cases e), HB4.out⟩
theorem rway_any (r : Addr) (F : Nat → Prop) (c : Cfg) (sts : List LS) (k : Int) (w : World) (h : DK w r F c sts) (hin : ∀ n i : Int, -9223372036854775808 ≤ spV c sts n i ∧ spV c sts n i ≤ 9223372036854775807) (k0 : -9223372036854775808 ≤ k) (k1 : k ≤ 9223372036854775807) :
    Calls Tryz.prog 16 #[.pointer (some r), .int .i64 k] w fun e w' => ∃ (A : Option Addr) (n cap : Nat), e = .returned (.tuple #[.slice A n cap, .int .i64 (qnC c (fun L i => spV c sts (L : Int) i) k)]) ∧ (pcT A n cap (ints (qnL c (fun L i => spV c sts (L : Int) i) k))).I w' ∧ Below w.heap.size w w' := by
  by_cases h1 : k < 1 ∨ spV c sts c.bt 0 < k
  · exact rway_r r F c sts k w h hin k0 k1 h1
  · cases hw : wayQ (fun L i => spV c sts (L : Int) i) c.bt.toNat 0 k with
    | none => exact rway_o r F c sts k w h hin k0 k1 (by omega) (by omega) hw
    | some lw => exact rway_s r F c sts k w h hin k0 k1 (by omega) (by omega) lw hw
set_option maxRecDepth 100000 in
set_option maxHeartbeats 4000000 in
theorem rquant_no (r : Addr) (F : Nat → Prop) (c : Cfg) (sts : List LS) (k : Int) (w : World) (h : DK w r F c sts) (hin : ∀ n i : Int, -9223372036854775808 ≤ spV c sts n i ∧ spV c sts n i ≤ 9223372036854775807) (k0 : -9223372036854775808 ≤ k) (k1 : k ≤ 9223372036854775807) (hne : qnC c (fun L i => spV c sts (L : Int) i) k ≠ 0) :
    Calls Tryz.prog 14 #[.pointer (some r), .int .i64 k] w fun e w' => e = .returned (.tuple #[.int .u64 (qnV c (fun L i => spV c sts (L : Int) i) k), .int .i64 (qnC c (fun L i => spV c sts (L : Int) i) k)]) ∧ Below w.heap.size w w' := by
  have hv : qnV c (fun L i => spV c sts (L : Int) i) k = 0 := by unfold qnV qnL; rw [if_neg hne]; rfl
  rw [hv]
  have CW := Lib.hid (fun w hs => rway_any r F c sts k w hs hin k0 k1)
  have HD := Lib.hid h
  obtain ⟨E, hE⟩ : ∃ E, qnC c (fun L i => spV c sts (L : Int) i) k = E := ⟨_, rfl⟩
  rw [hE] at CW hne ⊢
  have h0b : (E == 0) = false := by simpa using hne
  have h0c : (E != 0) = true := by simpa using hne
  clear h hin k0 k1 hv hE
  go_enter Tryz.func14, Tryz.ntmps14
  go_wp2_with (go_at_call 16; (with_reducible refine (CW.out _ HD.out).mono ?_); rintro e w1 ⟨A1, n1, cap1, rfl, hI, hb⟩; have HB1 := Lib.hid hb; clear hb hI)
  refine bodyPost_ret (v := .tuple #[.int .u64 0, .int .i64 E]) (by simp [results, Tryz.results14, go_sem]) rfl ?_
  exact ⟨rfl, HB1.out⟩
set_option maxRecDepth 100000 in
set_option maxHeartbeats 4000000 in
theorem rquant_yes (r : Addr) (F : Nat → Prop) (c : Cfg) (sts : List LS) (k : Int) (w : World) (h : DK w r F c sts) (hin : ∀ n i : Int, -9223372036854775808 ≤ spV c sts n i ∧ spV c sts n i ≤ 9223372036854775807) (k0 : -9223372036854775808 ≤ k) (k1 : k ≤ 9223372036854775807) (lw : List (Nat × Nat)) (hc : qnC c (fun L i => spV c sts (L : Int) i) k = 0) (hl : qnL c (fun L i => spV c sts (L : Int) i) k = lw) (hp : Path c.bt.toNat 0 lw) :
    Calls Tryz.prog 14 #[.pointer (some r), .int .i64 k] w fun e w' => e = .returned (.tuple #[.int .u64 (qnV c (fun L i => spV c sts (L : Int) i) k), .int .i64 (qnC c (fun L i => spV c sts (L : Int) i) k)]) ∧ Below w.heap.size w w' := by
  have hv : qnV c (fun L i => spV c sts (L : Int) i) k = ((keyQ lw : Nat) : Int) := by unfold qnV; rw [hl]
  rw [hv, hc]
  have hr := h.right.1
  have hbt := hr.1
  have hbt2 := hr.2.1
  have CW := Lib.hid (fun w hs => rway_any r F c sts k w hs hin k0 k1)
  rw [hc, hl] at CW
  have HD := Lib.hid h
  have HP := Lib.hid hp
  obtain ⟨BB, hBB⟩ : ∃ B, c.bt.toNat = B := ⟨_, rfl⟩
  rw [hBB] at HP
  have hb59 : BB ≤ 59 := by omega
  clear h hin k0 k1 hv hc hl hp hr hbt hbt2 hBB
  go_enter Tryz.func14, Tryz.ntmps14
  go_upto_region 4 with (go_at_call 16; (with_reducible refine (CW.out _ HD.out).mono ?_); rintro e w1 ⟨A1, n1, cap1, rfl, hI, hb⟩; have HB1 := Lib.hid hb; have HI := Lib.hid hI; clear hb hI)
  have hln := (pcI HI.out).len
  rw [ints_len, HP.out.len] at hln
  subst hln
  obtain ⟨ab, g1, o1, rfl, hadd1, d1, d2, kb, db⟩ := (pcI HI.out).at (ints_get HP.out.last)
  simp only at d1 d2 kb db
  have f2 : IntKind.i64.wrap (BB : Int) = (BB : Int) := IntWalk.i64_in _ ⟨by omega, by omega⟩
  have f3 : wrap64 (BB : Int) = (BB : Int) := IntWalk.wrap64_in _ ⟨by omega, by omega⟩
  have f6 : (BB : Int) < (BB : Int) + 1 := by omega
  have f8 : ¬ (BB : Int) < 0 := by omega
  clear kb db
  go_wp2
  refine bodyPost_ret (v := .tuple #[.int .u64 ((keyQ lw : Nat) : Int), .int .i64 0]) (by simp [results, Tryz.results14, go_sem]) rfl ?_
  exact ⟨rfl, HB1.out⟩
theorem rquant_any (r : Addr) (F : Nat → Prop) (c : Cfg) (sts : List LS) (k : Int) (w : World) (h : DK w r F c sts) (hin : ∀ n i : Int, -9223372036854775808 ≤ spV c sts n i ∧ spV c sts n i ≤ 9223372036854775807) (k0 : -9223372036854775808 ≤ k) (k1 : k ≤ 9223372036854775807) :
    Calls Tryz.prog 14 #[.pointer (some r), .int .i64 k] w fun e w' => e = .returned (.tuple #[.int .u64 (qnV c (fun L i => spV c sts (L : Int) i) k), .int .i64 (qnC c (fun L i => spV c sts (L : Int) i) k)]) ∧ Below w.heap.size w w' := by
  by_cases hne : qnC c (fun L i => spV c sts (L : Int) i) k = 0
  · have hw : ∃ lw, wayQ (fun L i => spV c sts (L : Int) i) c.bt.toNat 0 k = some lw ∧ 1 ≤ k ∧ k ≤ spV c sts ((c.bt.toNat : Nat) : Int) 0 := by
      unfold qnC at hne
      split at hne
      · cases hne
      · rename_i hn
        split at hne
        · rename_i hs
          obtain ⟨lw, hlw⟩ := Option.isSome_iff_exists.1 hs
          have hn2 : ¬ (k < 1 ∨ spV c sts ((c.bt.toNat : Nat) : Int) 0 < k) := hn
          exact ⟨lw, hlw, by omega, by omega⟩
        · cases hne
    obtain ⟨lw, h1, h2, h3⟩ := hw
    exact rquant_yes r F c sts k w h hin k0 k1 lw hne (qn_yes h2 h3 h1).2.1 (wayQ_path h1)
  · exact rquant_no r F c sts k w h hin k0 k1 hne
end Go.Proofs.YtiblpdjehknbcaaGreat.Qnt
/- The document's Update of a stack. Printed by wip/gen/stk18.py. -/
namespace Go.Proofs.YtiblpdjehknbcaaGreat.Stk
open Go Go.RowKit Lw Grd Lin Con Shp Sk Exa Lev
set_option linter.unusedVariables false
set_option linter.unusedSimpArgs false
/-- The levels of a copy, some of them updated. -/
structure URow (c : Cfg) (k d : Int) (sts : List LS) (n : Nat) (sts' : List LS) : Prop where
  len : sts'.length = sts.length
  each : ∀ (i : Nat), sts'[i]? = if i < n then (rss c k d 0 sts)[i]? else sts[i]?
theorem URow.start (c : Cfg) (k d : Int) (sts : List LS) : URow c k d sts 0 sts := ⟨rfl, fun i => (if_neg (by omega)).symm⟩
theorem URow.next {c : Cfg} {k d : Int} {sts sts' : List LS} {n : Nat} {st : LS} (h : URow c k d sts n sts') (hs : sts[n]? = some st) : URow c k d sts (n + 1) (sts'.set n (lsRes c (n : Int) st (upK k n) d)) := by
  refine ⟨by rw [List.length_set]; exact h.len, fun i => ?_⟩
  have hlt := (List.getElem?_eq_some_iff.1 hs).1
  rw [List.getElem?_set]
  by_cases hi : n = i
  · subst hi
    rw [if_pos rfl, if_pos (by rw [h.len]; exact hlt), if_pos (by omega), rss_get c k d 0 sts n st hs, Nat.zero_add]
  · rw [if_neg hi, h.each i]
    by_cases hi2 : i < n
    · rw [if_pos hi2, if_pos (by omega)]
    · rw [if_neg hi2, if_neg (by omega)]
theorem URow.done {c : Cfg} {k d : Int} {sts sts' : List LS} {n : Nat} (h : URow c k d sts n sts') (hn : n = sts.length) : sts' = rss c k d 0 sts := List.ext_getElem? (fun i => by
  rw [h.each i]
  by_cases hi : i < n
  · rw [if_pos hi]
  · rw [if_neg hi, List.getElem?_eq_none (by omega), List.getElem?_eq_none (by rw [rss_len]; omega)])
theorem upk_bd {k : Int} (k0 : 0 ≤ k) (n : Nat) : 0 ≤ upK k n ∧ upK k n ≤ k := by
  have hp : (0 : Int) < ((2 ^ n : Nat) : Int) := by have := Nat.one_le_two_pow (n := n); omega
  exact ⟨Int.ediv_nonneg k0 (Int.le_of_lt hp), Int.ediv_le_self _ k0⟩
theorem upk_pow (k : Int) (n : Nat) : k / 2 ^ n = upK k n := by
  unfold upK
  simp
set_option maxRecDepth 100000 in
set_option maxHeartbeats 8000000 in
theorem dk_upd (p : Addr) (F : Nat → Prop) (c : Cfg) (sts : List LS) (k d : Int) (w : World) (h : DK w p F c sts) (k0 : 0 ≤ k) (k1 : k ≤ 18446744073709551615) (d0 : -9223372036854775808 ≤ d) (d1 : d ≤ 9223372036854775807) :
    Calls Tryz.prog 12 #[.pointer (some p), .int .u64 k, .int .i64 d] w fun e w' => e = .returned (.int .i64 (sucode c sts k d)) ∧ ∃ F', DK w' p F' c (sures c sts k d) ∧ Kept F w w' ∧ (∀ q, F' q → F q ∨ w.heap.size ≤ q) := by
  have HS := Lib.hid h
  obtain ⟨hr, hc, hl, b0, B0, hdr0, vals0, ts0, rfl, hrow0, hI, rfl⟩ := h
  have HH := Lib.hid (Hold.start hI)
  have HO := Lib.hid hc
  have HR := Lib.hid hr
  have HL := Lib.hid hl
  have HROW0 := Lib.hid hrow0
  have hb1 := hr.1
  have hb2 := hr.2.1
  obtain ⟨g0, cap0, rfl, hcs⟩ := ownD_cell (HH.out.i (t := ownT B0 49 hdr0 vals0) (by simp)) (by have := hrow0.lv; omega)
  obtain ⟨N, hN⟩ : ∃ N, vals0.length = N := ⟨_, rfl⟩
  have HNB : Hid (N = c.bt.toNat + 1) := Lib.hid (by have := hrow0.lv; omega)
  have hN60 : N ≤ 60 := by have := HNB.out; omega
  have HCS := Lib.hid hcs
  have d5 : w.cell? ⟨b0, 5, none⟩ = some (.slice (some ⟨g0, 0, none⟩) N cap0) := by rw [← hN]; exact box_cell (HH.out.i (t := dkB b0 c (.slice (some ⟨g0, 0, none⟩) vals0.length cap0)) (by simp)) (i := 5) rfl
  have HD5 := Lib.hid d5
  have HLS : Hid (sts.length = N) := Lib.hid (by have := hrow0.lv; omega)
  have K0 := Lib.hid k0
  have K1 := Lib.hid k1
  have D0 := Lib.hid d0
  have D1 := Lib.hid d1
  have x0 := box_cell (HH.out.i (t := dkB b0 c (.slice (some ⟨g0, 0, none⟩) vals0.length cap0)) (by simp)) (i := 0) rfl
  have x1 := box_cell (HH.out.i (t := dkB b0 c (.slice (some ⟨g0, 0, none⟩) vals0.length cap0)) (by simp)) (i := 1) rfl
  have x2 := box_cell (HH.out.i (t := dkB b0 c (.slice (some ⟨g0, 0, none⟩) vals0.length cap0)) (by simp)) (i := 2) rfl
  have x3 := box_cell (HH.out.i (t := dkB b0 c (.slice (some ⟨g0, 0, none⟩) vals0.length cap0)) (by simp)) (i := 3) rfl
  have x4 := box_cell (HH.out.i (t := dkB b0 c (.slice (some ⟨g0, 0, none⟩) vals0.length cap0)) (by simp)) (i := 4) rfl
  by_cases hk : keys c 0 ≤ k
  · have e1 : sucode c sts k d = 2 := if_pos hk
    have e2 : sures c sts k d = sts := by unfold sures; rw [e1]; exact if_neg (by decide)
    rw [e1, e2]
    clear e1 e2 hI hrow0 hl hr hc k0 k1 d0 d1 hcs hN hN60 hb1 hb2
    go_enter Tryz.func12, Tryz.ntmps12
    go_wp2_with (go_at_call 24; (with_reducible refine (rkeys_any c 0 _ HO.out (by omega) (by omega)).mono ?_); rintro e w1 ⟨rfl, hb⟩)
    go_ret
    exact ⟨rfl, _, HS.out.up hb, Kept.of_below hb, fun q hq => .inl hq⟩
  · have hk2 : k < keys c 0 := by omega
    by_cases hm : c.md = 2 ∧ d < 0
    · have e1 : sucode c sts k d = 3 := by unfold sucode; rw [if_neg hk, if_pos hm]
      have e2 : sures c sts k d = sts := by unfold sures; rw [e1]; exact if_neg (by decide)
      rw [e1, e2]
      have hm1 : (c.md == 2) = true := by simp [hm.1]
      have hm2 : d < 0 := hm.2
      clear e1 e2 hI hrow0 hl hr hc k0 k1 d0 d1 hcs hN hN60 hb1 hb2 hm hk
      go_enter Tryz.func12, Tryz.ntmps12
      go_wp2_with (go_at_call 24; (with_reducible refine (rkeys_any c 0 _ HO.out (by omega) (by omega)).mono ?_); rintro e w1 ⟨rfl, hb⟩; have y3 := cell_up x3 hb)
      go_ret
      exact ⟨rfl, _, HS.out.up hb, Kept.of_below hb, fun q hq => .inl hq⟩
    · have e1 : sucode c sts k d = ers c k d 0 sts := by unfold sucode; rw [if_neg hk, if_neg hm]
      have HE1 := Lib.hid e1
      have hm1 : ((c.md == 2) = false) ∨ ((c.md == 2) = true ∧ ¬ d < 0) := by
        by_cases h9 : c.md = 2
        · exact .inr ⟨by simp [h9], fun h => hm ⟨h9, h⟩⟩
        · exact .inl (by simp [h9])
      clear e1 hI hrow0 hl hr hc k0 k1 d0 d1 hcs hN hm hk
      have hend : ∀ (wr : World) (b1 B1 : Nat) (hdr1 : Value) (vals1 : List Value) (ts : List Thing), ers c k d 0 sts = 0 → LRow dlT c vals1 ts (rss c k d 0 sts) → Hold (fun _ => False) w wr (dkB b1 c hdr1 :: ownT B1 49 hdr1 vals1 :: ts) →
          ∃ F', DK (wr.setCell ⟨b0, 5, none⟩ hdr1) ⟨b0, 0, none⟩ F' c (rss c k d 0 sts) ∧ Kept (manyT (dkB b0 c (.slice (some ⟨g0, 0, none⟩) vals0.length cap0) :: ownT B0 49 (.slice (some ⟨g0, 0, none⟩) vals0.length cap0) vals0 :: ts0)).F w (wr.setCell ⟨b0, 5, none⟩ hdr1) ∧ (∀ q, F' q → (manyT (dkB b0 c (.slice (some ⟨g0, 0, none⟩) vals0.length cap0) :: ownT B0 49 (.slice (some ⟨g0, 0, none⟩) vals0.length cap0) vals0 :: ts0)).F q ∨ w.heap.size ≤ q) := by
        intro wr b1 B1 hdr1 vals1 ts hz hrow hh
        have hbw : Below w.heap.size w wr := hh.1.below
        have hb0 := box_lt (HH.out.i (t := dkB b0 c (.slice (some ⟨g0, 0, none⟩) vals0.length cap0)) (by simp))
        have h2 : Hold (manyT (dkB b0 c (.slice (some ⟨g0, 0, none⟩) vals0.length cap0) :: ownT B0 49 (.slice (some ⟨g0, 0, none⟩) vals0.length cap0) vals0 :: ts0)).F w wr (dkB b0 c (.slice (some ⟨g0, 0, none⟩) vals0.length cap0) :: ownT B1 49 hdr1 vals1 :: ts) := by
          have h3 := Hold.sub hh (.cons _ (List.Sublist.refl _))
          refine ⟨Kept.of_below hbw, fun t ht => ?_, fun u hu k' hk' hu2 => ?_, h3.2.2⟩
          · rcases List.mem_cons.1 ht with rfl | ht
            · exact ⟨(dkB b0 c _).keep w wr (fun _ => False) (HH.out.i (by simp)) (Kept.of_below hbw) (fun _ _ h => h), fun k' hk' => .inl ⟨_, by simp, hk'⟩⟩
            · exact ⟨(h3.2.1 t ht).1, fun k' hk' => .inr (((h3.2.1 t ht).2 k' hk').elim (fun h => h.elim) id)⟩
          · have h4 := ((h3.2.1 u hu).2 k' hu2).elim (fun h => h.elim) id
            have h5 : k' = b0 := hk'
            omega
        have h6 := Hold.store (fs := []) h2 hdr1
        have h7 := dk_of HR.out HO.out (by rw [rss_len]; exact HL.out) hrow h6
        exact ⟨_, h7.1, h7.2.1, h7.2.2⟩
      have HEND := Lib.hid hend
      clear hend
      have hkk := fun n => (upk_bd K0.out n)
      have HKK := Lib.hid hkk
      clear hkk
      rcases hm1 with hm1 | ⟨hm1, hm2⟩
      all_goals
        go_enter Tryz.func12, Tryz.ntmps12
        go_wp2_with (first
          | (go_at_call 24; (with_reducible refine (rkeys_any c 0 _ HO.out (by omega) (by omega)).mono ?_); rintro e w1 ⟨rfl, hb⟩; have y3 := cell_up x3 hb; have HB1 := Lib.hid hb; clear hb)
          | (go_at_call 37; (with_reducible refine (dk_copy _ _ c sts _ (HS.out.up HB1.out)).mono ?_); rintro e w2 ⟨q, Q, rfl, hq, hQ, hb⟩; obtain ⟨hr1, hc1, hl1, b1, B1, hdr1, vals1, ts1, rfl, hrow1, hI1, rfl⟩ := hq; have HB2 := Lib.hid (HB1.out.trans (hb.mono HB1.out.size)); have HW1 := Lib.hid HB1.out.size; clear hb))
        have hI2 : Hold (fun _ => False) w w2 (dkB b1 c hdr1 :: ownT B1 49 hdr1 vals1 :: ts1) := ⟨Kept.of_below HB2.out, fun t ht => ⟨hI1.1 t ht, fun k' hk' => .inr (Nat.le_trans HW1.out (hQ k' ⟨t, ht, hk'⟩))⟩, hI1.2⟩
        obtain ⟨g1, cap1, rfl, -⟩ := ownD_cell (hI1.1 (ownT B1 49 hdr1 vals1) (by simp)) (by have := hrow1.lv; have := HL.out; omega)
        have hN1 : vals1.length = N := by have := hrow1.lv; have := HLS.out; omega
        have HN1 := Lib.hid hN1
        have HI2 := Lib.hid hI2
        have HROW1 := Lib.hid hrow1
        rw [hN1] at HI2
        clear hr1 hc1 hl1 hrow1 hI1 hI2 hQ hN1 x0 x1 x2 x3 x4 y3
        go_loopw [8] (fun iv wr => ∃ (n : Nat) (ts : List Thing) (sts' : List LS), n ≤ N ∧ iv = .int .i64 n ∧ LRow dlT c vals1 ts sts' ∧ URow c k d sts n sts' ∧ (∀ (i : Nat) (s : LS), i < n → sts[i]? = some s → lsCode c ((0 + i : Nat) : Int) s (upK k (0 + i)) d = 0) ∧ Hold (fun _ => False) w wr (dkB b1 c (.slice (some ⟨g1, 0, none⟩) N cap1) :: ownT B1 49 (.slice (some ⟨g1, 0, none⟩) N cap1) vals1 :: ts)) (fun iv _ => N - (intOf iv).toNat)
        case atStart => exact ⟨0, ts1, sts, Nat.zero_le _, rfl, HROW1.out, URow.start _ _ _ _, fun i s hi => by omega, HI2.out⟩
        case round =>
          obtain ⟨n, ts, sts', hn, rfl, hrow, hur, hcz, hv⟩ := hrel
          have HROW := Lib.hid hrow
          have HUR := Lib.hid hur
          have HCZ := Lib.hid hcz
          have HV := Lib.hid hv
          have hbw : Below w.heap.size w wr := hv.1.below
          have HBW := Lib.hid hbw
          have z5 := cell_up HD5.out hbw
          have x5 := box_cell (hv.i (t := dkB b1 c (.slice (some ⟨g1, 0, none⟩) N cap1)) (by simp)) (i := 5) rfl
          clear hrow hur hcz hbw
          by_cases hlt : n < N
          · obtain ⟨st, hst⟩ : ∃ st, sts[n]? = some st := ⟨_, List.getElem?_eq_getElem (by rw [HLS.out]; exact hlt)⟩
            have hst' : sts'[n]? = some st := by rw [HUR.out.each n, if_neg (Nat.lt_irrefl n)]; exact hst
            obtain ⟨p1, Q1, e1, e2, e3⟩ := dk_at HROW.out hv hst'
            obtain ⟨gg, cc, ee, hcs1⟩ := ownD_cell (hv.i (t := ownT B1 49 (.slice (some ⟨g1, 0, none⟩) N cap1) vals1) (by simp)) (by have := HN1.out; omega)
            injection ee with ee1 ee2 ee3
            injection ee1 with ee1
            injection ee1 with ee1
            subst ee1
            have x6 := hcs1 n _ e1
            have HEV := Lib.hid e1
            have HE := Lib.hid e2
            have HE3 := Lib.hid e3
            have HST := Lib.hid hst
            have hlt2 : (n : Int) < (N : Int) := by omega
            have hn0 : (0 : Int) ≤ (n : Int) := by omega
            have hu := HKK.out n
            have hn64 : n < 64 := by omega
            have CU := Lib.hid (fun hb => dv_upd p1 Q1 c (n : Int) st (upK k n) d wr e2 hu.1 hb D0.out D1.out)
            have hub : upK k n ≤ 18446744073709551615 := by have := K1.out; omega
            obtain ⟨E, hE⟩ : ∃ E, lsCode c (n : Int) st (upK k n) d = E := ⟨_, rfl⟩
            have HEE := Lib.hid hE
            have CU2 : Hid (Calls Tryz.prog 38 #[.pointer (some p1), .int .u64 (k / 2 ^ n), .int .i64 d] wr fun e w' => e = .returned (.int .i64 E) ∧ ∃ F', DLV w' p1 F' c (n : Int) (lsRes c (n : Int) st (upK k n) d) ∧ Kept Q1 wr w' ∧ (∀ q, F' q → Q1 q ∨ wr.heap.size ≤ q)) := Lib.hid (by
              rw [upk_pow, ← hE]
              exact CU.out hub)
            clear hv e1 e2 e3 hst hst' hcs1 ee2 ee3 hu CU hub hE
            by_cases hz : E = 0
            · subst hz
              go_wp2_with (go_at_call 38; (with_reducible refine CU2.out.mono ?_); rintro e w5 ⟨rfl, Q5, hE5, hK5, hQ5⟩; have HV5 := Lib.hid (Hold.set (pre := [dkB b1 c (.slice (some ⟨g1, 0, none⟩) N cap1), ownT B1 49 (.slice (some ⟨g1, 0, none⟩) N cap1) vals1]) (post := []) (by simpa using HV.out) HE3.out (dlT (.pointer (some p1)) Q5 c (n : Int) (lsRes c (n : Int) st (upK k n) d)) ⟨p1, rfl, hE5⟩ hK5 hQ5); clear hE5 hK5 hQ5)
              go_roundw
              case rel =>
                refine ⟨n + 1, ts.set n (dlT (.pointer (some p1)) Q5 c (n : Int) (lsRes c (n : Int) st (upK k n) d)), _, by omega, by go_num, HROW.out.put HEV.out Q5 _, HUR.out.next HST.out, fun i s hi hs => ?_, by simpa using HV5.out⟩
                by_cases hi2 : i < n
                · exact HCZ.out i s hi2 hs
                · obtain rfl : i = n := by omega
                  rw [HST.out] at hs
                  injection hs with hs
                  subst hs
                  rw [Nat.zero_add]
                  exact HEE.out
              case measure => simp [intOf]; omega
            · go_wp2_with (go_at_call 38; (with_reducible refine CU2.out.mono ?_); rintro e w5 ⟨rfl, Q5, hE5, hK5, hQ5⟩; have HV5 := Lib.hid (Hold.set (pre := [dkB b1 c (.slice (some ⟨g1, 0, none⟩) N cap1), ownT B1 49 (.slice (some ⟨g1, 0, none⟩) N cap1) vals1]) (post := []) (by simpa using HV.out) HE3.out (dlT (.pointer (some p1)) Q5 c (n : Int) (lsRes c (n : Int) st (upK k n) d)) ⟨p1, rfl, hE5⟩ hK5 hQ5); clear hE5 hK5 hQ5)
              go_ret
              have hE9 : ers c k d 0 sts = E := by
                rw [ers_first c k d 0 sts n st HCZ.out HST.out (by rw [Nat.zero_add, HEE.out]; exact hz), Nat.zero_add]
                exact HEE.out
              have hs1 : sucode c sts k d = E := HE1.out.trans hE9
              have hs2 : sures c sts k d = sts := by unfold sures; rw [hs1]; exact if_neg hz
              rw [hs1, hs2]
              have hb5 : Below w.heap.size w w5 := HV5.out.1.below
              exact ⟨rfl, _, HS.out.up hb5, Kept.of_below hb5, fun q hq => .inl hq⟩
          · obtain rfl : n = N := by omega
            have hfz : wr.frozen? ⟨b0, 5, none⟩ = false := frozen_of_row wr b0 5 _ _ ((dkB b0 c _).keep w wr (fun _ => False) (HH.out.i (t := dkB b0 c (.slice (some ⟨g0, 0, none⟩) vals0.length cap0)) (by simp)) (Kept.of_below HBW.out) (fun _ _ h => h))
            have hz9 : ers c k d 0 sts = 0 := ers_none c k d 0 sts (fun i s hs => HCZ.out i s (by have := (List.getElem?_eq_some_iff.1 hs).1; have := HLS.out; omega) hs)
            have HZ9 := Lib.hid hz9
            have hrr := HUR.out.done HLS.out.symm
            have HRR := Lib.hid hrr
            clear hv hz9 hrr
            go_wp2
            go_ret
            have hs1 : sucode c sts k d = 0 := HE1.out.trans HZ9.out
            have hs2 : sures c sts k d = rss c k d 0 sts := by unfold sures; rw [if_pos hs1]
            rw [hs1, hs2]
            obtain ⟨F', f1, f2, f3⟩ := HEND.out wr b1 B1 (.slice (some ⟨g1, 0, none⟩) n cap1) vals1 ts HZ9.out (by have h9 := HROW.out; rw [HRR.out] at h9; exact h9) HV.out
            exact ⟨rfl, F', f1, f2, f3⟩
end Go.Proofs.YtiblpdjehknbcaaGreat.Stk
/- The code's Update of a stack: all levels are asked, then all are updated. Printed by wip/gen/stk11.py. -/
namespace Go.Proofs.YtiblpdjehknbcaaGreat.Stk
open Go Go.RowKit Lw Grd Lin Con Shp Sk Exa Lev Go.Shelf
set_option linter.unusedVariables false
set_option linter.unusedSimpArgs false
theorem above_up {c : Cfg} {k : Int} (hr : IsRight c) (k0 : 0 ≤ k) (hk : k < keys c 0) {i : Nat} (hi : (i : Int) ≤ c.bt) : aboveV c i k = upK k i ∧ 0 ≤ upK k i ∧ upK k i ≤ k := by
  have h1 : keys c i ≠ 0 := by have := keys_pos.2 ⟨hr, by omega, hi⟩; omega
  have h2 : aboveOk c i k = true := decide_eq_true ⟨h1, hk⟩
  have hp : (0 : Int) < ((2 ^ i : Nat) : Int) := by have := Nat.one_le_two_pow (n := i); omega
  refine ⟨?_, Int.ediv_nonneg k0 (Int.le_of_lt hp), Int.ediv_le_self _ k0⟩
  unfold aboveV upK
  rw [if_pos h2]
  simp
theorem own_cell {w : World} {B : Nat} {e : TypeId} {hdr : Value} {vals : List Value} (h : (ownT B e hdr vals).I w) (hl : 0 < vals.length) : ∃ g cap, hdr = .slice (some ⟨g, 0, none⟩) vals.length cap ∧ vals.length ≤ cap ∧ cap ≤ maxLen ∧ ∀ (j : Nat) (v : Value), vals[j]? = some v → w.cell? ⟨g, j, none⟩ = some v := by
  have h1 : w.ownsRow B e 1 hdr vals.length vals := h
  rcases h1.2 with h0 | ⟨g, cap, cur, rfl, h2, h3, h4, h5, h6⟩
  · have := h0.2
    rw [this] at hl
    simp at hl
  · refine ⟨g, cap, rfl, h4, by assumption, fun j v hj => ?_⟩
    have h7 := h1.cells (g := g) rfl j v hj
    cases j with
    | zero => simpa [Addr.add] using h7
    | succ j => simpa [Addr.add] using h7
/-- A level's Check and Update through the closures. -/
theorem uchk_any (v : Value) (Q : Nat → Prop) (c : Cfg) (l : Int) (st : LS) (k d : Int) (bd : Nat) (w : World) (h : ELV w v Q c l st) (hd : w.cell? ⟨bd, 0, none⟩ = some (.int .i64 d)) (k0 : 0 ≤ k) (k1 : k ≤ 18446744073709551615) (d0 : -9223372036854775808 ≤ d) (d1 : d ≤ 9223372036854775807) :
    Calls Tryz.prog 35 #[v, .int .u64 k, .pointer (some ⟨bd, 0, none⟩)] w fun e w' => e = .returned (.int .i64 (lsCode c l st k d)) ∧ Below w.heap.size w w' := by
  have HE := Lib.hid h
  have K0 := Lib.hid k0
  have K1 := Lib.hid k1
  have D0 := Lib.hid d0
  have D1 := Lib.hid d1
  clear k0 k1 d0 d1 h
  cases st with
  | A L =>
    obtain ⟨p, rfl, h2⟩ := HE.out.2
    have HX := Lib.hid h2
    clear h2
    go_enter Tryz.func35, Tryz.ntmps35
    go_wp2_with (go_at_call 119; (with_reducible refine (echeck_any p Q c l L k d _ HX.out K0.out K1.out D0.out D1.out).mono ?_); rintro e w' ⟨rfl, hb⟩)
    go_ret
    exact ⟨rfl, hb⟩
  | S L =>
    obtain ⟨p, rfl, h2⟩ := HE.out.2
    have HX := Lib.hid h2
    clear h2
    go_enter Tryz.func35, Tryz.ntmps35
    go_wp2_with (go_at_call 135; (with_reducible refine (scheck_any p Q c l L k d _ HX.out K0.out K1.out D0.out D1.out).mono ?_); rintro e w' ⟨rfl, hb⟩)
    go_ret
    exact ⟨rfl, hb⟩
theorem uupd_any (v : Value) (Q : Nat → Prop) (c : Cfg) (l : Int) (st : LS) (k d : Int) (bd : Nat) (w : World) (h : ELV w v Q c l st) (hd : w.cell? ⟨bd, 0, none⟩ = some (.int .i64 d)) (k0 : 0 ≤ k) (k1 : k ≤ 18446744073709551615) (d0 : -9223372036854775808 ≤ d) (d1 : d ≤ 9223372036854775807) :
    Calls Tryz.prog 36 #[v, .int .u64 k, .pointer (some ⟨bd, 0, none⟩)] w fun e w' => e = .returned (.int .i64 (lsCode c l st k d)) ∧ ∃ Q', ELV w' v Q' c l (lsRes c l st k d) ∧ Kept Q w w' ∧ (∀ q, Q' q → Q q ∨ w.heap.size ≤ q) := by
  have HE := Lib.hid h
  have K0 := Lib.hid k0
  have K1 := Lib.hid k1
  have D0 := Lib.hid d0
  have D1 := Lib.hid d1
  clear k0 k1 d0 d1 h
  cases st with
  | A L =>
    obtain ⟨p, rfl, h2⟩ := HE.out.2
    have HX := Lib.hid h2
    clear h2
    go_enter Tryz.func36, Tryz.ntmps36
    go_wp2_with (go_at_call 124; (with_reducible refine (eupd_any p Q c l L k d _ HX.out K0.out K1.out D0.out D1.out).mono ?_); rintro e w' ⟨rfl, Q', h3, h4, h5⟩)
    go_ret
    exact ⟨rfl, Q', ⟨HE.out.1, p, rfl, h3⟩, h4, h5⟩
  | S L =>
    obtain ⟨p, rfl, h2⟩ := HE.out.2
    have HX := Lib.hid h2
    clear h2
    go_enter Tryz.func36, Tryz.ntmps36
    go_wp2_with (go_at_call 140; (with_reducible refine (supd_any p Q c l L k d _ HX.out K0.out K1.out D0.out D1.out).mono ?_); rintro e w' ⟨rfl, Q', h3, h4, h5⟩)
    go_ret
    exact ⟨rfl, Q', ⟨HE.out.1, p, rfl, h3⟩, h4, h5⟩
/-- What the iterator leans on, and the box of what is added. -/
def gsT (bs bk bd b B0 : Nat) (c : Cfg) (k d : Int) (hdr : Value) (vals : List Value) : List Thing := [boxT bk 22 #[.int .u64 k], boxT bs 30 #[.pointer (some ⟨b, 0, none⟩)], boxT bd 2 #[.int .i64 d], boxT b 73 #[.int .i64 c.bt, .int .i64 c.rw, .int .i64 c.wd, .int .i64 c.md, .int .u64 c.sd, hdr], ownT B0 75 hdr vals]
theorem above_seq (m : Nat) (hm : 1 ≤ m) (c : Cfg) (hc : c.Ok) (k d : Int) (k0 : 0 ≤ k) (k1 : k ≤ 18446744073709551615) (bs bk bd b B0 : Nat) (hdr : Value) (vals : List Value) (h1 : 0 < vals.length) (hN : vals.length ≤ 60) (F0 : Nat → Prop) (w0 w : World) (ls : List Thing) (hh : HoldC F0 w0 w (gsT bs bk bd b B0 c k d hdr vals ++ ls)) (w1 : World) (hb : Below w.heap.size w w1) :
    SeqStopsK Fence.wide m Tryz.prog 60 #[.pointer (some ⟨bs, 0, none⟩), .pointer (some ⟨bk, 0, none⟩)] (encL vals c k) (KeptG (manyT (gsT bs bk bd b B0 c k d hdr vals)).F) (fun xs => UpTo xs ∧ xs.length = vals.length) UpTo vals.length w1 := fun l J Jx W hW hJ hJx hY h0 => by
  have hh2 := hh.up (hb.trans (hW.mono hb.size))
  have b1 := hh2.i (t := boxT bs 30 #[.pointer (some ⟨b, 0, none⟩)]) (by simp [gsT])
  have b2 := hh2.i (t := boxT bk 22 #[.int .u64 k]) (by simp [gsT])
  have b3 := hh2.i (t := boxT b 73 #[.int .i64 c.bt, .int .i64 c.rw, .int .i64 c.wd, .int .i64 c.md, .int .u64 c.sd, hdr]) (by simp [gsT])
  have b4 := hh2.i (t := ownT B0 75 hdr vals) (by simp [gsT])
  have hG : ∀ k', (manyT (gsT bs bk bd b B0 c k d hdr vals)).F k' → k' < W.heap.size := fun k' hk => by
    obtain ⟨t, ht, hk2⟩ := hk
    exact t.lt W (hh2.i (List.mem_append_left _ ht)) k' hk2
  obtain ⟨g, cap, rfl, hcap, hmx, hcs⟩ := own_cell b4 h1
  exact above_iter m hm c hc k k0 k1 l bs bk b g cap _ vals hN ⟨boxT bs 30 #[.pointer (some ⟨b, 0, none⟩)], by simp [gsT], rfl⟩ ⟨boxT bk 22 #[.int .u64 k], by simp [gsT], rfl⟩ ⟨boxT b 73 #[.int .i64 c.bt, .int .i64 c.rw, .int .i64 c.wd, .int .i64 c.md, .int .u64 c.sd, .slice (some ⟨g, 0, none⟩) vals.length cap], by simp [gsT], rfl⟩ ⟨ownT B0 75 (.slice (some ⟨g, 0, none⟩) vals.length cap) vals, by simp [gsT], rfl⟩ J Jx W hG hJ hY (box_cell b1 rfl) (box_cell b2 rfl) b3 hcs h0
/-- What the first error of all is in a mode that does not take away. -/
theorem ers_mode {c : Cfg} {k d : Int} {sts : List LS} {w : World} {v : Value} {Q : Nat → Prop} {st : LS} (hr : IsRight c) (k0 : 0 ≤ k) (hk : k < keys c 0) (hm : c.md = 2 ∧ d < 0) (h0 : sts[0]? = some st) (h : ELV w v Q c ((0 : Nat) : Int) st) : ers c k d 0 sts = 3 := by
  have hu : upK k 0 = k := by simp [upK]
  have e1 : lsCode c ((0 : Nat) : Int) st (upK k 0) d = 3 := by
    rw [hu]
    cases st with
    | A L =>
      obtain ⟨p, rfl, h2⟩ := h.2
      have h3 := h2.size.1
      exact (ex_mode (by rw [h3]; exact hk) hm).1
    | S L =>
      show upCode c ((0 : Nat) : Int) L k d = 3
      unfold upCode
      rw [if_neg (by simp; exact hk), if_pos hm.1]
      exact (rs_neg (cols_meet k0 (by simpa using hk)) hm.2).1
  have h2 := ers_first c k d 0 sts 0 st (fun i s hi => by omega) h0 (by rw [Nat.add_zero, e1]; decide)
  rw [h2, Nat.add_zero, e1]
/-- All levels are asked. -/
theorem chk_first (c : Cfg) (hr : IsRight c) (hc : c.Ok) (k d : Int) (k0 : 0 ≤ k) (k1 : k ≤ 18446744073709551615) (hk : k < keys c 0) (d0 : -9223372036854775808 ≤ d) (d1 : d ≤ 9223372036854775807) (sts : List LS) (hl : sts.length = c.bt.toNat + 1) (bd b B0 : Nat) (hdr : Value) (vals : List Value) (ts : List Thing) (hrow : LRow elvT c vals ts sts) (F0 : Nat → Prop) (w0 w : World)
    (hh : HoldC F0 w0 w ([boxT bd 2 #[.int .i64 d], boxT b 73 #[.int .i64 c.bt, .int .i64 c.rw, .int .i64 c.wd, .int .i64 c.md, .int .u64 c.sd, hdr], ownT B0 75 hdr vals] ++ ts)) :
    Calls Tryz.prog 33 #[.func (.func 60) #[] #[.pointer (some ⟨w.heap.size, 0, none⟩), .pointer (some ⟨w.heap.size + 1, 0, none⟩)], .func (.func 35) #[] #[.pointer (some ⟨bd, 0, none⟩)]] ((w.alloc (.cells #[.pointer (some ⟨b, 0, none⟩)] 30)).alloc (.cells #[.int .u64 k] 22)) fun e w' =>
      e = .returned (.int .i64 (ers c k d 0 sts)) ∧ HoldC F0 w0 w' ([boxT bd 2 #[.int .i64 d], boxT b 73 #[.int .i64 c.bt, .int .i64 c.rw, .int .i64 c.wd, .int .i64 c.md, .int .u64 c.sd, hdr], ownT B0 75 hdr vals] ++ ts) := by
  have hvl : vals.length = sts.length := hrow.lv
  have hb59 := hr.1
  have hb60 := hr.2.1
  have B1 : Below w.heap.size w (w.alloc (.cells #[.pointer (some ⟨b, 0, none⟩)] 30)) := Lw.below_alloc (Below.refl _ _) _
  have B2 := Lw.below_alloc (Below.refl _ (w.alloc (.cells #[.pointer (some ⟨b, 0, none⟩)] 30))) (.cells #[.int .u64 k] 22)
  have N2 : ((w.alloc (.cells #[.pointer (some ⟨b, 0, none⟩)] 30)).alloc (.cells #[.int .u64 k] 22)).heap[w.heap.size + 1]? = some (.cells #[.int .u64 k] 22 (0, 0)) := by
    have := heap_alloc_new (w.alloc (.cells #[.pointer (some ⟨b, 0, none⟩)] 30)) (.cells #[.int .u64 k] 22)
    rw [World.size_alloc] at this
    exact this
  have h1 := hh.push (boxT w.heap.size 30 #[.pointer (some ⟨b, 0, none⟩)]) B1 (heap_alloc_new w _) (fun k hk => Nat.le_of_eq hk.symm) (cel_box (heap_alloc_new w _))
  have h2 := h1.push (boxT (w.heap.size + 1) 22 #[.int .u64 k]) B2 N2 (fun k hk => Nat.le_of_eq (by simp; exact hk.symm)) (cel_box N2)
  refine (first_1 c k vals _ bd F0 w0 _ (gsT w.heap.size (w.heap.size + 1) bd b B0 c k d hdr vals) ts
    (fun pre ls => ls = ts ∧ (UpTo pre → ∀ (i : Nat) (s : LS), i < pre.length → sts[i]? = some s → lsCode c ((0 + i : Nat) : Int) s (upK k (0 + i)) d = 0))
    (fun pre code ls => ls = ts ∧ (UpTo pre → ∃ (j : Nat) (s : LS), sts[j]? = some s ∧ lsCode c ((0 + j : Nat) : Int) s (upK k (0 + j)) d = code ∧ ∀ (i : Nat) (s : LS), i < j → sts[i]? = some s → lsCode c ((0 + i : Nat) : Int) s (upK k (0 + i)) d = 0))
    h2 ⟨rfl, fun _ i s hi => by simp at hi⟩
    (fun w1 m hm hb => above_seq m hm c hc k d k0 k1 w.heap.size (w.heap.size + 1) bd b B0 hdr vals (by omega) (by omega) F0 w0 _ ts h2 w1 hb)
    ?_).mono ?_
  · rintro us pre ls x W hW ⟨rfl, hp⟩ hlen
    have hx := x.2
    obtain ⟨st, v, Q, e1, e2, e3⟩ := hrow.at (j := x.1) (by omega)
    have e4 : vals[x.1]'x.2 = v := by
      have h9 := List.getElem?_eq_getElem x.2
      rw [e2] at h9
      exact (Option.some.inj h9).symm
    have hE : ELV W v Q c (x.1 : Int) st := hW.i (t := elvT v Q c (x.1 : Int) st) (List.mem_append_right _ (List.mem_append_right _ (List.mem_of_getElem? e3)))
    have hd := box_cell (hW.i (t := boxT bd 2 #[.int .i64 d]) (List.mem_append_right _ (List.mem_append_left _ (by simp [gsT])))) (i := 0) rfl
    obtain ⟨u1, u2, u3⟩ := above_up hr k0 hk (i := x.1) (by omega)
    rw [e4, u1]
    refine (uchk_any v Q c (x.1 : Int) st (upK k x.1) d bd W hE hd u2 (by omega) d0 d1).mono ?_
    rintro e W' ⟨rfl, hb⟩
    have hG : ∀ k', (manyT (gsT w.heap.size (w.heap.size + 1) bd b B0 c k d hdr vals)).F k' → k' < W.heap.size := fun k' hk => by
      obtain ⟨t, ht, hk2⟩ := hk
      exact t.lt W (hW.i (List.mem_append_right _ (List.mem_append_left _ ht))) k' hk2
    refine ⟨_, ls, rfl, others_of (F := fun _ => False) (Kept.of_below hb) (fun _ h => h.elim), KeptG.of_below hG hb, hW.up hb, fun hz => ⟨rfl, fun hup => ?_⟩, fun hz => ⟨rfl, fun hup => ?_⟩⟩
    · obtain ⟨g1, g2⟩ := UpTo.snoc.1 hup
      intro i s hi hs
      rw [List.length_append, List.length_singleton] at hi
      by_cases hlt : i < pre.length
      · exact hp g1 i s hlt hs
      · obtain rfl : i = x.1 := by omega
        rw [e1] at hs
        injection hs with hs
        subst hs
        rw [Nat.zero_add]
        exact hz
    · obtain ⟨g1, g2⟩ := UpTo.snoc.1 hup
      refine ⟨x.1, st, e1, by rw [Nat.zero_add], fun i s hi hs => hp g1 i s (by omega) hs⟩
  · rintro e W' ⟨ls, hW, (⟨rfl, xs, ⟨x1, x2⟩, rfl, hp⟩ | ⟨pre, code, hup, hne, rfl, rfl, hp⟩)⟩
    · refine ⟨?_, hW.drop.drop⟩
      rw [ers_none c k d 0 sts (fun i s hs => hp x1 i s (by have := (List.getElem?_eq_some_iff.1 hs).1; omega) hs)]
    · obtain ⟨j, s, s1, s2, s3⟩ := hp hup
      refine ⟨?_, hW.drop.drop⟩
      rw [ers_first c k d 0 sts j s s3 s1 (by rw [s2]; exact hne), s2]
/-- All levels are updated. -/
theorem upd_first (c : Cfg) (hr : IsRight c) (hc : c.Ok) (k d : Int) (k0 : 0 ≤ k) (k1 : k ≤ 18446744073709551615) (hk : k < keys c 0) (d0 : -9223372036854775808 ≤ d) (d1 : d ≤ 9223372036854775807) (sts : List LS) (hl : sts.length = c.bt.toNat + 1) (he : ers c k d 0 sts = 0) (bd b B0 : Nat) (hdr : Value) (vals : List Value) (ts : List Thing) (hrow : LRow elvT c vals ts sts) (F0 : Nat → Prop) (w0 w : World)
    (hh : HoldC F0 w0 w ([boxT bd 2 #[.int .i64 d], boxT b 73 #[.int .i64 c.bt, .int .i64 c.rw, .int .i64 c.wd, .int .i64 c.md, .int .u64 c.sd, hdr], ownT B0 75 hdr vals] ++ ts)) :
    Calls Tryz.prog 33 #[.func (.func 60) #[] #[.pointer (some ⟨w.heap.size, 0, none⟩), .pointer (some ⟨w.heap.size + 1, 0, none⟩)], .func (.func 36) #[] #[.pointer (some ⟨bd, 0, none⟩)]] ((w.alloc (.cells #[.pointer (some ⟨b, 0, none⟩)] 30)).alloc (.cells #[.int .u64 k] 22)) fun e w' =>
      e = .returned (.int .i64 0) ∧ ∃ ts', LRow elvT c vals ts' (rss c k d 0 sts) ∧ HoldC F0 w0 w' ([boxT bd 2 #[.int .i64 d], boxT b 73 #[.int .i64 c.bt, .int .i64 c.rw, .int .i64 c.wd, .int .i64 c.md, .int .u64 c.sd, hdr], ownT B0 75 hdr vals] ++ ts') := by
  have hvl : vals.length = sts.length := hrow.lv
  have hb59 := hr.1
  have hb60 := hr.2.1
  have B1 : Below w.heap.size w (w.alloc (.cells #[.pointer (some ⟨b, 0, none⟩)] 30)) := Lw.below_alloc (Below.refl _ _) _
  have B2 := Lw.below_alloc (Below.refl _ (w.alloc (.cells #[.pointer (some ⟨b, 0, none⟩)] 30))) (.cells #[.int .u64 k] 22)
  have N2 : ((w.alloc (.cells #[.pointer (some ⟨b, 0, none⟩)] 30)).alloc (.cells #[.int .u64 k] 22)).heap[w.heap.size + 1]? = some (.cells #[.int .u64 k] 22 (0, 0)) := by
    have := heap_alloc_new (w.alloc (.cells #[.pointer (some ⟨b, 0, none⟩)] 30)) (.cells #[.int .u64 k] 22)
    rw [World.size_alloc] at this
    exact this
  have h1 := hh.push (boxT w.heap.size 30 #[.pointer (some ⟨b, 0, none⟩)]) B1 (heap_alloc_new w _) (fun k hk => Nat.le_of_eq hk.symm) (cel_box (heap_alloc_new w _))
  have h2 := h1.push (boxT (w.heap.size + 1) 22 #[.int .u64 k]) B2 N2 (fun k hk => Nat.le_of_eq (by simp; exact hk.symm)) (cel_box N2)
  refine (first_2 c k vals _ bd F0 w0 _ (gsT w.heap.size (w.heap.size + 1) bd b B0 c k d hdr vals) ts
    (fun pre ls => ∃ sts', LRow elvT c vals ls sts' ∧ sts'.length = sts.length ∧ (UpTo pre → ∀ (i : Nat), sts'[i]? = if i < pre.length then (rss c k d 0 sts)[i]? else sts[i]?))
    (fun pre code ls => UpTo pre → False)
    h2 ⟨sts, hrow, rfl, fun _ i => by simp⟩
    (fun w1 m hm hb => above_seq m hm c hc k d k0 k1 w.heap.size (w.heap.size + 1) bd b B0 hdr vals (by omega) (by omega) F0 w0 _ ts h2 w1 hb)
    ?_).mono ?_
  · rintro us pre ls x W hW ⟨sts', hrow', hl', hp⟩ hlen
    have hx := x.2
    obtain ⟨st, v, Q, e1, e2, e3⟩ := hrow'.at (j := x.1) (by omega)
    have e4 : vals[x.1]'x.2 = v := by
      have h9 := List.getElem?_eq_getElem x.2
      rw [e2] at h9
      exact (Option.some.inj h9).symm
    have hm3 : elvT v Q c (x.1 : Int) st ∈ ls := List.mem_of_getElem? e3
    have hE : ELV W v Q c (x.1 : Int) st := hW.i (t := elvT v Q c (x.1 : Int) st) (List.mem_append_right _ (List.mem_append_right _ hm3))
    have hd := box_cell (hW.i (t := boxT bd 2 #[.int .i64 d]) (List.mem_append_right _ (List.mem_append_left _ (by simp [gsT])))) (i := 0) rfl
    obtain ⟨u1, u2, u3⟩ := above_up hr k0 hk (i := x.1) (by omega)
    rw [e4, u1]
    refine (uupd_any v Q c (x.1 : Int) st (upK k x.1) d bd W hE hd u2 (by omega) d0 d1).mono ?_
    rintro e W' ⟨rfl, Q', hE', hk', hq'⟩
    have hG : ∀ k', (manyT (gsT w.heap.size (w.heap.size + 1) bd b B0 c k d hdr vals)).F k' → k' < W.heap.size := fun k' hk => by
      obtain ⟨t, ht, hk2⟩ := hk
      exact t.lt W (hW.i (List.mem_append_right _ (List.mem_append_left _ ht))) k' hk2
    have hW2 : HoldC F0 w0 W ((us ++ gsT w.heap.size (w.heap.size + 1) bd b B0 c k d hdr vals) ++ (ls ++ [])) := by simpa using hW
    have hW3 := hW2.set e3 (elvT v Q' c (x.1 : Int) (lsRes c (x.1 : Int) st (upK k x.1) d)) hE' hk' hq' (cel_elv hE')
    have hW4 : HoldC F0 w0 W' (us ++ (gsT w.heap.size (w.heap.size + 1) bd b B0 c k d hdr vals ++ ls.set x.1 (elvT v Q' c (x.1 : Int) (lsRes c (x.1 : Int) st (upK k x.1) d)))) := by simpa using hW3
    have hst : UpTo (pre ++ [x]) → sts[x.1]? = some st ∧ x.1 = pre.length ∧ UpTo pre := fun hup => by
      obtain ⟨g1, g2⟩ := UpTo.snoc.1 hup
      have g3 := hp g1 x.1
      rw [if_neg (by omega), e1] at g3
      exact ⟨g3.symm, g2, g1⟩
    refine ⟨_, _, rfl, others_of hk' (cel_elv hE), KeptG.of_kept hG hk' (fun k' ⟨t, ht, h5⟩ => hW.apart hm3 ht h5), hW4, fun hz => ⟨sts'.set x.1 (lsRes c (x.1 : Int) st (upK k x.1) d), hrow'.put e2 Q' _, by simp [hl'], fun hup i => ?_⟩, fun hz hup => ?_⟩
    · obtain ⟨s1, s2, s3⟩ := hst hup
      rw [List.length_append, List.length_singleton, List.getElem?_set]
      by_cases hi : x.1 = i
      · subst hi
        have hlt : x.1 < sts'.length := by omega
        rw [if_pos rfl, if_pos hlt, if_pos (by omega), rss_get c k d 0 sts x.1 st s1, Nat.zero_add]
      · rw [if_neg hi, hp s3 i]
        by_cases hi2 : i < pre.length
        · rw [if_pos hi2, if_pos (by omega)]
        · rw [if_neg hi2, if_neg (by omega)]
    · obtain ⟨s1, s2, s3⟩ := hst hup
      have h9 := ers_ok c k d 0 sts he x.1 st s1
      rw [Nat.zero_add] at h9
      exact hz h9
  · rintro e W' ⟨ls, hW, (⟨rfl, xs, ⟨x1, x2⟩, sts', hrow', hl', hp⟩ | ⟨pre, code, hup, hne, rfl, hp⟩)⟩
    · refine ⟨rfl, ls, ?_, hW.drop.drop⟩
      have e9 : sts' = rss c k d 0 sts := List.ext_getElem? (fun i => by
        rw [hp x1 i]
        by_cases hi : i < xs.length
        · rw [if_pos hi]
        · rw [if_neg hi, List.getElem?_eq_none (by omega), List.getElem?_eq_none (by rw [rss_len]; omega)])
      rw [← e9]
      exact hrow'
    · exact (hp hup).elim
end Go.Proofs.YtiblpdjehknbcaaGreat.Stk
/- Things held while a stack is made: one more level, a box stored to, things left behind. Printed by wip/gen/stk12.py. -/
namespace Go.Proofs.YtiblpdjehknbcaaGreat.Stk
open Go Go.RowKit Lw Grd Lin Con Shp Sk Exa Lev Go.Shelf
set_option linter.unusedVariables false
set_option linter.unusedSimpArgs false
theorem lvs_u : Tryz.prog.underlying 71 = some (.slice 75) := by kernel_rfl
theorem lvs_info : (Tryz.prog.info? 75).map (fun i => (i.zero, i.size, i.bytes)) = some (some .nilIface, 1, 16) := by kernel_rfl
theorem Asun.sub {ts us : List Thing} (h : ts.Sublist us) : Asun us → Asun ts := by
  induction h with
  | slnil => exact id
  | cons a h ih => exact fun g => ih g.2
  | cons_cons a h ih => exact fun g => ⟨fun u hu => g.1 u (h.subset hu), ih g.2⟩
theorem HoldC.sub {F0 : Nat → Prop} {w0 w : World} {ts us : List Thing} (h : HoldC F0 w0 w us) (hs : ts.Sublist us) : HoldC F0 w0 w ts :=
  ⟨⟨h.1.1, fun t ht => h.1.2.1 t (hs.subset ht), Asun.sub hs h.1.2.2⟩, fun t ht => h.2 t (hs.subset ht)⟩
theorem HoldC.start0 {w w' : World} (h : Below w.heap.size w w') : HoldC (fun _ => False) w w' [] := ⟨⟨Kept.of_below h, fun t ht => by simp at ht, trivial⟩, fun t ht => by simp at ht⟩
/-- A new thing behind the others. -/
theorem HoldC.snoc {F0 : Nat → Prop} {w0 w w' : World} {ts : List Thing} (h : HoldC F0 w0 w ts) (t : Thing) (hb : Below w.heap.size w w') (ht : t.I w') (hn : ∀ k, t.F k → w.heap.size ≤ k) (hc : Cel t.F w') : HoldC F0 w0 w' (ts ++ [t]) := by
  have h2 := h.push t hb ht hn hc
  refine ⟨⟨h2.1.1, fun u hu => h2.1.2.1 u (by simpa [or_comm] using hu), Asun.append.2 ⟨h2.1.2.2.2, ⟨fun u hu => by simp at hu, trivial⟩, fun u hu v hv k h3 h4 => ?_⟩⟩, fun u hu => h2.2 u (by simpa [or_comm] using hu)⟩
  rw [List.mem_singleton.1 hv] at h4
  exact h2.1.2.2.1 u hu k h4 h3
/-- One value appended to a row of one's own. -/
theorem HoldC.app {F0 : Nat → Prop} {w0 w w' : World} {fs ts : List Thing} {B : Nat} {e : TypeId} {hdr : Value} {vals : List Value} {v : Value} {g cap : Nat} (h : HoldC F0 w0 w (fs ++ ownT B e hdr vals :: ts)) (own : w'.ownsRow B e 1 (.slice (some ⟨g, 0, none⟩) (vals.length + 1) cap) (vals.length + 1) (vals ++ [v])) (grow : w.grownBy w' hdr.ownBlock) (hat : hdr.ownBlock = some g ∨ g = w.heap.size) :
    HoldC F0 w0 w' (fs ++ ownT B e (.slice (some ⟨g, 0, none⟩) (vals.length + 1) cap) (vals ++ [v]) :: ts) := by
  have hI : (ownT B e (.slice (some ⟨g, 0, none⟩) (vals.length + 1) cap) (vals ++ [v])).I w' := by
    show w'.ownsRow B e 1 _ (vals ++ [v]).length (vals ++ [v])
    rw [List.length_append, List.length_singleton]
    exact own
  refine h.turn _ hI ((Kept.refl _ w).grown grow (fun q e => .inl e)) (fun k hk => ?_) (cel_own hI)
  have hk2 : some g = some k := hk
  injection hk2 with hk2
  rcases hat with h1 | h1
  · exact .inl (show hdr.ownBlock = some k by rw [h1, hk2])
  · exact .inr (by omega)
theorem elv_form {w : World} {v : Value} {F : Nat → Prop} {c : Cfg} {l : Int} {st : LS} (h : ELV w v F c l st) : ∃ t p, v = .iface t (.pointer (some p)) := by
  cases st with
  | A L =>
    obtain ⟨p, rfl, h2⟩ := h.2
    exact ⟨_, _, rfl⟩
  | S L =>
    obtain ⟨p, rfl, h2⟩ := h.2
    exact ⟨_, _, rfl⟩
theorem own_nil (B : Nat) (e : TypeId) (w : World) : (ownT B e (.slice none 0 0) []).I w := World.ownsRow_nil _ _ _ _
theorem own_nilF (B : Nat) (e : TypeId) {k m : Nat} (h : (ownT B e (.slice none 0 0) []).F k) : m ≤ k := by
  have h2 : (none : Option Nat) = some k := h
  cases h2
/-- A stack of the code, as a box. -/
abbrev skB (b : Nat) (c : Cfg) (hdr : Value) : Thing := boxT b 73 #[.int .i64 c.bt, .int .i64 c.rw, .int .i64 c.wd, .int .i64 c.md, .int .u64 c.sd, hdr]
theorem skb_set {w : World} {b : Nat} {c : Cfg} {hdr hdr' : Value} (h : (skB b c hdr).I w) : (skB b c hdr').I (w.setCell ⟨b, 5, none⟩ hdr') := by
  have h2 : w.heap[b]? = some (.cells #[.int .i64 c.bt, .int .i64 c.rw, .int .i64 c.wd, .int .i64 c.md, .int .u64 c.sd, hdr] 73 (0, 0)) := h
  obtain ⟨hlt, hk⟩ := Array.getElem?_eq_some_iff.1 h2
  show (w.heap.modify b _)[b]? = _
  rw [Array.getElem?_eq_getElem (by rw [Array.size_modify]; exact hlt), Array.getElem_modify_self, hk]
  rfl
theorem HoldC.store {F0 : Nat → Prop} {w0 w : World} {fs ts : List Thing} {b : Nat} {c : Cfg} {hdr : Value} (h : HoldC F0 w0 w (fs ++ skB b c hdr :: ts)) (hdr' : Value) : HoldC F0 w0 (w.setCell ⟨b, 5, none⟩ hdr') (fs ++ skB b c hdr' :: ts) := by
  have hb := skb_set (hdr' := hdr') (h.i (t := skB b c hdr) (by simp))
  exact h.turn (skB b c hdr') hb (Kept.set (F := (skB b c hdr).F) (Kept.refl _ _) (.inl rfl) 5 hdr') (fun k hk => .inl hk) (cel_box hb)
/-- The stack, as things that hold cells. -/
theorem st_hold {w : World} {b B0 : Nat} {c : Cfg} {hdr : Value} {vals : List Value} {ts : List Thing} {sts : List LS} (hrow : LRow elvT c vals ts sts) (h : (manyT (skB b c hdr :: ownT B0 75 hdr vals :: ts)).I w) : HoldC (manyT (skB b c hdr :: ownT B0 75 hdr vals :: ts)).F w w (skB b c hdr :: ownT B0 75 hdr vals :: ts) := by
  refine ⟨Hold.start h, fun t ht => ?_⟩
  rcases List.mem_cons.1 ht with rfl | ht2
  · exact cel_box (h.1 _ (by simp))
  · rcases List.mem_cons.1 ht2 with rfl | ht3
    · exact cel_own (h.1 _ (by simp))
    · obtain ⟨j, hj⟩ := List.getElem?_of_mem ht3
      have hlt := (List.getElem?_eq_some_iff.1 hj).1
      obtain ⟨st, v, Q, e1, e2, e3⟩ := hrow.at (j := j) (by rw [← hrow.lt]; exact hlt)
      rw [hj] at e3
      injection e3 with e3
      subst e3
      exact cel_elv (show ELV w v Q c (j : Int) st from h.1 _ ht)
/-- A stack that is held. -/
theorem st_of {F0 : Nat → Prop} {w0 w : World} {b B0 : Nat} {c : Cfg} {hdr : Value} {vals : List Value} {ts : List Thing} {sts : List LS} (hr : IsRight c) (hc : c.Ok) (hl : sts.length = c.bt.toNat + 1) (hrow : LRow elvT c vals ts sts) (h : HoldC F0 w0 w (skB b c hdr :: ownT B0 75 hdr vals :: ts)) :
    ST w ⟨b, 0, none⟩ (manyT (skB b c hdr :: ownT B0 75 hdr vals :: ts)).F c sts ∧ Kept F0 w0 w ∧ ∀ q, (manyT (skB b c hdr :: ownT B0 75 hdr vals :: ts)).F q → F0 q ∨ w0.heap.size ≤ q := by
  have h2 := h.1.many
  exact ⟨⟨hr, hc, hl, b, B0, hdr, vals, ts, rfl, hrow, h2.1, rfl⟩, h2.2.1, h2.2.2⟩
end Go.Proofs.YtiblpdjehknbcaaGreat.Stk
