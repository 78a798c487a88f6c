/- Texts that statements lean on, put together: StkGet, QntHalf, QntWalk, QntCode, StkNew, SpnGat, StkCpy, StkCode, HvyMuch, HvyHalf. -/
import Derived.Test.YtkflggojiiebeaaGreatVag
import Derived.Laws.CopyOwn
namespace Go.Proofs.YtkflggojiiebeaaGreat.Stk
open Go Go.RowKit Lw Grd Lin Con Shp Sk Exa Lev Go.Shelf
set_option linter.unusedVariables false
set_option linter.unusedSimpArgs false
theorem cs_config (p : Addr) (F : Nat → Prop) (c : Cfg) (sts : List LS) (w : World) (h : ST w p F c sts) :
    Calls Tryz.prog 53 #[.pointer (some p)] w fun e w' => e = .returned (.agg #[.int .i64 c.bt, .int .i64 c.rw, .int .i64 c.wd, .int .i64 c.md, .int .u64 c.sd]) ∧ Below w.heap.size w w' := by
  obtain ⟨hr, hc, hl, b, B0, hdr, vals, ts, rfl, hrow, hI, rfl⟩ := h
  have HH := Lib.hid (st_hold hrow hI)
  have hb1 := hr.1
  have hb2 := hr.2.1
  have hvl : vals.length = c.bt.toNat + 1 := hrow.lv.trans hl
  obtain ⟨g, cap, rfl, hcap, hmx, hcs⟩ := own_cell (HH.out.i (t := ownT B0 107 hdr vals) (by simp)) (by omega)
  have HCS := Lib.hid hcs
  have c0 := box_cell (HH.out.i (t := skB b c (.slice (some ⟨g, 0, none⟩) vals.length cap)) (by simp)) (i := 0) rfl
  have c1 := box_cell (HH.out.i (t := skB b c (.slice (some ⟨g, 0, none⟩) vals.length cap)) (by simp)) (i := 1) rfl
  have c2 := box_cell (HH.out.i (t := skB b c (.slice (some ⟨g, 0, none⟩) vals.length cap)) (by simp)) (i := 2) rfl
  have c3 := box_cell (HH.out.i (t := skB b c (.slice (some ⟨g, 0, none⟩) vals.length cap)) (by simp)) (i := 3) rfl
  have c4 := box_cell (HH.out.i (t := skB b c (.slice (some ⟨g, 0, none⟩) vals.length cap)) (by simp)) (i := 4) rfl
  have hbl := box_lt (HH.out.i (t := skB b c (.slice (some ⟨g, 0, none⟩) vals.length cap)) (by simp))
  clear hrow hI hcs
  go_enter Tryz.func53, Tryz.ntmps53
  go_wp2
  go_returns
  exact ⟨rfl, (by (repeat' (first | (with_reducible first | exact Below.refl _ _ | assumption | refine below_over ?_ _ _ | refine Lw.below_alloc ?_ _ | refine Below.drew ?_ | refine below_drewN ?_ _ | refine Below.setCell ?_ ?_ _) | go_size)))⟩
theorem shas_any (p : Addr) (F : Nat → Prop) (c : Cfg) (sts : List LS) (n : Int) (w : World) (h : ST w p F c sts) (n0 : -9223372036854775808 ≤ n) (n1 : n ≤ 9223372036854775807) :
    Calls Tryz.prog 64 #[.pointer (some p), .int .i64 n] w fun e w' => e = .returned (.bool (decide (0 ≤ n ∧ n ≤ c.bt))) ∧ w' = w := by
  obtain ⟨hr, hc, hl, b, B0, hdr, vals, ts, rfl, hrow, hI, rfl⟩ := h
  have HH := Lib.hid (st_hold hrow hI)
  have hb1 := hr.1
  have hb2 := hr.2.1
  have hvl : vals.length = c.bt.toNat + 1 := hrow.lv.trans hl
  obtain ⟨g, cap, rfl, hcap, hmx, hcs⟩ := own_cell (HH.out.i (t := ownT B0 107 hdr vals) (by simp)) (by omega)
  have HCS := Lib.hid hcs
  have c5 := box_cell (HH.out.i (t := skB b c (.slice (some ⟨g, 0, none⟩) vals.length cap)) (by simp)) (i := 5) rfl
  have L6 : (vals.length : Int) = c.bt + 1 := by omega
  have HX : Hid (∀ x : Bool, x = decide (0 ≤ n ∧ n ≤ c.bt) → x = decide (0 ≤ n ∧ n ≤ c.bt)) := Lib.hid (fun _ h => h)
  clear hrow hI hcs
  by_cases hn : 0 ≤ n
  · by_cases hn2 : n ≤ c.bt
    · have hn3 : n < (vals.length : Int) := by omega
      have e : decide (0 ≤ n ∧ n ≤ c.bt) = true := decide_eq_true ⟨hn, hn2⟩
      rw [e]
      go_enter Tryz.func64, Tryz.ntmps64
      go_wp2
      go_ret
      exact ⟨ret_bl (by first | (simp [hn, hn3]; done) | (simp [hn]; omega)), rfl⟩
    · have hn3 : ¬ n < (vals.length : Int) := by omega
      have e : decide (0 ≤ n ∧ n ≤ c.bt) = false := decide_eq_false (fun g => hn2 g.2)
      rw [e]
      go_enter Tryz.func64, Tryz.ntmps64
      go_wp2
      go_ret
      exact ⟨ret_bl (by first | (simp [hn]; done) | (simp [hn]; omega) | (simp; omega)), rfl⟩
  · have e : decide (0 ≤ n ∧ n ≤ c.bt) = false := decide_eq_false (fun g => hn g.1)
    rw [e]
    go_enter Tryz.func64, Tryz.ntmps64
    go_wp2
    go_ret
    exact ⟨ret_bl (by first | (simp [hn]; done) | (simp [hn]; omega) | (simp; omega)), rfl⟩
theorem st_at {b B0 : Nat} {c : Cfg} {hdr : Value} {vals : List Value} {ts : List Thing} {sts : List LS} {F0 : Nat → Prop} {w0 w : World} (hrow : LRow elvT c vals ts sts) (hH : HoldC F0 w0 w (skB b c hdr :: ownT B0 107 hdr vals :: ts)) {n : Nat} {st : LS} (hn : sts[n]? = some st) : ∃ v Q, vals[n]? = some v ∧ ELV w v Q c (n : Int) st := by
  obtain ⟨st2, v, Q, e1, e2, e3⟩ := hrow.at (j := n) ((List.getElem?_eq_some_iff.1 hn).1)
  rw [hn] at e1
  injection e1 with e1
  subst e1
  exact ⟨v, Q, e2, hH.i (t := elvT v Q c (n : Int) st) (List.mem_cons_of_mem _ (List.mem_cons_of_mem _ (List.mem_of_getElem? e3)))⟩
theorem spv_no {c : Cfg} {sts : List LS} {n : Int} (hl : sts.length = c.bt.toNat + 1) (hb : 1 ≤ c.bt) (hn : ¬ (0 ≤ n ∧ n ≤ c.bt)) (i : Int) : spV c sts n i = 0 ∧ spC c sts n i = 2 ∧ lvFl sts n = [] := by
  unfold spV spC lvFl
  by_cases h0 : 0 ≤ n
  · rw [if_pos h0, if_pos h0, if_pos h0, List.getElem?_eq_none (by omega)]
    exact ⟨rfl, rfl, rfl⟩
  · rw [if_neg h0, if_neg h0, if_neg h0]
    exact ⟨rfl, rfl, rfl⟩
theorem spv_yes {c : Cfg} {sts : List LS} {n : Nat} {st : LS} (hn : sts[n]? = some st) (i : Int) : spV c sts (n : Int) i = lsPtV c n st i ∧ spC c sts (n : Int) i = lsPtC c n st i ∧ lvFl sts (n : Int) = st.fl := by
  unfold spV spC lvFl
  rw [if_pos (by omega), if_pos (by omega), if_pos (by omega), Int.toNat_natCast, hn]
  exact ⟨rfl, rfl, rfl⟩
set_option maxHeartbeats 8000000 in
theorem cs_point (p : Addr) (F : Nat → Prop) (c : Cfg) (sts : List LS) (n i : Int) (w : World) (h : ST w p F c sts) (n0 : -9223372036854775808 ≤ n) (n1 : n ≤ 9223372036854775807) (i0 : 0 ≤ i) (i1 : i ≤ 18446744073709551615) :
    Calls Tryz.prog 77 #[.pointer (some p), .agg #[.int .i64 n, .int .u64 i]] w fun e w' => e = .returned (.tuple #[.int .i64 (spV c sts n i), .int .i64 (spC c sts n i)]) ∧ Below w.heap.size w w' := by
  have HS := Lib.hid h
  have N0 := Lib.hid n0
  have N1 := Lib.hid n1
  have I0 := Lib.hid i0
  have I1 := Lib.hid i1
  by_cases hd0 : 0 ≤ n ∧ n ≤ c.bt
  · obtain ⟨m, rfl⟩ : ∃ m : Nat, n = m := ⟨n.toNat, by omega⟩
    have hd : decide (0 ≤ (m : Int) ∧ (m : Int) ≤ c.bt) = true := decide_eq_true hd0
    obtain ⟨hr, hc, hl, b, B0, hdr, vals, ts, rfl, hrow, hI, rfl⟩ := h
    have HH := Lib.hid (st_hold hrow hI)
    have hb1 := hr.1
    have hb2 := hr.2.1
    have hvl : vals.length = c.bt.toNat + 1 := hrow.lv.trans hl
    obtain ⟨g, cap, rfl, hcap, hmx, hcs⟩ := own_cell (HH.out.i (t := ownT B0 107 hdr vals) (by simp)) (by omega)
    have HCS := Lib.hid hcs
    have c5 := box_cell (HH.out.i (t := skB b c (.slice (some ⟨g, 0, none⟩) vals.length cap)) (by simp)) (i := 5) rfl
    have L6 : (vals.length : Int) = c.bt + 1 := by omega
    have hn4 : (m : Int) < (vals.length : Int) := by omega
    have hn5 : m < vals.length := by omega
    have hn6 : (0 : Int) ≤ (m : Int) := by omega
    obtain ⟨st, hst⟩ : ∃ st, sts[m]? = some st := ⟨_, List.getElem?_eq_getElem (by omega)⟩
    obtain ⟨e1, e2, _⟩ := spv_yes (c := c) hst i
    rw [e1, e2]
    obtain ⟨v, Q, e3, hE⟩ := st_at hrow HH.out hst
    have c6 := hcs m v e3
    have HE := Lib.hid hE
    have hd1 := hd0.2
    have hlt5 := cell_lt c5
    have hlt6 := cell_lt c6
    clear hrow hI hcs hE e3 hst e1 e2 hd0 n0 n1 i0 i1 L6 hvl
    cases st with
    | A L =>
      obtain ⟨q, rfl, h2⟩ := HE.out.2
      have HX := Lib.hid h2
      clear h2
      go_enter Tryz.func77, Tryz.ntmps77
      go_wp2_with (go_at_call 64; (with_reducible refine (shas_any _ _ c sts m _ (HS.out.up (Lw.below_alloc (Below.refl _ _) _)) N0.out N1.out).mono ?_); rintro e w' ⟨rfl, rfl⟩; rw [hd])
      have k5 := cell_up c5 (Lw.below_alloc (Below.refl _ w) (.cells #[.int .i64 m, .int .u64 i] 82))
      have k6 := cell_up c6 (Lw.below_alloc (Below.refl _ w) (.cells #[.int .i64 m, .int .u64 i] 82))
      have q0 : (w.alloc (.cells #[.int .i64 m, .int .u64 i] 82)).cell? ⟨w.heap.size, 0, none⟩ = some (.int .i64 m) := box_cell (heap_alloc_new w _) rfl
      have q1 : (w.alloc (.cells #[.int .i64 m, .int .u64 i] 82)).cell? ⟨w.heap.size, 1, none⟩ = some (.int .u64 i) := box_cell (heap_alloc_new w _) rfl
      have B0w : Below w.heap.size w (w.alloc (.cells #[.int .i64 m, .int .u64 i] 82)) := Lw.below_alloc (Below.refl _ _) _
      have HX1 := Lib.hid (HX.out.up B0w)
      obtain ⟨W, hW⟩ : ∃ W, w.alloc (.cells #[.int .i64 m, .int .u64 i] 82) = W := ⟨_, rfl⟩
      have hWs : w.heap.size < W.heap.size := by rw [← hW]; simp
      rw [hW] at k5 k6 q0 q1 B0w HX1 ⊢
      clear hW
      go_region_held3 (fun w' => Below W.heap.size W w' ∧ w'.cell? ⟨b, 5, none⟩ = some (.slice (some ⟨g, 0, none⟩) vals.length cap) ∧ w'.cell? ⟨w.heap.size, 0, none⟩ = some (.int .i64 m) ∧ w'.cell? ⟨w.heap.size, 1, none⟩ = some (.int .u64 i) ∧ w'.cell? ⟨g, m, none⟩ = some (.iface 173 (.pointer (some q)))) (first | (refine ⟨?_, ?_, ?_, ?_, ?_⟩ <;> (first | (with_reducible assumption) | (with_reducible refine cell_up k5 ?_) | (with_reducible refine cell_up k6 ?_) | (with_reducible refine cell_up q0 ?_) | (with_reducible refine cell_up q1 ?_) | skip) <;> (repeat' (first | (with_reducible exact Below.refl _ _) | (with_reducible assumption) | (with_reducible refine below_over ?_ _ _) | (with_reducible refine Lw.below_alloc ?_ _) | (with_reducible refine Below.drew ?_) | (with_reducible refine below_drewN ?_ _) | go_size)))) (first
        | (go_at_call 196; (with_reducible refine (epoint_any q Q c m L i _ (HX1.out.up (by (repeat' (first | (with_reducible first | exact Below.refl _ _ | assumption | refine below_over ?_ _ _ | refine Lw.below_alloc ?_ _ | refine Below.drew ?_ | refine below_drewN ?_ _ | refine Below.setCell ?_ ?_ _) | go_size)))) I0.out I1.out).mono ?_); rintro e w5 ⟨rfl, hb⟩; obtain ⟨bs, d, rfl⟩ := below_grow hb; clear hb))
      all_goals go_wp2
      all_goals go_ret2
      all_goals exact ⟨rfl, B0w.trans ((show Below W.heap.size W _ from (by (repeat' (first | (with_reducible first | exact Below.refl _ _ | assumption | refine below_over ?_ _ _ | refine Lw.below_alloc ?_ _ | refine Below.drew ?_ | refine below_drewN ?_ _ | refine Below.setCell ?_ ?_ _) | go_size)))).mono B0w.size)⟩
    | S L =>
      obtain ⟨q, rfl, h2⟩ := HE.out.2
      have HX := Lib.hid h2
      clear h2
      go_enter Tryz.func77, Tryz.ntmps77
      go_wp2_with (go_at_call 64; (with_reducible refine (shas_any _ _ c sts m _ (HS.out.up (Lw.below_alloc (Below.refl _ _) _)) N0.out N1.out).mono ?_); rintro e w' ⟨rfl, rfl⟩; rw [hd])
      have k5 := cell_up c5 (Lw.below_alloc (Below.refl _ w) (.cells #[.int .i64 m, .int .u64 i] 82))
      have k6 := cell_up c6 (Lw.below_alloc (Below.refl _ w) (.cells #[.int .i64 m, .int .u64 i] 82))
      have q0 : (w.alloc (.cells #[.int .i64 m, .int .u64 i] 82)).cell? ⟨w.heap.size, 0, none⟩ = some (.int .i64 m) := box_cell (heap_alloc_new w _) rfl
      have q1 : (w.alloc (.cells #[.int .i64 m, .int .u64 i] 82)).cell? ⟨w.heap.size, 1, none⟩ = some (.int .u64 i) := box_cell (heap_alloc_new w _) rfl
      have B0w : Below w.heap.size w (w.alloc (.cells #[.int .i64 m, .int .u64 i] 82)) := Lw.below_alloc (Below.refl _ _) _
      have HX1 := Lib.hid (HX.out.up B0w)
      obtain ⟨W, hW⟩ : ∃ W, w.alloc (.cells #[.int .i64 m, .int .u64 i] 82) = W := ⟨_, rfl⟩
      have hWs : w.heap.size < W.heap.size := by rw [← hW]; simp
      rw [hW] at k5 k6 q0 q1 B0w HX1 ⊢
      clear hW
      go_region_held3 (fun w' => Below W.heap.size W w' ∧ w'.cell? ⟨b, 5, none⟩ = some (.slice (some ⟨g, 0, none⟩) vals.length cap) ∧ w'.cell? ⟨w.heap.size, 0, none⟩ = some (.int .i64 m) ∧ w'.cell? ⟨w.heap.size, 1, none⟩ = some (.int .u64 i) ∧ w'.cell? ⟨g, m, none⟩ = some (.iface 176 (.pointer (some q)))) (first | (refine ⟨?_, ?_, ?_, ?_, ?_⟩ <;> (first | (with_reducible assumption) | (with_reducible refine cell_up k5 ?_) | (with_reducible refine cell_up k6 ?_) | (with_reducible refine cell_up q0 ?_) | (with_reducible refine cell_up q1 ?_) | skip) <;> (repeat' (first | (with_reducible exact Below.refl _ _) | (with_reducible assumption) | (with_reducible refine below_over ?_ _ _) | (with_reducible refine Lw.below_alloc ?_ _) | (with_reducible refine Below.drew ?_) | (with_reducible refine below_drewN ?_ _) | go_size)))) (first
        | (go_at_call 210; (with_reducible refine (spoint_any q Q c m L i _ (HX1.out.up (by (repeat' (first | (with_reducible first | exact Below.refl _ _ | assumption | refine below_over ?_ _ _ | refine Lw.below_alloc ?_ _ | refine Below.drew ?_ | refine below_drewN ?_ _ | refine Below.setCell ?_ ?_ _) | go_size)))) I0.out I1.out).mono ?_); rintro e w5 ⟨rfl, hb⟩; obtain ⟨bs, d, rfl⟩ := below_grow hb; clear hb))
      all_goals go_wp2
      all_goals go_ret2
      all_goals exact ⟨rfl, B0w.trans ((show Below W.heap.size W _ from (by (repeat' (first | (with_reducible first | exact Below.refl _ _ | assumption | refine below_over ?_ _ _ | refine Lw.below_alloc ?_ _ | refine Below.drew ?_ | refine below_drewN ?_ _ | refine Below.setCell ?_ ?_ _) | go_size)))).mono B0w.size)⟩
  · have hd : decide (0 ≤ n ∧ n ≤ c.bt) = false := decide_eq_false hd0
    obtain ⟨e1, e2, _⟩ := spv_no HS.out.right.2.2 HS.out.right.1.1 hd0 i
    rw [e1, e2]
    clear h hd0 n0 n1 i0 i1
    go_enter Tryz.func77, Tryz.ntmps77
    go_wp2_with (go_at_call 64; (with_reducible refine (shas_any _ _ c sts n _ (HS.out.up (Lw.below_alloc (Below.refl _ _) _)) N0.out N1.out).mono ?_); rintro e w' ⟨rfl, rfl⟩; rw [hd])
    go_ret2
    exact ⟨rfl, (by (repeat' (first | (with_reducible first | exact Below.refl _ _ | assumption | refine below_over ?_ _ _ | refine Lw.below_alloc ?_ _ | refine Below.drew ?_ | refine below_drewN ?_ _ | refine Below.setCell ?_ ?_ _) | go_size)))⟩
theorem cs_total (p : Addr) (F : Nat → Prop) (c : Cfg) (sts : List LS) (w : World) (h : ST w p F c sts) :
    Calls Tryz.prog 38 #[.pointer (some p)] w fun e w' => e = .returned (.int .i64 (spV c sts c.bt 0)) ∧ Below w.heap.size w w' := by
  have HS := Lib.hid h
  obtain ⟨hr, hc, hl, b, B0, hdr, vals, ts, rfl, hrow, hI, rfl⟩ := h
  have HH := Lib.hid (st_hold hrow hI)
  have hb1 := hr.1
  have hb2 := hr.2.1
  have hvl : vals.length = c.bt.toNat + 1 := hrow.lv.trans hl
  obtain ⟨g, cap, rfl, hcap, hmx, hcs⟩ := own_cell (HH.out.i (t := ownT B0 107 hdr vals) (by simp)) (by omega)
  have HCS := Lib.hid hcs
  have c0 := box_cell (HH.out.i (t := skB b c (.slice (some ⟨g, 0, none⟩) vals.length cap)) (by simp)) (i := 0) rfl
  have CP := Lib.hid (cs_point _ _ c sts c.bt 0 w HS.out (by omega) (by omega) (by omega) (by omega))
  clear hrow hI hcs hvl
  go_enter Tryz.func38, Tryz.ntmps38
  go_wp2_with (go_at_call 77; (with_reducible refine CP.out.mono ?_); rintro e w5 ⟨rfl, hb⟩)
  go_ret
  exact ⟨rfl, hb⟩
end Go.Proofs.YtkflggojiiebeaaGreat.Stk

namespace Go.Proofs.YtkflggojiiebeaaGreat.Qnt
open Go Go.RowKit Lw Grd Lin Con Shp Sk Exa Lev Stk Pcs Spn
set_option linter.unusedVariables false
set_option linter.unusedSimpArgs false
theorem fld_btq (c : Cfg) (w : World) : (Instr.field 24 (.agg #[.int .i64 c.bt, .int .i64 c.rw, .int .i64 c.wd, .int .i64 c.md, .int .u64 c.sd]) 0).run Tryz.prog w = .ok (.int .i64 c.bt) w := by kernel_rfl
theorem blk_new {X : World} {n : Nat} {o : Obj} (h : X.heap.size = n) : (X.alloc o).heap[n]? = some o := by
  subst h
  exact heap_alloc_new X _
theorem blk_up {X Y : World} {b : Nat} {o : Obj} (h : X.heap[b]? = some o) (hb : Below X.heap.size X Y) : Y.heap[b]? = some o := by
  rw [hb.block b (Array.getElem?_eq_some_iff.1 h).1]
  exact h
theorem blk_alloc {X : World} {b : Nat} {o p : Obj} (h : X.heap[b]? = some o) : (X.alloc p).heap[b]? = some o := blk_up h (Lw.below_alloc (Below.refl _ _) _)
theorem blk_grow {X : World} {b : Nat} {o : Obj} {bs : Array Obj} {d : Nat} (h : X.heap[b]? = some o) : (grow X bs d).heap[b]? = some o := blk_up h (grow_below X bs d)
theorem blk_frozen {X : World} {b : Nat} {vs : Array Value} {e : TypeId} (h : X.heap[b]? = some (.cells vs e (0, 0))) (i : Nat) : X.frozen? ⟨b, i, none⟩ = false := by
  simp [World.frozen?, h]
theorem blk_set {X : World} {b : Nat} {e : TypeId} {vs : Array Value} (h : X.heap[b]? = some (.cells vs e (0, 0))) (i : Nat) (v : Value) : (X.setCell ⟨b, i, none⟩ v).heap[b]? = some (.cells (vs.setIfInBounds i v) e (0, 0)) := by
  simp [World.setCell, Array.getElem?_modify, h]
set_option maxRecDepth 100000 in
set_option maxHeartbeats 4000000 in
theorem qhalf_l (p : Addr) (F : Nat → Prop) (c : Cfg) (sts : List LS) (LL II VV k : Int) (w : World) (h : ST w p F c sts) (hP : isP c.bt LL II = true) (hL : 1 ≤ LL) (hI : 0 ≤ II) (hV : spV c sts (LL - 1) (2 * II) = VV) (hk : k ≤ VV) :
    Calls Tryz.prog 112 #[.pointer (some p), .agg #[.int .i64 LL, .int .u64 II], .int .i64 k] w fun e w' => e = .returned (.tuple #[.agg #[.int .i64 (LL - 1), .int .u64 (2 * II)], .int .i64 k, .bool true]) ∧ Below w.heap.size w w' := by
  have HS := Lib.hid h
  obtain ⟨h1, h2, h3, h4, h5, h6, h7⟩ := isP_bd hP hI
  have h8 := p2_bd (k := (c.bt - LL).toNat) (by omega)
  have CH := Lib.hid (fun w => chalves_y c.bt LL II w (by omega) (by omega) (by omega) (by omega) hI (by omega) hP (by omega))
  have CP := Lib.hid (fun w hs => cs_point p F c sts (LL - 1) (2 * II) w hs (by omega) (by omega) (by omega) (by omega))
  rw [hV] at CP
  have hfd := fld_btq c
  have g1 : decide (k ≤ VV) = true := decide_eq_true hk
  obtain ⟨L1, hL1⟩ : ∃ v, LL - 1 = v := ⟨_, rfl⟩
  obtain ⟨I2, hI2⟩ : ∃ v, 2 * II = v := ⟨_, rfl⟩
  obtain ⟨I3, hI3⟩ : ∃ v, I2 + 1 = v := ⟨_, rfl⟩
  obtain ⟨VC, hVC⟩ : ∃ v, spC c sts L1 I2 = v := ⟨_, rfl⟩
  rw [hL1, hI2] at CP CH
  rw [hVC] at CP
  rw [hI3] at CH
  rw [hL1, hI2]
  clear h hP hL hI hV hL1 hI2 hI3 hVC h1 h2 h3 h4 h5 h6 h7 h8
  go_enter Tryz.func112, Tryz.ntmps112
  go_wp2
  have B0w : Below w.heap.size w ((w.alloc (.cells #[.int .i64 LL, .int .u64 II] 82)).alloc (.cells #[.int .i64 0, .int .u64 0] 82)) := Lw.below_alloc (Lw.below_alloc (Below.refl _ _) _) _
  have q0 : ((w.alloc (.cells #[.int .i64 LL, .int .u64 II] 82)).alloc (.cells #[.int .i64 0, .int .u64 0] 82)).cell? ⟨w.heap.size, 0, none⟩ = some (.int .i64 LL) := by
    rw [World.cell?_alloc_lt _ _ _ (by simp)]
    exact box_cell (heap_alloc_new w _) rfl
  have q1 : ((w.alloc (.cells #[.int .i64 LL, .int .u64 II] 82)).alloc (.cells #[.int .i64 0, .int .u64 0] 82)).cell? ⟨w.heap.size, 1, none⟩ = some (.int .u64 II) := by
    rw [World.cell?_alloc_lt _ _ _ (by simp)]
    exact box_cell (heap_alloc_new w _) rfl
  have r0 : ((w.alloc (.cells #[.int .i64 LL, .int .u64 II] 82)).alloc (.cells #[.int .i64 0, .int .u64 0] 82)).heap[w.heap.size + 1]? = some (.cells #[.int .i64 0, .int .u64 0] 82 (0, 0)) := by
    have := heap_alloc_new (w.alloc (.cells #[.int .i64 LL, .int .u64 II] 82)) (.cells #[.int .i64 0, .int .u64 0] 82)
    simpa using this
  obtain ⟨W, hW⟩ : ∃ W, (w.alloc (.cells #[.int .i64 LL, .int .u64 II] 82)).alloc (.cells #[.int .i64 0, .int .u64 0] 82) = W := ⟨_, rfl⟩
  have hWs : W.heap.size = w.heap.size + 2 := by rw [← hW]; simp
  rw [hW] at B0w q0 q1 r0 ⊢
  clear hW
  have HS1 := Lib.hid (HS.out.up B0w)
  have R0 := Lib.hid r0
  clear r0
  go_cut [9, 10, 11] (fun s9 s10 s11 wx => ∃ a b : Nat, s9 = .pointer (some ⟨a, 0, none⟩) ∧ s10 = .pointer (some ⟨b, 0, none⟩) ∧ s11 = .bool true ∧ Below W.heap.size W wx ∧ wx.heap[a]? = some (.cells #[.int .i64 L1, .int .u64 I2] 82 (0, 0)) ∧ wx.heap[b]? = some (.cells #[.int .i64 L1, .int .u64 I3] 82 (0, 0)))
  case first =>
    go_region_held3 (fun w' => Below W.heap.size W w' ∧ w'.cell? ⟨w.heap.size, 0, none⟩ = some (.int .i64 LL) ∧ w'.cell? ⟨w.heap.size, 1, none⟩ = some (.int .u64 II)) (first | (refine ⟨?_, ?_, ?_⟩ <;> (first | (with_reducible assumption) | (with_reducible refine cell_up q0 ?_) | (with_reducible refine cell_up q1 ?_) | skip) <;> (repeat' (first | (with_reducible first | exact Below.refl _ _ | assumption | refine below_over ?_ _ _ | refine Lw.below_alloc ?_ _ | refine Below.drew ?_ | refine below_drewN ?_ _ | refine Below.setCell ?_ ?_ _) | go_size)))) (first
      | (go_at_call 53; (with_reducible refine (cs_config p F c sts _ (HS1.out.up (by (repeat' (first | (with_reducible first | exact Below.refl _ _ | assumption | refine below_over ?_ _ _ | refine Lw.below_alloc ?_ _ | refine Below.drew ?_ | refine below_drewN ?_ _ | refine Below.setCell ?_ ?_ _) | go_size))))).mono ?_); rintro e w5 ⟨rfl, hb⟩; obtain ⟨bs, d, rfl⟩ := below_grow hb; clear hb)
      | (go_at_call 95; (with_reducible refine (CH.out _).mono ?_); rintro e w5 ⟨rfl, hb⟩; obtain ⟨bs, d, rfl⟩ := below_grow hb; clear hb))
    all_goals go_wp2_with fail
    all_goals go_meet
    all_goals refine ⟨_, _, rfl, rfl, rfl, (by (repeat' (first | (with_reducible first | exact Below.refl _ _ | assumption | refine below_over ?_ _ _ | refine Lw.below_alloc ?_ _ | refine Below.drew ?_ | refine below_drewN ?_ _ | refine Below.setCell ?_ ?_ _) | go_size))), ?_, ?_⟩
    all_goals repeat' (first | (with_reducible refine blk_grow ?_) | (refine blk_new ?_; go_size; done) | (refine blk_new ?_; simp; omega) | (with_reducible refine blk_alloc ?_))
  case rest =>
    obtain ⟨a, b, rfl, rfl, rfl, hb, ha0, hb0⟩ := hcut
    obtain ⟨wo, rfl⟩ : ∃ wo, wo = wc := ⟨_, rfl⟩
    have HBo := Lib.hid (B0w.trans (hb.mono (by omega)))
    have hws := hb.size
    have HS2 := Lib.hid (HS1.out.up hb)
    have HA0 := Lib.hid ha0
    have HB0 := Lib.hid hb0
    have HR0 := Lib.hid (blk_up R0.out hb)
    have a0 := box_cell ha0 (i := 0) rfl
    have a1 := box_cell ha0 (i := 1) rfl
    have hla : a < wo.heap.size := (Array.getElem?_eq_some_iff.1 ha0).1
    have hlb : b < wo.heap.size := (Array.getElem?_eq_some_iff.1 hb0).1
    clear ha0 hb0 q0 q1 hb B0w
    go_wp2_with (go_at_call 77; (with_reducible refine (CP.out _ HS2.out).mono ?_); rintro e w6 ⟨rfl, hb⟩; have HB6 := Lib.hid (HBo.out.trans (hb.mono HBo.out.size)); have HC6 := Lib.hid (blk_up HR0.out hb); have c6 := box_cell HC6.out (i := 0) rfl; have c7 := box_cell HC6.out (i := 1) rfl; have f6 : w6.frozen? ⟨w.heap.size + 1, 0, none⟩ = false := blk_frozen HC6.out 0; have f7 : w6.frozen? ⟨w.heap.size + 1, 1, none⟩ = false := blk_frozen HC6.out 1; have y0 := box_cell (blk_up HA0.out hb) (i := 0) rfl; have y1 := box_cell (blk_up HA0.out hb) (i := 1) rfl; clear hb)
    have HC8 := Lib.hid (blk_set (blk_set HC6.out 0 (.int .i64 L1)) 1 (.int .u64 I2))
    have HB8 : Hid (Below w.heap.size w ((w6.setCell ⟨w.heap.size + 1, 0, none⟩ (.int .i64 L1)).setCell ⟨w.heap.size + 1, 1, none⟩ (.int .u64 I2))) := Lib.hid (by refine Below.setCell (Below.setCell HB6.out ?_ _) ?_ _ <;> simp)
    obtain ⟨w8, hw8⟩ : ∃ w8, (w6.setCell ⟨w.heap.size + 1, 0, none⟩ (.int .i64 L1)).setCell ⟨w.heap.size + 1, 1, none⟩ (.int .u64 I2) = w8 := ⟨_, rfl⟩
    rw [hw8] at HC8 HB8 ⊢
    have v0 := box_cell HC8.out (i := 0) (v := .int .i64 L1) (by simp)
    have v1 := box_cell HC8.out (i := 1) (v := .int .u64 I2) (by simp)
    refine bodyPost_ret (v := .tuple #[.agg #[.int .i64 L1, .int .u64 I2], .int .i64 k, .bool true]) (by simp [results, Tryz.results112, go_sem, v0, v1]) rfl ?_
    exact ⟨rfl, HB8.out⟩
set_option maxRecDepth 100000 in
set_option maxHeartbeats 4000000 in
theorem qhalf_r (p : Addr) (F : Nat → Prop) (c : Cfg) (sts : List LS) (LL II VV k : Int) (w : World) (h : ST w p F c sts) (hP : isP c.bt LL II = true) (hL : 1 ≤ LL) (hI : 0 ≤ II) (hV : spV c sts (LL - 1) (2 * II) = VV) (hk : ¬ k ≤ VV) (k1 : k ≤ 9223372036854775807) (v0 : -9223372036854775808 ≤ VV) :
    Calls Tryz.prog 112 #[.pointer (some p), .agg #[.int .i64 LL, .int .u64 II], .int .i64 k] w fun e w' => e = .returned (.tuple #[.agg #[.int .i64 (LL - 1), .int .u64 (2 * II + 1)], .int .i64 (Wid.f64 (k - VV)), .bool (Wid.fit64 (k - VV))]) ∧ Below w.heap.size w w' := by
  have HS := Lib.hid h
  obtain ⟨h1, h2, h3, h4, h5, h6, h7⟩ := isP_bd hP hI
  have h8 := p2_bd (k := (c.bt - LL).toNat) (by omega)
  have CH := Lib.hid (fun w => chalves_y c.bt LL II w (by omega) (by omega) (by omega) (by omega) hI (by omega) hP (by omega))
  have CP := Lib.hid (fun w hs => cs_point p F c sts (LL - 1) (2 * II) w hs (by omega) (by omega) (by omega) (by omega))
  rw [hV] at CP
  have hfd := fld_btq c
  have g1 : decide (k ≤ VV) = false := decide_eq_false hk
  have CM := Lib.hid (fun w => Wid.minus_any k VV w (by omega) (by omega) (by omega) (by omega))
  obtain ⟨KK, hKK⟩ : ∃ v, Wid.f64 (k - VV) = v := ⟨_, rfl⟩
  obtain ⟨KF, hKF⟩ : ∃ v, Wid.fit64 (k - VV) = v := ⟨_, rfl⟩
  rw [hKK, hKF] at CM
  rw [hKK, hKF]
  obtain ⟨L1, hL1⟩ : ∃ v, LL - 1 = v := ⟨_, rfl⟩
  obtain ⟨I2, hI2⟩ : ∃ v, 2 * II = v := ⟨_, rfl⟩
  obtain ⟨I3, hI3⟩ : ∃ v, I2 + 1 = v := ⟨_, rfl⟩
  obtain ⟨VC, hVC⟩ : ∃ v, spC c sts L1 I2 = v := ⟨_, rfl⟩
  rw [hL1, hI2] at CP CH
  rw [hVC] at CP
  rw [hI3] at CH
  rw [hL1, hI2, hI3]
  clear h hP hL hI hV hKK hKF k1 v0 hL1 hI2 hI3 hVC h1 h2 h3 h4 h5 h6 h7 h8
  go_enter Tryz.func112, Tryz.ntmps112
  go_wp2
  have B0w : Below w.heap.size w ((w.alloc (.cells #[.int .i64 LL, .int .u64 II] 82)).alloc (.cells #[.int .i64 0, .int .u64 0] 82)) := Lw.below_alloc (Lw.below_alloc (Below.refl _ _) _) _
  have q0 : ((w.alloc (.cells #[.int .i64 LL, .int .u64 II] 82)).alloc (.cells #[.int .i64 0, .int .u64 0] 82)).cell? ⟨w.heap.size, 0, none⟩ = some (.int .i64 LL) := by
    rw [World.cell?_alloc_lt _ _ _ (by simp)]
    exact box_cell (heap_alloc_new w _) rfl
  have q1 : ((w.alloc (.cells #[.int .i64 LL, .int .u64 II] 82)).alloc (.cells #[.int .i64 0, .int .u64 0] 82)).cell? ⟨w.heap.size, 1, none⟩ = some (.int .u64 II) := by
    rw [World.cell?_alloc_lt _ _ _ (by simp)]
    exact box_cell (heap_alloc_new w _) rfl
  have r0 : ((w.alloc (.cells #[.int .i64 LL, .int .u64 II] 82)).alloc (.cells #[.int .i64 0, .int .u64 0] 82)).heap[w.heap.size + 1]? = some (.cells #[.int .i64 0, .int .u64 0] 82 (0, 0)) := by
    have := heap_alloc_new (w.alloc (.cells #[.int .i64 LL, .int .u64 II] 82)) (.cells #[.int .i64 0, .int .u64 0] 82)
    simpa using this
  obtain ⟨W, hW⟩ : ∃ W, (w.alloc (.cells #[.int .i64 LL, .int .u64 II] 82)).alloc (.cells #[.int .i64 0, .int .u64 0] 82) = W := ⟨_, rfl⟩
  have hWs : W.heap.size = w.heap.size + 2 := by rw [← hW]; simp
  rw [hW] at B0w q0 q1 r0 ⊢
  clear hW
  have HS1 := Lib.hid (HS.out.up B0w)
  have R0 := Lib.hid r0
  clear r0
  go_cut [9, 10, 11] (fun s9 s10 s11 wx => ∃ a b : Nat, s9 = .pointer (some ⟨a, 0, none⟩) ∧ s10 = .pointer (some ⟨b, 0, none⟩) ∧ s11 = .bool true ∧ Below W.heap.size W wx ∧ wx.heap[a]? = some (.cells #[.int .i64 L1, .int .u64 I2] 82 (0, 0)) ∧ wx.heap[b]? = some (.cells #[.int .i64 L1, .int .u64 I3] 82 (0, 0)))
  case first =>
    go_region_held3 (fun w' => Below W.heap.size W w' ∧ w'.cell? ⟨w.heap.size, 0, none⟩ = some (.int .i64 LL) ∧ w'.cell? ⟨w.heap.size, 1, none⟩ = some (.int .u64 II)) (first | (refine ⟨?_, ?_, ?_⟩ <;> (first | (with_reducible assumption) | (with_reducible refine cell_up q0 ?_) | (with_reducible refine cell_up q1 ?_) | skip) <;> (repeat' (first | (with_reducible first | exact Below.refl _ _ | assumption | refine below_over ?_ _ _ | refine Lw.below_alloc ?_ _ | refine Below.drew ?_ | refine below_drewN ?_ _ | refine Below.setCell ?_ ?_ _) | go_size)))) (first
      | (go_at_call 53; (with_reducible refine (cs_config p F c sts _ (HS1.out.up (by (repeat' (first | (with_reducible first | exact Below.refl _ _ | assumption | refine below_over ?_ _ _ | refine Lw.below_alloc ?_ _ | refine Below.drew ?_ | refine below_drewN ?_ _ | refine Below.setCell ?_ ?_ _) | go_size))))).mono ?_); rintro e w5 ⟨rfl, hb⟩; obtain ⟨bs, d, rfl⟩ := below_grow hb; clear hb)
      | (go_at_call 95; (with_reducible refine (CH.out _).mono ?_); rintro e w5 ⟨rfl, hb⟩; obtain ⟨bs, d, rfl⟩ := below_grow hb; clear hb))
    all_goals go_wp2_with fail
    all_goals go_meet
    all_goals refine ⟨_, _, rfl, rfl, rfl, (by (repeat' (first | (with_reducible first | exact Below.refl _ _ | assumption | refine below_over ?_ _ _ | refine Lw.below_alloc ?_ _ | refine Below.drew ?_ | refine below_drewN ?_ _ | refine Below.setCell ?_ ?_ _) | go_size))), ?_, ?_⟩
    all_goals repeat' (first | (with_reducible refine blk_grow ?_) | (refine blk_new ?_; go_size; done) | (refine blk_new ?_; simp; omega) | (with_reducible refine blk_alloc ?_))
  case rest =>
    obtain ⟨a, b, rfl, rfl, rfl, hb, ha0, hb0⟩ := hcut
    obtain ⟨wo, rfl⟩ : ∃ wo, wo = wc := ⟨_, rfl⟩
    have HBo := Lib.hid (B0w.trans (hb.mono (by omega)))
    have hws := hb.size
    have HS2 := Lib.hid (HS1.out.up hb)
    have HA0 := Lib.hid ha0
    have HB0 := Lib.hid hb0
    have HR0 := Lib.hid (blk_up R0.out hb)
    have a0 := box_cell ha0 (i := 0) rfl
    have a1 := box_cell ha0 (i := 1) rfl
    have hla : a < wo.heap.size := (Array.getElem?_eq_some_iff.1 ha0).1
    have hlb : b < wo.heap.size := (Array.getElem?_eq_some_iff.1 hb0).1
    clear ha0 hb0 q0 q1 hb B0w
    go_wp2_with (first
      | (go_at_call 77; (with_reducible refine (CP.out _ HS2.out).mono ?_); rintro e w5 ⟨rfl, hb⟩; have HB5 := Lib.hid (HBo.out.trans (hb.mono HBo.out.size)); have HC5 := Lib.hid (blk_up HR0.out hb); have HY5 := Lib.hid (blk_up HB0.out hb); clear hb)
      | (go_at_call 145; (with_reducible refine (CM.out _).mono ?_); rintro e w6 ⟨rfl, hb⟩; have HB6 := Lib.hid (HB5.out.trans (hb.mono HB5.out.size)); have HC6 := Lib.hid (blk_up HC5.out hb); have c6 := box_cell HC6.out (i := 0) rfl; have c7 := box_cell HC6.out (i := 1) rfl; have f6 : w6.frozen? ⟨w.heap.size + 1, 0, none⟩ = false := blk_frozen HC6.out 0; have f7 : w6.frozen? ⟨w.heap.size + 1, 1, none⟩ = false := blk_frozen HC6.out 1; have y0 := box_cell (blk_up HY5.out hb) (i := 0) rfl; have y1 := box_cell (blk_up HY5.out hb) (i := 1) rfl; clear hb))
    have HC8 := Lib.hid (blk_set (blk_set HC6.out 0 (.int .i64 L1)) 1 (.int .u64 I3))
    have HB8 : Hid (Below w.heap.size w ((w6.setCell ⟨w.heap.size + 1, 0, none⟩ (.int .i64 L1)).setCell ⟨w.heap.size + 1, 1, none⟩ (.int .u64 I3))) := Lib.hid (by refine Below.setCell (Below.setCell HB6.out ?_ _) ?_ _ <;> simp)
    obtain ⟨w8, hw8⟩ : ∃ w8, (w6.setCell ⟨w.heap.size + 1, 0, none⟩ (.int .i64 L1)).setCell ⟨w.heap.size + 1, 1, none⟩ (.int .u64 I3) = w8 := ⟨_, rfl⟩
    rw [hw8] at HC8 HB8 ⊢
    have v0 := box_cell HC8.out (i := 0) (v := .int .i64 L1) (by simp)
    have v1 := box_cell HC8.out (i := 1) (v := .int .u64 I3) (by simp)
    refine bodyPost_ret (v := .tuple #[.agg #[.int .i64 L1, .int .u64 I3], .int .i64 KK, .bool KF]) (by simp [results, Tryz.results112, go_sem, v0, v1]) rfl ?_
    exact ⟨rfl, HB8.out⟩
end Go.Proofs.YtkflggojiiebeaaGreat.Qnt

namespace Go.Proofs.YtkflggojiiebeaaGreat.Qnt
open Go Go.RowKit Lw Grd Lin Con Shp Sk Exa Lev Stk Pcs Spn
set_option linter.unusedVariables false
set_option linter.unusedSimpArgs false
set_option maxRecDepth 100000 in
theorem results_way {tmps : Array Value} {g : Nat} {C : Int} {l : List (Nat × Nat)} {W : World} (h4 : tmps.getD 4 undef = .pointer (some ⟨g, 0, none⟩)) (h5 : tmps.getD 5 undef = .int .i64 C) (hb : W.heap[g]? = some (.cells (arrP l) 164 (0, 0))) :
    (results Tryz.f78 tmps).run Tryz.prog W = .ok (.tuple #[.agg (arrP l), .int .i64 C]) W := by
  refine (results_cell_tmp Tryz.results78 tmps Tryz.prog W).trans ?_
  rw [h4, h5]
  have h1 : (loadVar 164 ⟨g, 0, none⟩).run Tryz.prog W = .ok (.agg (arrP l)) W := run_loadVar_row _ _ _ _ (arrP l) (0, 0) _ hb way_und rfl (by rw [arrP_size]; exact way_size)
  have h2 : (asAddr (.pointer (some ⟨g, 0, none⟩))).run Tryz.prog W = .ok ⟨g, 0, none⟩ W := rfl
  rw [h2]
  show ((loadVar _ _).run _ W).andThen _ = _
  rw [h1]
  rfl
set_option maxRecDepth 100000 in
set_option maxHeartbeats 4000000 in
theorem qwalk_r1 (p : Addr) (F : Nat → Prop) (c : Cfg) (sts : List LS) (k : Int) (w : World) (h : ST w p F c sts) (h1 : k < 1) :
    Calls Tryz.prog 78 #[.pointer (some p), .int .i64 k] w fun e w' => e = .returned (.tuple #[.agg (arrP []), .int .i64 6]) ∧ Below w.heap.size w w' := by
  have hst : (storeCells ⟨w.heap.size, 0, none⟩ (Tryz.zeroCells164).toList 0).run Tryz.prog (w.alloc (.cells Tryz.zeroCells164 164)) = .ok () (w.alloc (.cells Tryz.zeroCells164 164)) := run_storeCells_new w _ _ _ (by rw [way_zero, arrP_size]; exact way_size) rfl (by rw [way_zero]; exact arrP_one _)
  have hz := way_zero
  have f1 : decide (k < 1) = true := decide_eq_true h1
  clear h
  have HZ := Lib.hid hz
  clear hz h1
  go_enter Tryz.func78, Tryz.ntmps78
  go_wp2
  go_step3
  go_wp2
  simp only [Exit.noGoto]
  refine bodyPost_ret (v := .tuple #[.agg (arrP []), .int .i64 6]) (results_way rfl rfl (by rw [← HZ.out]; exact heap_alloc_new w _)) rfl ?_
  exact ⟨rfl, Lw.below_alloc (Below.refl _ _) _⟩
theorem blk_set_ne {X : World} {b b2 : Nat} (h : b ≠ b2) (i : Nat) (v : Value) : (X.setCell ⟨b2, i, none⟩ v).heap[b]? = X.heap[b]? := by
  simp [World.setCell, Array.getElem?_modify, Ne.symm h]
theorem way_put {W : World} {g : Nat} {l : List (Nat × Nat)} (m : List (Nat × Nat)) (h : W.heap[g]? = some (.cells (arrP l) 164 (0, 0))) : (storeCells ⟨g, 0, none⟩ (arrP m).toList 0).run Tryz.prog W = .ok () (W.setRow g (arrP m)) := by
  have := run_storeVar_row (P := Tryz.prog) W g _ 164 (arrP l) (arrP m) h (by rw [arrP_size]; exact way_size) (by rw [arrP_size, arrP_size]) (arrP_one m)
  have hi := way_size
  cases hq : Tryz.prog.info? 164 with
  | none => simp [hq] at hi
  | some i =>
    have hs : (arrP m).size = i.size := by simp [hq] at hi; rw [arrP_size]; omega
    simpa [storeVar, sizeOf, typeInfo, hq, Value.cells, hs] using this
set_option maxRecDepth 100000 in
set_option maxHeartbeats 4000000 in
theorem qwalk_r2 (p : Addr) (F : Nat → Prop) (c : Cfg) (sts : List LS) (k : Int) (w : World) (h : ST w p F c sts) (h1 : ¬ k < 1) (h2 : spV c sts c.bt 0 < k) :
    Calls Tryz.prog 78 #[.pointer (some p), .int .i64 k] w fun e w' => e = .returned (.tuple #[.agg (arrP []), .int .i64 6]) ∧ Below w.heap.size w w' := by
  have hz := way_zero
  have B0 : Below w.heap.size w (w.alloc (.cells (arrP []) 164)) := Lw.below_alloc (Below.refl _ _) _
  have HS := Lib.hid (h.up B0)
  have CT := Lib.hid (fun w hs => cs_total p F c sts w hs)
  obtain ⟨TT, hTT⟩ : ∃ v, spV c sts c.bt 0 = v := ⟨_, rfl⟩
  rw [hTT] at CT h2
  have f1 : decide (k < 1) = false := decide_eq_false h1
  have f2 : decide (TT < k) = true := decide_eq_true h2
  clear h hTT h1 h2
  go_enter Tryz.func78, Tryz.ntmps78
  go_wp2
  go_step3
  go_wp2_with (go_at_call 38; (with_reducible refine (CT.out _ HS.out).mono ?_); rintro e w4 ⟨rfl, hb⟩; have HX := Lib.hid (blk_up (heap_alloc_new w (.cells (arrP []) 164)) hb); have hst := way_put [] HX.out; have HB4 := Lib.hid (B0.trans (hb.mono B0.size)); clear hb)
  simp only [Exit.noGoto]
  refine bodyPost_ret (v := .tuple #[.agg (arrP []), .int .i64 6]) (results_way rfl rfl (setRow_heap _ _ _ _ _ _ HX.out)) rfl ?_
  exact ⟨rfl, below_setRow HB4.out (Nat.le_refl _) _⟩
set_option maxRecDepth 100000 in
set_option maxHeartbeats 8000000 in
theorem qwalk_y (p : Addr) (F : Nat → Prop) (c : Cfg) (sts : List LS) (k : Int) (w : World) (h : ST w p F c sts) (h1 : 1 ≤ k) (h2 : k ≤ spV c sts c.bt 0) (k1 : k ≤ 9223372036854775807) :
    Calls Tryz.prog 78 #[.pointer (some p), .int .i64 k] w fun e w' => e = .returned (.tuple #[.agg (arrP (qnL c (fun L i => spV c sts (L : Int) i) k)), .int .i64 (qnC c (fun L i => spV c sts (L : Int) i) k)]) ∧ Below w.heap.size w w' := by
  have hr := h.1
  have hbt := hr.1
  have hbt2 := hr.2.1
  have etop : spV c sts ((c.bt.toNat : Nat) : Int) 0 = spV c sts c.bt 0 := by
    rw [show ((c.bt.toNat : Nat) : Int) = c.bt by omega]
  have HQY := Lib.hid (fun (l : List (Nat × Nat)) hw => qn_yes (c := c) (pt := (fun L i => spV c sts (L : Int) i)) (l := l) h1 (by rw [etop]; exact h2) hw)
  have HQN := Lib.hid (fun hw => qn_over (c := c) (pt := (fun L i => spV c sts (L : Int) i)) h1 (by rw [etop]; exact h2) hw)
  have hz := way_zero
  have B0 : Below w.heap.size w (w.alloc (.cells (arrP []) 164)) := Lw.below_alloc (Below.refl _ _) _
  have HS := Lib.hid (h.up B0)
  have HS0 := Lib.hid h
  have CT := Lib.hid (fun w hs => cs_total p F c sts w hs)
  have CC := Lib.hid (fun w hs => cs_config p F c sts w hs)
  have hfd := fld_btq c
  obtain ⟨TT, hTT⟩ : ∃ v, spV c sts c.bt 0 = v := ⟨_, rfl⟩
  rw [hTT] at CT h2
  obtain ⟨BB, hBB⟩ : ∃ B, c.bt.toNat = B := ⟨_, rfl⟩
  have hcb : c.bt = (BB : Int) := by omega
  have hb59 : BB ≤ 59 := by omega
  have HB59 := Lib.hid hb59
  have HBB := Lib.hid hBB
  have HCB := Lib.hid hcb
  have f1 : decide (k < 1) = false := decide_eq_false (by omega)
  have f2 : decide (TT < k) = false := decide_eq_false (by omega)
  have H1 := Lib.hid h1
  have K1 := Lib.hid k1
  clear h hr hbt hbt2 etop hTT h1 h2 k1 hBB hcb hb59
  go_enter Tryz.func78, Tryz.ntmps78
  go_wp2
  go_step3
  go_wp2_with (first
    | (go_at_call 38; (with_reducible refine (CT.out _ HS.out).mono ?_); rintro e w4 ⟨rfl, hb⟩; have HX := Lib.hid (blk_up (heap_alloc_new w (.cells (arrP []) 164)) hb); have HB4 := Lib.hid (B0.trans (hb.mono B0.size)); clear hb)
    | (go_at_call 53; (with_reducible refine (CC.out _ (HS0.out.up (HB4.out.alloc HB4.out.size _))).mono ?_); rintro e w5 ⟨rfl, hb⟩; have HB5 := Lib.hid ((HB4.out.alloc HB4.out.size (.cells (arrP []) 164)).trans (hb.mono (HB4.out.alloc HB4.out.size (.cells (arrP []) 164)).size)); have HX5 := Lib.hid (blk_up (blk_alloc (p := .cells (arrP []) 164) HX.out) hb); have HY5 := Lib.hid (blk_up (heap_alloc_new w4 (.cells (arrP []) 164)) hb); clear hb))
  have hs4 := HB4.out.size
  have hlt6 : w.heap.size < w4.heap.size := (Array.getElem?_eq_some_iff.1 HX.out).1
  have hlt7 : w4.heap.size < w5.heap.size := (Array.getElem?_eq_some_iff.1 HY5.out).1
  have HX7 := Lib.hid (blk_alloc (p := .cells #[.int .i64 c.bt, .int .u64 0] 82) HX5.out)
  have HY7 := Lib.hid (blk_alloc (p := .cells #[.int .i64 c.bt, .int .u64 0] 82) HY5.out)
  have HZ7 := Lib.hid (heap_alloc_new w5 (.cells #[.int .i64 c.bt, .int .u64 0] 82))
  have HB7 := Lib.hid (HB5.out.alloc HB5.out.size (.cells #[.int .i64 c.bt, .int .u64 0] 82))
  obtain ⟨W, hW⟩ : ∃ W, w5.alloc (.cells #[.int .i64 c.bt, .int .u64 0] 82) = W := ⟨_, rfl⟩
  rw [hW] at HX7 HY7 HZ7 HB7 ⊢
  obtain ⟨g6, hg6⟩ : ∃ g, w4.heap.size = g := ⟨_, rfl⟩
  obtain ⟨g7, hg7⟩ : ∃ g, w5.heap.size = g := ⟨_, rfl⟩
  rw [hg6] at HY7 hlt6 hlt7 ⊢
  rw [hg7] at HZ7 hlt7 ⊢
  rw [HCB.out] at HZ7
  have n67 : g6 ≠ g7 := by omega
  have n76 : g7 ≠ g6 := by omega
  have n46 : w.heap.size ≠ g6 := by omega
  have n47 : w.heap.size ≠ g7 := by omega
  have N := Lib.hid (And.intro n67 (And.intro n76 (And.intro n46 (And.intro n47 (And.intro hlt6 hlt7)))))
  clear hW hg6 hg7 HX HB4 HX5 HY5 HB5 hs4 hlt6 hlt7 n67 n76 n46 n47 f1 f2 hfd
  go_step3
  go_wp2
  go_loopw [1, 8, 23] (fun s1 s8 s23 wr => ∃ (j L i : Nat) (kk : Int) (ff : Bool) (xs : List (Nat × Nat)), s1 = .int .i64 kk ∧ s8 = .bool ff ∧ s23 = .int .i64 (j : Int) ∧ L + j = BB ∧ xs.length = j ∧ i < 2 ^ (BB - L) ∧ -9223372036854775808 ≤ kk ∧ kk ≤ 9223372036854775807 ∧ wr.heap[w.heap.size]? = some (.cells (arrP []) 164 (0, 0)) ∧ wr.heap[g6]? = some (.cells (arrP xs) 164 (0, 0)) ∧ wr.heap[g7]? = some (.cells #[.int .i64 (L : Int), .int .u64 (i : Int)] 82 (0, 0)) ∧ Below w.heap.size w wr ∧ (ff = true → wayQ (fun L i => spV c sts (L : Int) i) BB 0 k = (wayQ (fun L i => spV c sts (L : Int) i) L i kk).map (fun l => xs ++ l)) ∧ (ff = false → wayQ (fun L i => spV c sts (L : Int) i) BB 0 k = none)) (fun _ _ s23 _ => 60 - (intOf s23).toNat)
  case atStart => exact ⟨0, BB, 0, k, true, [], rfl, rfl, rfl, rfl, rfl, Nat.two_pow_pos _, by have := H1.out; omega, K1.out, HX7.out, HY7.out, HZ7.out, HB7.out, (fun _ => by simp), (fun e => by cases e)⟩
  case round =>
    obtain ⟨j, L, i, kk, ff, xs, rfl, rfl, rfl, hLj, hxs, hi, hk0, hk1, hx4, hx6, hx7, hbw, hy, hn⟩ := hrel
    have HY := Lib.hid hy
    have HN := Lib.hid hn
    have HX4 := Lib.hid hx4
    have HX6 := Lib.hid hx6
    have HX8 := Lib.hid hx7
    have HBW := Lib.hid hbw
    have HLJ := Lib.hid hLj
    have HXS := Lib.hid hxs
    have HI := Lib.hid hi
    have HK := Lib.hid (And.intro hk0 hk1)
    have b59 := HB59.out
    have j60 : (j : Int) < 60 := by omega
    have j60n : j < 60 := by omega
    have j0 : (0 : Int) ≤ (j : Int) := by omega
    obtain ⟨n67, n76, n46, n47, hlt6, hlt7⟩ := N.out
    have q0 := box_cell hx7 (i := 0) rfl
    have q1 := box_cell hx7 (i := 1) rfl
    have e0 := box_cell hx6 (i := j * 2) (arrP_get (by omega))
    have e1 := box_cell hx6 (i := j * 2 + 1) (arrP_get (by omega))
    have z0 : wr.frozen? ⟨g6, j * 2, none⟩ = false := blk_frozen hx6 _
    have z1 : wr.frozen? ⟨g6, j * 2 + 1, none⟩ = false := blk_frozen hx6 _
    clear hy hn hx4 hx6 hx7 hbw hLj hxs hi hk0 hk1 b59 hlt6 hlt7 n46 n47
    go_upto_region 9 with fail
    have hx61 := blk_set (blk_set HX6.out (j * 2) (.int .i64 (L : Int))) (j * 2 + 1) (.int .u64 (i : Int))
    rw [arrP_set HXS.out j60n] at hx61
    have HX61 := Lib.hid hx61
    have HX41 := Lib.hid ((blk_set_ne (X := wr.setCell ⟨g6, j * 2, none⟩ (.int .i64 (L : Int))) (b := w.heap.size) (b2 := g6) N.out.2.2.1 (j * 2 + 1) (.int .u64 (i : Int))).trans ((blk_set_ne (X := wr) (b := w.heap.size) (b2 := g6) N.out.2.2.1 (j * 2) (.int .i64 (L : Int))).trans HX4.out))
    have HX71 := Lib.hid ((blk_set_ne (X := wr.setCell ⟨g6, j * 2, none⟩ (.int .i64 (L : Int))) (b := g7) (b2 := g6) N.out.2.1 (j * 2 + 1) (.int .u64 (i : Int))).trans ((blk_set_ne (X := wr) (b := g7) (b2 := g6) N.out.2.1 (j * 2) (.int .i64 (L : Int))).trans HX8.out))
    have HB1 : Hid (Below w.heap.size w ((wr.setCell ⟨g6, j * 2, none⟩ (.int .i64 (L : Int))).setCell ⟨g6, j * 2 + 1, none⟩ (.int .u64 (i : Int)))) := Lib.hid (by refine Below.setCell (Below.setCell HBW.out ?_ _) ?_ _ <;> exact Nat.le_of_lt N.out.2.2.2.2.1)
    obtain ⟨W1, hW1⟩ : ∃ W1, (wr.setCell ⟨g6, j * 2, none⟩ (.int .i64 (L : Int))).setCell ⟨g6, j * 2 + 1, none⟩ (.int .u64 (i : Int)) = W1 := ⟨_, rfl⟩
    rw [hW1] at hx61 HX61 HX41 HX71 HB1 ⊢
    clear hW1 hx61 q0 q1 e0 e1 z0 z1 HX6 HX4 HX8 HBW
    cases ff with
    | false =>
      have hst := way_put [] HX41.out
      have hq := HQN.out (by rw [HBB.out]; exact HN.out rfl)
      have HQ := Lib.hid hq
      clear hq
      go_wp2
      refine bodyPost_ret (v := .tuple #[.agg (arrP []), .int .i64 4]) (results_way rfl rfl (setRow_heap _ _ _ _ _ _ HX41.out)) rfl ?_
      rw [HQ.out.1, HQ.out.2.1]
      exact ⟨rfl, below_setRow HB1.out (Nat.le_refl _) _⟩
    | true =>
      have HY1 := Lib.hid (HY.out rfl)
      have q0 := box_cell HX71.out (i := 0) rfl
      have q1 := box_cell HX71.out (i := 1) rfl
      cases L with
      | zero =>
        have hq := HQY.out (xs ++ [(0, i)]) (by rw [HBB.out]; exact HY1.out)
        have hst := way_put (xs ++ [(0, i)]) HX41.out
        have HQ := Lib.hid hq
        clear hq
        go_upto_region 14 with fail
        apply wp_region_lit
        refine wpList_load_row rfl 164 _ rfl g6 rfl _ (arrP (xs ++ [(0, i)])) (0, 0) _ HX61.out way_und rfl (by rw [arrP_size]; exact way_size) ?_
        go_wp2
        refine bodyPost_ret (v := .tuple #[.agg (arrP (xs ++ [(0, i)])), .int .i64 0]) (results_way rfl rfl (setRow_heap _ _ _ _ _ _ HX41.out)) rfl ?_
        rw [HQ.out.1, HQ.out.2.1]
        exact ⟨rfl, below_setRow HB1.out (Nat.le_refl _) _⟩
      | succ L =>
        have hLj := HLJ.out
        have hi := HI.out
        have hcb := HCB.out
        have hb59 := HB59.out
        have hkb := HK.out
        have hpw : BB - L = (BB - (L + 1)) + 1 := by omega
        have hp2 : 2 ^ (BB - L) = 2 * 2 ^ (BB - (L + 1)) := by rw [hpw, Nat.pow_succ, Nat.mul_comm]
        have hP : isP c.bt ((L : Int) + 1) (i : Int) = true := by
          have e : (c.bt - ((L : Int) + 1)).toNat = BB - (L + 1) := by omega
          refine decide_eq_true ⟨by omega, by omega, by omega, by omega, ?_⟩
          rw [e]
          unfold p2
          omega
        have e1 : ((L : Int) + 1) - 1 = (L : Int) := by omega
        have e2 : 2 * (i : Int) = ((2 * i : Nat) : Int) := by omega
        have hvb := sp_in16 HS0.out (L : Int) ((2 * i : Nat) : Int)
        obtain ⟨VV, hVV⟩ : ∃ v, spV c sts (L : Int) ((2 * i : Nat) : Int) = v := ⟨_, rfl⟩
        rw [hVV] at hvb
        have hV2 : spV c sts (((L : Int) + 1) - 1) (2 * (i : Int)) = VV := by rw [e1, e2]; exact hVV
        have HSW := Lib.hid (HS0.out.up HB1.out)
        obtain ⟨I2, hI2⟩ : ∃ I2, 2 * i = I2 := ⟨_, rfl⟩
        by_cases hle : kk ≤ VV
        · have CH := Lib.hid (qhalf_l p F c sts ((L : Int) + 1) (i : Int) VV kk W1 HSW.out hP (by omega) (by omega) hV2 hle)
          have HW2 := Lib.hid (wayQ_left (pt := (fun L i => spV c sts (L : Int) i)) (L := L) (i := i) (k := kk) (by rw [← hVV] at hle; exact hle))
          rw [e1, e2, hI2] at CH
          rw [hI2] at HW2
          have HI2 : Hid (I2 < 2 ^ (BB - L)) := Lib.hid (by omega)
          have HLJ2 : Hid (L + (j + 1) = BB) := Lib.hid (by omega)
          have hlp : ¬ ((L + 1 : Nat) : Int) = 0 := by omega
          have hlq : (((L + 1 : Nat) : Int) == 0) = false := by simpa using hlp
          clear hLj hi hcb hb59 hkb hpw hp2 hP e1 e2 hvb hVV hV2 hI2 hle
          go_wp2_with (go_at_call 112; (with_reducible refine CH.out.mono ?_); rintro e w6 ⟨rfl, hb⟩; have HC6 := Lib.hid (blk_up HX71.out hb); have HD6 := Lib.hid (blk_up HX61.out hb); have HE6 := Lib.hid (blk_up HX41.out hb); have HB6 := Lib.hid (HB1.out.trans (hb.mono HB1.out.size)); have c6 := box_cell HC6.out (i := 0) rfl; have c7 := box_cell HC6.out (i := 1) rfl; have f6 : w6.frozen? ⟨g7, 0, none⟩ = false := blk_frozen HC6.out 0; have f7 : w6.frozen? ⟨g7, 1, none⟩ = false := blk_frozen HC6.out 1; clear hb)
          go_roundw
          case rel => exact ⟨j + 1, L, I2, kk, true, xs ++ [(L + 1, i)], rfl, rfl, by go_num, HLJ2.out, by rw [List.length_append, HXS.out]; rfl, HI2.out, HK.out.1, HK.out.2, (blk_set_ne N.out.2.2.2.1 _ _).trans ((blk_set_ne N.out.2.2.2.1 _ _).trans HE6.out), (blk_set_ne N.out.1 _ _).trans ((blk_set_ne N.out.1 _ _).trans HD6.out), by have := blk_set (blk_set HC6.out 0 (.int .i64 (L : Int))) 1 (.int .u64 (I2 : Int)); simpa using this, (by refine Below.setCell (Below.setCell HB6.out ?_ _) ?_ _ <;> exact Nat.le_of_lt (Nat.lt_trans N.out.2.2.2.2.1 N.out.2.2.2.2.2)), (fun _ => way_push HY1.out HW2.out), (fun e => by cases e)⟩
          case measure => simp [intOf]; omega
        · have hvm := hvb.1
          have CH := Lib.hid (qhalf_r p F c sts ((L : Int) + 1) (i : Int) VV kk W1 HSW.out hP (by omega) (by omega) hV2 hle hkb.2 hvm)
          have hle2 : ¬ kk ≤ spV c sts (L : Int) ((2 * i : Nat) : Int) := by rw [hVV]; exact hle
          have HW2 := Lib.hid (fun hf => wayQ_right (pt := (fun L i => spV c sts (L : Int) i)) (L := L) (i := i) (k := kk) hle2 hf)
          have HW3 := Lib.hid (fun hf => wayQ_none (pt := (fun L i => spV c sts (L : Int) i)) (L := L) (i := i) (k := kk) hle2 hf)
          rw [hVV] at HW2 HW3
          have e3 : 2 * (i : Int) + 1 = ((2 * i + 1 : Nat) : Int) := by omega
          rw [e1, e3] at CH
          obtain ⟨I3, hI3⟩ : ∃ I3, 2 * i + 1 = I3 := ⟨_, rfl⟩
          rw [hI3] at CH HW2
          have HI2 : Hid (I3 < 2 ^ (BB - L)) := Lib.hid (by omega)
          have HLJ2 : Hid (L + (j + 1) = BB) := Lib.hid (by omega)
          have hlp : ¬ ((L + 1 : Nat) : Int) = 0 := by omega
          have hlq : (((L + 1 : Nat) : Int) == 0) = false := by simpa using hlp
          obtain ⟨FF, hFF⟩ : ∃ v, Wid.fit64 (kk - VV) = v := ⟨_, rfl⟩
          obtain ⟨KN, hKN⟩ : ∃ v, Wid.f64 (kk - VV) = v := ⟨_, rfl⟩
          rw [hFF, hKN] at CH
          have HFT : Hid (FF = true → kk - VV = KN ∧ -9223372036854775808 ≤ KN ∧ KN ≤ 9223372036854775807) := Lib.hid (fun e => by
            rw [e] at hFF
            have h5 := of_decide_eq_true hFF
            have h6 : KN = kk - VV := by rw [← hKN]; unfold Wid.f64; rw [hFF]; rfl
            omega)
          have HFN : Hid (FF = false → KN = 0) := Lib.hid (fun e => by
            rw [e] at hFF
            rw [← hKN]
            unfold Wid.f64
            rw [hFF]
            rfl)
          have HFE := Lib.hid hFF
          clear hLj hi hcb hb59 hkb hpw hp2 hP e1 e2 e3 hvb hvm hVV hV2 hI2 hI3 hle hle2 hFF hKN
          go_wp2_with (go_at_call 112; (with_reducible refine CH.out.mono ?_); rintro e w6 ⟨rfl, hb⟩; have HC6 := Lib.hid (blk_up HX71.out hb); have HD6 := Lib.hid (blk_up HX61.out hb); have HE6 := Lib.hid (blk_up HX41.out hb); have HB6 := Lib.hid (HB1.out.trans (hb.mono HB1.out.size)); have c6 := box_cell HC6.out (i := 0) rfl; have c7 := box_cell HC6.out (i := 1) rfl; have f6 : w6.frozen? ⟨g7, 0, none⟩ = false := blk_frozen HC6.out 0; have f7 : w6.frozen? ⟨g7, 1, none⟩ = false := blk_frozen HC6.out 1; clear hb)
          go_roundw
          case rel =>
            have hkn : -9223372036854775808 ≤ KN ∧ KN ≤ 9223372036854775807 := by
              cases FF with
              | true => exact (HFT.out rfl).2
              | false => rw [HFN.out rfl]; omega
            exact ⟨j + 1, L, I3, KN, FF, xs ++ [(L + 1, i)], rfl, rfl, by go_num, HLJ2.out, by rw [List.length_append, HXS.out]; rfl, HI2.out, hkn.1, hkn.2, (blk_set_ne N.out.2.2.2.1 _ _).trans ((blk_set_ne N.out.2.2.2.1 _ _).trans HE6.out), (blk_set_ne N.out.1 _ _).trans ((blk_set_ne N.out.1 _ _).trans HD6.out), by have := blk_set (blk_set HC6.out 0 (.int .i64 (L : Int))) 1 (.int .u64 (I3 : Int)); simpa using this, (by refine Below.setCell (Below.setCell HB6.out ?_ _) ?_ _ <;> exact Nat.le_of_lt (Nat.lt_trans N.out.2.2.2.2.1 N.out.2.2.2.2.2)), (fun e => by rw [← (HFT.out e).1]; exact way_push HY1.out (HW2.out (by rw [HFE.out]; exact e))), (fun e => by rw [HY1.out, HW3.out (by rw [HFE.out]; exact e)]; rfl)⟩
          case measure => simp [intOf]; omega
theorem qwalk_any (p : Addr) (F : Nat → Prop) (c : Cfg) (sts : List LS) (k : Int) (w : World) (h : ST w p F c sts) (k1 : k ≤ 9223372036854775807) :
    Calls Tryz.prog 78 #[.pointer (some p), .int .i64 k] w fun e w' => e = .returned (.tuple #[.agg (arrP (qnL c (fun L i => spV c sts (L : Int) i) k)), .int .i64 (qnC c (fun L i => spV c sts (L : Int) i) k)]) ∧ Below w.heap.size w w' := by
  have hbt := h.1.1
  have etop : spV c sts ((c.bt.toNat : Nat) : Int) 0 = spV c sts c.bt 0 := by
    rw [show ((c.bt.toNat : Nat) : Int) = c.bt by omega]
  by_cases h1 : k < 1
  · have hq := qn_rank (c := c) (pt := (fun L i => spV c sts (L : Int) i)) (k := k) (.inl h1)
    rw [hq.1, hq.2.1]
    exact qwalk_r1 p F c sts k w h h1
  · by_cases h2 : spV c sts c.bt 0 < k
    · have hq := qn_rank (c := c) (pt := (fun L i => spV c sts (L : Int) i)) (k := k) (.inr (by rw [etop]; exact h2))
      rw [hq.1, hq.2.1]
      exact qwalk_r2 p F c sts k w h h1 h2
    · exact qwalk_y p F c sts k w h (by omega) (by omega) k1
end Go.Proofs.YtkflggojiiebeaaGreat.Qnt

namespace Go.Proofs.YtkflggojiiebeaaGreat.Qnt
open Go Go.RowKit Lw Grd Lin Con Shp Sk Exa Lev Stk Pcs Spn
set_option linter.unusedVariables false
set_option linter.unusedSimpArgs false
theorem qn_at {c : Cfg} (pt : Nat → Int → Int) (k : Int) : celP (qnL c pt k) (c.bt.toNat * 2 + 1) = .int .u64 (qnV c pt k) := by
  by_cases h : qnC c pt k = 0
  · have h2 : k < 1 ∨ pt c.bt.toNat 0 < k → False := fun h3 => by
      have := (qn_rank (c := c) (pt := pt) h3).1
      omega
    have h4 : ¬ (k < 1 ∨ pt c.bt.toNat 0 < k) := h2
    cases hw : wayQ pt c.bt.toNat 0 k with
    | none =>
      have := (qn_over (c := c) (pt := pt) (k := k) (by omega) (by omega) hw).1
      omega
    | some l =>
      obtain ⟨-, e2, e3⟩ := qn_yes (c := c) (pt := pt) (k := k) (by omega) (by omega) hw
      rw [e2, e3, celP_ix (wayQ_path hw).last]
  · have e2 : qnL c pt k = [] := by unfold qnL; rw [if_neg h]
    have e3 : qnV c pt k = 0 := by unfold qnV; rw [e2]; rfl
    rw [e2, e3, celP_nil_ix]
set_option maxRecDepth 100000 in
set_option maxHeartbeats 4000000 in
theorem qn_quant (p : Addr) (F : Nat → Prop) (c : Cfg) (sts : List LS) (k : Int) (w : World) (h : ST w p F c sts) (k0 : -9223372036854775808 ≤ k) (k1 : k ≤ 9223372036854775807) :
    Calls Tryz.prog 39 #[.pointer (some p), .int .i64 k] w fun e w' => e = .returned (.tuple #[.int .u64 (qnV c (fun L i => spV c sts (L : Int) i) k), .int .i64 (qnC c (fun L i => spV c sts (L : Int) i) k)]) ∧ Below w.heap.size w w' := by
  have hz := way_zero
  have hb1 := h.1.1
  have hb2 := h.1.2.1
  have HS := Lib.hid h
  have CW := Lib.hid (fun w hs => qwalk_any p F c sts k w hs k1)
  have CC := Lib.hid (fun w hs => cs_config p F c sts w hs)
  have HA := Lib.hid (qn_at (c := c) (fun L i => spV c sts (L : Int) i) k)
  have hfd := fld_btq c
  obtain ⟨QL, hQL⟩ : ∃ l, qnL c (fun L i => spV c sts (L : Int) i) k = l := ⟨_, rfl⟩
  obtain ⟨QC, hQC⟩ : ∃ l, qnC c (fun L i => spV c sts (L : Int) i) k = l := ⟨_, rfl⟩
  obtain ⟨QV, hQV⟩ : ∃ l, qnV c (fun L i => spV c sts (L : Int) i) k = l := ⟨_, rfl⟩
  rw [hQL, hQV] at HA
  rw [hQL, hQC] at CW
  rw [hQC, hQV]
  have i0 : 0 ≤ c.bt := by omega
  have i1 : c.bt < 60 := by omega
  have HJ : Hid (c.bt.toNat * 2 + 1 < 120) := Lib.hid (by omega)
  clear h hQL hQC hQV hb1 hb2 k0 k1
  go_enter Tryz.func39, Tryz.ntmps39
  go_wp2_with (first
    | (go_at_call 78; (with_reducible refine (CW.out _ HS.out).mono ?_); rintro e w1 ⟨rfl, hb⟩; have HB1 := Lib.hid hb; have HB2 := Lib.hid (hb.alloc hb.size (.cells (arrP QL) 164)); have HX2 := Lib.hid (heap_alloc_new w1 (.cells (arrP QL) 164)); have hst := run_storeCells_new (P := Tryz.prog) w1 164 (arrP []) (arrP QL) (by rw [arrP_size]; exact way_size) (by rw [arrP_size, arrP_size]) (arrP_one QL); clear hb)
    | (go_at_call 53; (with_reducible refine (CC.out _ (HS.out.up HB2.out)).mono ?_); rintro e w5 ⟨rfl, hb⟩; have hx5 := box_cell (blk_up HX2.out hb) (i := c.bt.toNat * 2 + 1) (arrP_get HJ.out); rw [HA.out] at hx5; have HB5 := Lib.hid (HB2.out.trans (hb.mono HB2.out.size)); clear hb))
  go_ret2
  exact ⟨rfl, HB5.out⟩
end Go.Proofs.YtkflggojiiebeaaGreat.Qnt

namespace Go.Proofs.YtkflggojiiebeaaGreat.Stk
open Go Go.RowKit Lw Grd Lin Con Shp Sk Exa Lev Go.Shelf
set_option linter.unusedVariables false
set_option linter.unusedSimpArgs false
abbrev cfB (b : Nat) (c : Cfg) : Thing := boxT b 24 #[.int .i64 c.bt, .int .i64 c.rw, .int .i64 c.wd, .int .i64 c.md, .int .u64 c.sd]
set_option maxRecDepth 100000 in
set_option maxHeartbeats 2000000 in
theorem cs_new (c : Cfg) (w : World) (h : c.Ok) (hr : IsRight c) :
    Calls Tryz.prog 13 #[.agg #[.int .i64 c.bt, .int .i64 c.rw, .int .i64 c.wd, .int .i64 c.md, .int .u64 c.sd]] w fun e w' => ∃ (p : Addr) (F : Nat → Prop), e = .returned (.tuple #[.pointer (some p), .int .i64 0]) ∧ ST w' p F c (stsOf c []) ∧ (∀ k, F k → w.heap.size ≤ k) ∧ Below w.heap.size w w' := by
  have HO := Lib.hid h
  have HR := Lib.hid hr
  have hm : right c = true := decide_eq_true hr
  have hb1 := hr.1
  have hb2 := hr.2.1
  obtain ⟨j0, hj, hy0, hy1, hy2⟩ := info_parts lvs_info
  have HJ := Lib.hid hj
  have HB1 := Lib.hid ((HoldC.start0 (Below.refl _ w)).push (cfB w.heap.size c) (Lw.below_alloc (Below.refl _ _) _) (heap_alloc_new w _) (fun k hk => Nat.le_of_eq hk.symm) (cel_box (heap_alloc_new w _)))
  clear h hr hj
  go_enter Tryz.func13, Tryz.ntmps13
  go_wp2_with (go_at_call 43; (with_reducible refine (right_any c _ HO.out).mono ?_); rintro e w1 ⟨rfl, hb⟩; rw [hm]; have HV1 := Lib.hid (HB1.out.up hb); clear hb; have g0 := box_cell (HV1.out.i (t := cfB w.heap.size c) (by simp)) (i := 0) rfl; have g1 := box_cell (HV1.out.i (t := cfB w.heap.size c) (by simp)) (i := 1) rfl; have g2 := box_cell (HV1.out.i (t := cfB w.heap.size c) (by simp)) (i := 2) rfl; have g3 := box_cell (HV1.out.i (t := cfB w.heap.size c) (by simp)) (i := 3) rfl; have g4 := box_cell (HV1.out.i (t := cfB w.heap.size c) (by simp)) (i := 4) rfl; have q0 := cell_up g0 (Lw.below_alloc (Below.refl _ w1) (.cells #[.int .i64 c.bt, .int .i64 c.rw, .int .i64 c.wd, .int .i64 c.md, .int .u64 c.sd, .slice none 0 0] 105)))
  have HS := Lib.hid ((HV1.out.push (ownT w.heap.size 107 (.slice none 0 0) []) (Below.refl _ _) (own_nil _ _ _) (fun k hk => own_nilF _ _ hk) (cel_own (own_nil _ _ _))).push (skB w1.heap.size c (.slice none 0 0)) (Lw.below_alloc (Below.refl _ _) _) (heap_alloc_new w1 _) (fun k hk => Nat.le_of_eq hk.symm) (cel_box (heap_alloc_new w1 _)))
  clear g0 g1 g2 g3 g4 q0
  obtain ⟨b, hbq⟩ : ∃ b, w1.heap.size = b := ⟨_, rfl⟩
  rw [hbq] at HS ⊢
  clear hbq
  go_loopw [17] (fun i wr => ∃ (n : Nat) (hdr : Value) (vals : List Value) (ts : List Thing) (sts : List LS), (n : Int) ≤ c.bt + 1 ∧ i = .int .i64 n ∧ LRow elvT c vals ts sts ∧ sts.length = n ∧ (∀ j, j < n → sts[j]? = some (lsZero c j)) ∧ HoldC (fun _ => False) w wr (skB b c hdr :: ownT w.heap.size 107 hdr vals :: cfB w.heap.size c :: ts)) (fun i _ => (c.bt + 1).toNat - (intOf i).toNat)
  case atStart => exact ⟨0, .slice none 0 0, [], [], [], by omega, rfl, LRow.nil _ _, rfl, fun j hj => by omega, HS.out⟩
  case round =>
    obtain ⟨n, hdr, vals, ts, sts, hn, rfl, hrow, hsl, hsj, hv⟩ := hrel
    have HROW := Lib.hid hrow
    have HSL := Lib.hid hsl
    have HSJ := Lib.hid hsj
    have HV := Lib.hid hv
    have LV := Lib.hid (hrow.lv.trans hsl)
    have g0 := box_cell (hv.i (t := cfB w.heap.size c) (by simp)) (i := 0) rfl
    have g1 := box_cell (hv.i (t := cfB w.heap.size c) (by simp)) (i := 1) rfl
    have g2 := box_cell (hv.i (t := cfB w.heap.size c) (by simp)) (i := 2) rfl
    have g3 := box_cell (hv.i (t := cfB w.heap.size c) (by simp)) (i := 3) rfl
    have g4 := box_cell (hv.i (t := cfB w.heap.size c) (by simp)) (i := 4) rfl
    clear hrow hsl hsj hv
    by_cases hlt : (n : Int) < c.bt + 1
    · go_wp2_with (first
        | (go_at_call 44; (with_reducible refine (ev_new c n _ HO.out HR.out (by omega) (by omega)).mono ?_); rintro e w2 ⟨v, Q, rfl, hE, hQ, hb⟩; obtain ⟨ty, pv, rfl⟩ := elv_form hE; have HV2 := Lib.hid (HV.out.snoc (elvT (.iface ty (.pointer (some pv))) Q c n (lsZero c n)) hb hE hQ (cel_elv hE)); have x5 := box_cell (HV2.out.i (t := skB b c hdr) (by simp)) (i := 5) rfl; clear hb hE hQ)
        | (at_builtin; (refine app_val rfl _ _ 103 rfl w.heap.size 107 j0 .nilIface 16 lvs_u HJ.out hy0 hy1 hy2 rfl hdr n vals rfl (by have h7 := (HV2.out.up (Lw.below_alloc (Below.refl _ w2) (.cells #[.iface ty (.pointer (some pv))] 107))).i (t := ownT w.heap.size 107 hdr vals) (by simp); have h8 : World.ownsRow _ _ _ _ hdr vals.length vals := h7; rw [LV.out] at h8; exact h8) (.iface ty (.pointer (some pv))) w2.heap.size rfl (cell_one_new _ _ _) rfl (by unfold maxLen; omega) (by omega) (by have h9 := HV2.out.1.1.size; simp; omega) ?_); intro g6 cap6 w3 own6 grow6 hat6 hl6; have HV3 := Lib.hid (HoldC.app (fs := [skB b c hdr]) (HV2.out.up (Lw.below_alloc (Below.refl _ w2) (.cells #[.iface ty (.pointer (some pv))] 107))) (by rw [LV.out]; exact own6) grow6 hat6); have y5 := box_cell (HV3.out.i (t := skB b c hdr) (by simp)) (i := 5) rfl; have z5 : w3.frozen? ⟨b, 5, none⟩ = false := frozen_of_row w3 b 5 _ _ (HV3.out.i (t := skB b c hdr) (by simp))))
      go_roundw
      case rel =>
        refine ⟨n + 1, .slice (some ⟨g6, 0, none⟩) (n + 1) cap6, vals ++ [.iface ty (.pointer (some pv))], ts ++ [elvT (.iface ty (.pointer (some pv))) Q c n (lsZero c n)], sts ++ [lsZero c n], by omega, by go_num, HROW.out.snoc HSL.out _ Q _, by simp [HSL.out], fun j hj => ?_, ?_⟩
        · by_cases hj2 : j < n
          · rw [List.getElem?_append_left (by rw [HSL.out]; exact hj2)]
            exact HSJ.out j hj2
          · obtain rfl : j = n := by omega
            rw [List.getElem?_append_right (by rw [HSL.out]; exact Nat.le_refl _), HSL.out, Nat.sub_self]
            rfl
        · have h9 := HoldC.store (fs := []) HV3.out (.slice (some ⟨g6, 0, none⟩) (vals.length + 1) cap6)
          rw [LV.out] at h9
          exact h9
      case measure => simp [intOf]; omega
    · go_wp2
      go_ret2
      have he : n = c.bt.toNat + 1 := by omega
      subst he
      obtain ⟨s1, s2, s3⟩ := st_of HR.out HO.out HSL.out HROW.out (HV.out.sub (.cons_cons _ (.cons_cons _ (.cons _ (List.Sublist.refl _)))))
      have e9 : sts = stsOf c [] := List.ext_getElem? (fun j => by
        by_cases hj : j < c.bt.toNat + 1
        · rw [HSJ.out j hj, stsOf_get hj, stOf_nil]
        · rw [List.getElem?_eq_none (by rw [HSL.out]; omega), List.getElem?_eq_none (by rw [stsOf_len]; omega)])
      rw [e9] at s1
      exact ⟨_, rfl, _, s1, fun k hk => (s3 k hk).elim (fun h => h.elim) id, s2.below⟩
end Go.Proofs.YtkflggojiiebeaaGreat.Stk

namespace Go.Proofs.YtkflggojiiebeaaGreat.Spn
open Go Go.RowKit Lw Grd Lin Con Shp Sk Exa Lev Stk Pcs Go.Shelf
set_option linter.unusedVariables false
set_option linter.unusedSimpArgs false
attribute [local go_sem] Oper.semAt_some
theorem sp64_info : (Tryz.prog.info? 2).map (fun i => (i.zero, i.size, i.bytes)) = some (some (.int .i64 0), 1, 8) := by kernel_rfl
theorem sp64s_u : Tryz.prog.underlying 54 = some (.slice 2) := by kernel_rfl
theorem told_any (p : Addr) (A : Option Addr) (n cap : Nat) (w : World) :
    Calls Tryz.prog 115 #[.pointer (some p), .slice A n cap] w fun e w' => e = .returned (.func (.func 147) #[] #[.pointer (some ⟨w.heap.size + 1, 0, none⟩), .pointer (some ⟨w.heap.size, 0, none⟩)]) ∧ w' = (w.alloc (.cells #[.pointer (some p)] 30)).alloc (.cells #[.slice A n cap] 118) := by
  go_enter Tryz.func115, Tryz.ntmps115
  go_wp2
  go_ret
  exact ⟨rfl, rfl⟩
/-- What a round is handed. -/
def encP (c : Cfg) (sts : List LS) (qs : List (Nat × Nat)) (x : Lof qs.length) : Array Value := #[.int .i64 (spV c sts ((qs[x.1]'x.2).1 : Int) ((qs[x.1]'x.2).2 : Int))]
theorem ints_at {qs : List (Nat × Nat)} {j : Nat} {q : Nat × Nat} (h : qs[j]? = some q) : (ints qs)[j]? = some ((q.1 : Int), (q.2 : Int)) := by
  unfold ints
  rw [List.getElem?_map, h]
  rfl
set_option maxRecDepth 100000 in
set_option maxHeartbeats 2000000 in
theorem told_iter (m : Nat) (hm : 1 ≤ m) (c : Cfg) (sts : List LS) (p : Addr) (Fs H : Nat → Prop) (l ba bs n cap : Nat) (A : Option Addr) (qs : List (Nat × Nat)) (hN : qs.length ≤ 1000) (J Jx : List (Lof qs.length) → World → Prop)
    (W : World) (hJ : AbidesFrom W.heap.size J)
    (hY : ∀ pre x W, J pre W → pre.length < qs.length → YieldAt Fence.wide (m - 1) Tryz.prog l (encP c sts qs x) W fun e W' => (e = .returned (.bool true) ∧ J (pre ++ [x]) W' ∧ Kept H W W') ∨ (e = .returned (.bool false) ∧ Jx (pre ++ [x]) W'))
    (hst : ST W p Fs c sts) (hF : ∀ k, Fs k → ¬ H k) (h1 : W.cell? ⟨ba, 0, none⟩ = some (.slice A n cap)) (hba : ¬ H ba) (h2 : W.cell? ⟨bs, 0, none⟩ = some (.pointer (some p))) (hbs : ¬ H bs)
    (h3 : (pcT A n cap (ints qs)).I W) (hpc : ∀ k, (pcT A n cap (ints qs)).F k → ¬ H k) (h0 : J [] W) :
    CallsIn Fence.wide m Tryz.prog 147 #[.func (.yield l) #[] #[], .pointer (some ⟨ba, 0, none⟩), .pointer (some ⟨bs, 0, none⟩)] W fun e W' => (∃ v, e = .returned v) ∧ ((∃ xs, (UpTo xs ∧ xs.length = qs.length) ∧ J xs W') ∨ (∃ pre, UpTo pre ∧ Jx pre W')) := by
  have hlen : qs.length = n := by
    have h4 := (pcI h3).len
    unfold ints at h4
    rw [List.length_map] at h4
    exact h4
  have HS := Lib.hid hst
  have HF := Lib.hid hF
  have HP := Lib.hid h3
  have HPC := Lib.hid hpc
  clear hst hF h3 hpc
  refine callsIn_of_wp Tryz.func147 rfl trivial ?_ rfl
  simp only [Tryz.ntmps147, List.size_toArray, List.length_cons, List.length_nil, Nat.reduceAdd, Nat.reduceSub, Array.replicate_succ, Array.replicate_zero, List.push_toArray, List.append_toArray, List.nil_append, List.cons_append]
  gi_wp2
  gi_loopw [10] (fun i wr => ∃ (j : Nat) (pre : List (Lof qs.length)), j ≤ n ∧ i = .int .i64 j ∧ UpTo pre ∧ pre.length = j ∧ J pre wr ∧ Kept H W wr)
    (fun i _ => n - (intOf i).toNat)
  case atStart => exact ⟨0, [], Nat.zero_le _, rfl, UpTo.nil _, rfl, h0, Kept.refl _ _⟩
  case round =>
    obtain ⟨j, pre, hj, rfl, hup, hpl, hJs, hkp⟩ := hrel
    by_cases hlt : j < n
    · have hlt2 : j < qs.length := by omega
      obtain ⟨q, hq⟩ : ∃ q, qs[j]? = some q := ⟨_, List.getElem?_eq_getElem hlt2⟩
      have hq2 : qs[j]'hlt2 = q := by
        have h9 := List.getElem?_eq_getElem hlt2
        rw [hq] at h9
        exact (Option.some.inj h9).symm
      have hP2 : (pcT A n cap (ints qs)).I wr := (pcT A n cap (ints qs)).keep W wr H HP.out hkp HPC.out
      obtain ⟨a, ga, oa, rfl, had, cc1, cc2, ⟨b0, b1⟩, b2, b3⟩ := (pcI hP2).at (ints_at hq)
      have hST2 := Lib.hid (stI ((stT p Fs c sts).keep W wr H HS.out hkp HF.out))
      have d1 := hkp.cell h1 hba
      have d2 := hkp.cell h2 hbs
      have al := Lw.below_alloc (Below.refl _ wr) (.cells #[.int .i64 (q.1 : Int), .int .u64 (q.2 : Int)] 82)
      have hJ1 := hJ pre wr _ none hJs (grown_of al) (fun r e => by cases e)
      have d3 := cell_up d2 al
      have hS3 := Lib.hid (hST2.out.up al)
      have HKP := Lib.hid (hkp.then al)
      have B0 := Lib.hid b0
      have B1 := Lib.hid b1
      have B2 := Lib.hid b2
      have B3 := Lib.hid b3
      have HJ1 := Lib.hid hJ1
      have AL := Lib.hid al
      clear b0 b1 b2 b3 hP2 hkp hJs hJ1 al
      gi_wp2_with (refine ⟨trivial, ?_⟩; gi_at_call 77; refine (callsIn_wide.2 (cs_point p Fs c sts (q.1 : Int) (q.2 : Int) _ hS3.out B0.out B1.out B2.out B3.out)).mono ?_; rintro e w2 ⟨rfl, hb2⟩; have hk2 := Lib.hid (HKP.out.then hb2); have hJ2 := hJ pre _ w2 none HJ1.out (grown_of hb2) (fun r e => by cases e); obtain ⟨fn, tmps, assign, body, hy, hR⟩ := hY pre ⟨j, hlt2⟩ w2 hJ2 (by omega); simp only [encP, hq2] at hy)
      refine hR.mono ?_
      rintro e W3 (⟨rfl, hJ3, hk3⟩ | ⟨rfl, hJx3⟩)
      · gi_wp2
        go_roundw
        case rel => exact ⟨j + 1, pre ++ [⟨j, hlt2⟩], by omega, by simp, UpTo.snoc.2 ⟨hup, hpl.symm⟩, by simp [hpl], hJ3, hk2.out.trans hk3 (fun _ _ h => h)⟩
        case measure => simp [intOf]; omega
      · gi_wp2
        refine bodyPost_ret (results_none rfl _ _ _) rfl ?_
        exact ⟨⟨_, rfl⟩, .inr ⟨pre ++ [⟨j, hlt2⟩], UpTo.snoc.2 ⟨hup, hpl.symm⟩, hJx3⟩⟩
    · obtain rfl : j = n := by omega
      gi_wp2
      go_end0
      exact ⟨⟨_, rfl⟩, .inl ⟨pre, ⟨hup, by omega⟩, hJs⟩⟩
set_option maxRecDepth 100000 in
set_option maxHeartbeats 2000000 in
theorem gather_any (bp B0 : Nat) (F0 : Nat → Prop) (w0 w : World) (hdr : Value) (vals : List Value) (n : Int) (us ts : List Thing) (h : HoldC F0 w0 w (us ++ boxT bp 54 #[hdr] :: ownT B0 2 hdr vals :: ts)) (hl : vals.length ≤ 1000) (hB : B0 ≤ w.heap.size) :
    Calls Tryz.prog 114 #[.int .i64 n, .pointer (some ⟨bp, 0, none⟩)] w fun e w' => ∃ hdr', e = .returned (.tuple #[]) ∧ HoldC F0 w0 w' (us ++ boxT bp 54 #[hdr'] :: ownT B0 2 hdr' (vals ++ [.int .i64 n]) :: ts) ∧ Kept (fun k => k = bp ∨ B0 ≤ k) w w' ∧ KeepsOthers w w' := by
  have hbx : Boxed w bp 54 hdr := h.i (t := boxT bp 54 #[hdr]) (by simp)
  have c0 := hbx.cell
  have z0 := hbx.frozen
  have HH := Lib.hid h
  have hown : (ownT B0 2 hdr vals).I w := h.i (t := ownT B0 2 hdr vals) (by simp)
  have HO := Lib.hid hown
  have HA := Lib.hid (h.up (Lw.below_alloc (Below.refl _ w) (.cells #[.int .i64 n] 2)))
  have hbl : bp < w.heap.size := box_lt (h.i (t := boxT bp 54 #[hdr]) (by simp))
  obtain ⟨i0, hi, hi0, hi1, hi2⟩ := info_parts sp64_info
  have HA2 : Hid (HoldC F0 w0 (w.alloc (.cells #[.int .i64 n] 2)) ((us ++ [boxT bp 54 #[hdr]]) ++ ownT B0 2 hdr vals :: ts)) := Lib.hid (by simpa using HA.out)
  clear h hown hbx
  go_enter Tryz.func114, Tryz.ntmps114
  go_wp2_with (at_builtin; (refine app_val rfl _ _ 54 rfl B0 2 i0 (.int .i64 0) 8 sp64s_u hi hi0 hi1 hi2 rfl hdr vals.length vals rfl (HA.out.i (t := ownT B0 2 hdr vals) (by simp)) (.int .i64 n) w.heap.size rfl (cell_one_new _ _ _) rfl (by unfold maxLen; omega) (by omega) (by simp; omega) ?_); intro g cap w7 own7 grow7 hat7 hlt7; have H7 := Lib.hid (HoldC.app HA2.out own7 grow7 hat7); have b7 : Boxed w7 bp 54 hdr := H7.out.i (t := boxT bp 54 #[hdr]) (by simp); have c7 := b7.cell; have z7 := b7.frozen)
  go_returns
  have H8 : HoldC F0 w0 w7 (us ++ boxT bp 54 #[hdr] :: ownT B0 2 (.slice (some ⟨g, 0, none⟩) (vals.length + 1) cap) (vals ++ [.int .i64 n]) :: ts) := by simpa using H7.out
  have hge := own_ge HO.out
  refine ⟨_, rfl, holdc_store H8, ?_, ?_⟩
  · exact (Kept.grown ((Kept.refl (fun k => k = bp ∨ B0 ≤ k) w).alloc _) grow7 (fun q e => .inl (.inr (hge q e)))).set (.inl (.inl rfl)) 0 _
  · have k2 := KeepsOthers.alloc w (.cells #[.int .i64 n] 2)
    have s6 := HA.out.i (t := ownT B0 2 hdr vals) (by simp)
    have k3 : KeepsOthers (w.alloc (.cells #[.int .i64 n] 2)) w7 := KeepsOthers.of_grownBy grow7 (fun j o ej ho => by
      obtain ⟨o', h1, h2⟩ := cel_own s6 j ej
      rw [ho] at h1
      injection h1 with h1
      rw [h1]
      exact h2)
    exact (k2.trans k3).trans (KeepsOthers.setCell w7 ⟨bp, 0, none⟩ _)
end Go.Proofs.YtkflggojiiebeaaGreat.Spn

namespace Go.Proofs.YtkflggojiiebeaaGreat.Stk
open Go Go.RowKit Lw Grd Lin Con Shp Sk Exa Lev Go.Shelf
set_option linter.unusedVariables false
set_option linter.unusedSimpArgs false
attribute [local go_sem] Oper.semAt_some
/-- New levels as they came. -/
structure NRow (c : Cfg) (sts : List LS) (N : Nat) (pre : List (Lof N)) (vs : List Value) (ts : List Thing) : Prop where
  lv : vs.length = pre.length
  lt : ts.length = pre.length
  each : ∀ (j : Nat) (x : Lof N), pre[j]? = some x → ∃ st v Q, sts[x.1]? = some st ∧ vs[j]? = some v ∧ ts[j]? = some (elvT v Q c (x.1 : Int) st)
theorem NRow.nil (c : Cfg) (sts : List LS) (N : Nat) : NRow c sts N [] [] [] := ⟨rfl, rfl, fun j x h => by simp at h⟩
theorem NRow.row {c : Cfg} {sts : List LS} {N : Nat} {pre : List (Lof N)} {vs : List Value} {ts : List Thing} (h : NRow c sts N pre vs ts) (hup : UpTo pre) (hl : pre.length = sts.length) : LRow elvT c vs ts sts := by
  refine ⟨h.lv.trans hl, h.lt.trans hl, fun j st hj => ?_⟩
  have hj2 := (List.getElem?_eq_some_iff.1 hj).1
  obtain ⟨x, hx⟩ : ∃ x, pre[j]? = some x := ⟨_, List.getElem?_eq_getElem (by omega)⟩
  have hx2 : x.1 = j := by
    have h3 : (pre.map (fun x => x.1))[j]? = some x.1 := by rw [List.getElem?_map, hx]; rfl
    rw [hup, List.getElem?_range (by omega)] at h3
    injection h3 with h3
    exact h3.symm
  obtain ⟨st2, v, Q, e1, e2, e3⟩ := h.each j x hx
  rw [hx2, hj] at e1
  injection e1 with e1
  subst e1
  rw [hx2] at e3
  exact ⟨v, Q, e2, e3⟩
end Go.Proofs.YtkflggojiiebeaaGreat.Stk

namespace Go.Proofs.YtkflggojiiebeaaGreat.Stk
open Go Go.RowKit Lw Grd Lin Con Shp Sk Exa Lev Go.Shelf
set_option linter.unusedVariables false
set_option linter.unusedSimpArgs false
theorem cs_upd (p : Addr) (F : Nat → Prop) (c : Cfg) (sts : List LS) (k d : Int) (w : World) (h : ST w p F c sts) (k0 : 0 ≤ k) (k1 : k ≤ 18446744073709551615) (d0 : -9223372036854775808 ≤ d) (d1 : d ≤ 9223372036854775807) :
    Calls Tryz.prog 15 #[.pointer (some p), .int .u64 k, .int .i64 d] w fun e w' => e = .returned (.int .i64 (sucode c sts k d)) ∧ ∃ F', ST w' p F' c (sures c sts k d) ∧ Kept F w w' ∧ (∀ q, F' q → F q ∨ w.heap.size ≤ q) := by
  have HS := Lib.hid h
  obtain ⟨hr, hc, hl, b, B0, hdr, vals, ts, rfl, hrow, hI, rfl⟩ := h
  have HH := Lib.hid (st_hold hrow hI)
  have HO := Lib.hid hc
  have HR := Lib.hid hr
  have HL := Lib.hid hl
  have HROW := Lib.hid hrow
  have K0 := Lib.hid k0
  have K1 := Lib.hid k1
  have D0 := Lib.hid d0
  have D1 := Lib.hid d1
  have HB := Lib.hid (HH.out.push (boxT w.heap.size 2 #[.int .i64 d]) (Lw.below_alloc (Below.refl _ _) _) (heap_alloc_new w _) (fun k hk => Nat.le_of_eq hk.symm) (cel_box (heap_alloc_new w _)))
  have c0 := box_cell (HB.out.i (t := skB b c hdr) (by simp)) (i := 0) rfl
  have c1 := box_cell (HB.out.i (t := skB b c hdr) (by simp)) (i := 1) rfl
  have c2 := box_cell (HB.out.i (t := skB b c hdr) (by simp)) (i := 2) rfl
  have c3 := box_cell (HB.out.i (t := skB b c hdr) (by simp)) (i := 3) rfl
  have c4 := box_cell (HB.out.i (t := skB b c hdr) (by simp)) (i := 4) rfl
  by_cases hk : keys c 0 ≤ k
  · have e1 : sucode c sts k d = 2 := if_pos hk
    have e2 : sures c sts k d = sts := by unfold sures; rw [e1]; exact if_neg (by decide)
    rw [e1, e2]
    clear e1 e2 hI hrow hl hr hc k0 k1 d0 d1
    go_enter Tryz.func15, Tryz.ntmps15
    go_wp2_with (go_at_call 46; (with_reducible refine (keys_any c 0 _ HO.out (by omega) (by omega)).mono ?_); rintro e w1 ⟨rfl, hb⟩)
    go_ret
    have hb3 : Below w.heap.size w w1 := (Lw.below_alloc (Below.refl _ w) (.cells #[.int .i64 d] 2)).trans (hb.mono (by simp))
    exact ⟨rfl, _, HS.out.up hb3, Kept.of_below hb3, fun q hq => .inl hq⟩
  · have hk2 : k < keys c 0 := by omega
    have HK := Lib.hid hk2
    have hm0 : ¬ (c.md = 2 ∧ d < 0) ∨ ers c k d 0 sts = 3 := by
      by_cases hm : c.md = 2 ∧ d < 0
      · obtain ⟨st, v, Q, e1, e2, e3⟩ := hrow.at (j := 0) (by omega)
        exact .inr (ers_mode hr k0 hk2 hm e1 (show ELV w v Q c ((0 : Nat) : Int) st from HH.out.i (t := elvT v Q c ((0 : Nat) : Int) st) (List.mem_cons_of_mem _ (List.mem_cons_of_mem _ (List.mem_of_getElem? e3)))))
      · exact .inl hm
    have e1 : sucode c sts k d = ers c k d 0 sts := by
      unfold sucode
      rw [if_neg hk]
      by_cases hm : c.md = 2 ∧ d < 0
      · rw [if_pos hm]
        exact (hm0.resolve_left (fun g => g hm)).symm
      · rw [if_neg hm]
    clear hm0
    by_cases hz : ers c k d 0 sts = 0
    · have e2 : sures c sts k d = rss c k d 0 sts := by unfold sures; rw [e1, if_pos hz]
      rw [e1, e2, hz]
      have HZ := Lib.hid hz
      clear e1 e2 hI hrow hl hr hc k0 k1 d0 d1 hz hk2
      go_enter Tryz.func15, Tryz.ntmps15
      go_wp2_with (first
        | (go_at_call 46; (with_reducible refine (keys_any c 0 _ HO.out (by omega) (by omega)).mono ?_); rintro e w1 ⟨rfl, hb⟩; have HV1 := Lib.hid (HB.out.up hb); clear hb)
        | (go_at_call 48; (with_reducible refine (sabove_any ⟨b, 0, none⟩ k _).mono ?_); rintro e w2 ⟨rfl, rfl⟩)
        | (go_at_call 47; (with_reducible refine (chk_first c HR.out HO.out k d K0.out K1.out HK.out D0.out D1.out sts HL.out w.heap.size b B0 hdr vals ts HROW.out _ _ _ HV1.out).mono ?_); rintro e w3 ⟨rfl, hv3⟩; have HV3 := Lib.hid hv3; clear hv3; rw [HZ.out])
        | (go_at_call 47; (with_reducible refine (upd_first c HR.out HO.out k d K0.out K1.out HK.out D0.out D1.out sts HL.out HZ.out w.heap.size b B0 hdr vals ts HROW.out _ _ _ HV3.out).mono ?_); rintro e w4 ⟨rfl, ts4, hrow4, hv4⟩; have HV4 := Lib.hid hv4; have HR4 := Lib.hid hrow4; clear hv4 hrow4))
      go_ret
      obtain ⟨s1, s2, s3⟩ := st_of HR.out HO.out (by rw [rss_len]; exact HL.out) HR4.out HV4.out.drop
      exact ⟨rfl, _, s1, s2, s3⟩
    · have e2 : sures c sts k d = sts := by unfold sures; rw [e1]; exact if_neg hz
      rw [e1, e2]
      obtain ⟨E, hE⟩ : ∃ E, ers c k d 0 sts = E := ⟨_, rfl⟩
      have HE := Lib.hid hE
      rw [hE] at hz ⊢
      clear e1 e2 hI hrow hl hr hc k0 k1 d0 d1 hE hk2
      go_enter Tryz.func15, Tryz.ntmps15
      go_wp2_with (first
        | (go_at_call 46; (with_reducible refine (keys_any c 0 _ HO.out (by omega) (by omega)).mono ?_); rintro e w1 ⟨rfl, hb⟩; have HV1 := Lib.hid (HB.out.up hb); clear hb)
        | (go_at_call 48; (with_reducible refine (sabove_any ⟨b, 0, none⟩ k _).mono ?_); rintro e w2 ⟨rfl, rfl⟩)
        | (go_at_call 47; (with_reducible refine (chk_first c HR.out HO.out k d K0.out K1.out HK.out D0.out D1.out sts HL.out w.heap.size b B0 hdr vals ts HROW.out _ _ _ HV1.out).mono ?_); rintro e w3 ⟨rfl, hv3⟩; have HV3 := Lib.hid hv3; clear hv3; rw [HE.out]))
      go_ret
      obtain ⟨s1, s2, s3⟩ := st_of HR.out HO.out HL.out HROW.out HV3.out.drop
      exact ⟨rfl, _, s1, s2, s3⟩
end Go.Proofs.YtkflggojiiebeaaGreat.Stk

namespace Go.Proofs.YtkflggojiiebeaaGreat.Hvy
open Go Go.RowKit Lw Grd Lin Con Shp Sk Exa Lev Stk Pcs Spn Qnt
set_option linter.unusedVariables false
set_option linter.unusedSimpArgs false
set_option linter.unusedSimpArgs false
theorem cfd_info : (Tryz.prog.info? 85).map (fun i => (i.zero, i.size, i.bytes)) = some (some (.agg #[.int .i64 0, .int .u64 0, .int .i64 0]), 3, 24) := by kernel_rfl
theorem cfds_u : Tryz.prog.underlying 39 = some (.slice 85) := by kernel_rfl
theorem ints_level (L : Nat) (l : List Nat) (t : Nat) {i : Nat} (h : l[t]? = some i) : (ints (l.map (fun i => (L, i))))[t]? = some ((L : Int), (i : Int)) := by
  unfold ints
  rw [List.map_map, List.getElem?_map, h]
  rfl
theorem tellQ_next {pt : Nat → Int → Int} {least : Int} {L t i : Nat} {l : List Nat} (h : l[t]? = some i) : (least ≤ pt L ((i : Nat) : Int) → tellQ pt least L (l.take (t + 1)) = tellQ pt least L (l.take t) ++ [((L, i), pt L ((i : Nat) : Int))]) ∧ (¬ least ≤ pt L ((i : Nat) : Int) → tellQ pt least L (l.take (t + 1)) = tellQ pt least L (l.take t)) := by
  rw [take_next h, tellQ_app]
  exact ⟨fun g => by rw [tellQ_yes g], fun g => by rw [tellQ_no g, List.append_nil]⟩
theorem tellQ_take (pt : Nat → Int → Int) (least : Int) (L t : Nat) (l : List Nat) : (tellQ pt least L (l.take t)).length ≤ t := by
  unfold tellQ
  rw [List.length_map]
  have h1 := List.length_filter_le (big pt least L) (l.take t)
  rw [List.length_take] at h1
  omega
theorem enc_one3 (a b v : Int) : ∀ u ∈ ([.int .i64 a, .int .u64 b, .int .i64 v] : List Value), u.oneCell' = true := by
  intro u hu
  simp at hu
  rcases hu with rfl | rfl | rfl <;> rfl
theorem cbox2r {w : World} {b : Nat} {e : TypeId} {v0 v1 : Value} (h : (boxT b e #[v0, v1]).I w) : w.cell? ⟨b, 0, none⟩ = some v0 ∧ w.cell? ⟨b, 1, none⟩ = some v1 := ⟨box_cell h rfl, box_cell h rfl⟩
theorem turn0K {w0 w w' : World} {B K n g m cap : Nat} {e : TypeId} {v : Value} {cs ds : List Value} {ts : List Thing} (h : Have w0 w (ownK B e K v n cs :: ts)) (hown : w'.ownsRow B e K (.slice (some ⟨g, 0, none⟩) m cap) m ds) (hg : w.grownBy w' v.ownBlock) (hat : v.ownBlock = some g ∨ g = w.heap.size) : Have w0 w' (ownK B e K (.slice (some ⟨g, 0, none⟩) m cap) m ds :: ts) := h.turn0 _ hown (kept_grownK hg) (okF hat)
theorem turnBK {w0 w w' : World} {t0 : Thing} {B K n g m cap : Nat} {e : TypeId} {v : Value} {cs ds : List Value} {ts : List Thing} (h : Have w0 w (t0 :: ownK B e K v n cs :: ts)) (hown : w'.ownsRow B e K (.slice (some ⟨g, 0, none⟩) m cap) m ds) (hg : w.grownBy w' v.ownBlock) (hat : v.ownBlock = some g ∨ g = w.heap.size) : Have w0 w' (t0 :: ownK B e K (.slice (some ⟨g, 0, none⟩) m cap) m ds :: ts) := h.turn1 _ hown (kept_grownK hg) (okF hat)
theorem own_formK {w : World} {base : Nat} {e : TypeId} {K : Nat} {v : Value} {n : Nat} {xs : List Value} (h : w.ownsRow base e K v n xs) : True ∧ ∃ A cap, v = .slice A n cap := by
  refine ⟨trivial, ?_⟩
  rcases h.2 with ⟨h1, h2⟩ | ⟨g, cap, cur, h1, -⟩
  · exact ⟨none, 0, by rw [h2, h1]⟩
  · exact ⟨_, _, h1⟩
set_option maxRecDepth 100000 in
set_option maxHeartbeats 4000000 in
theorem much_any (p : Addr) (F : Nat → Prop) (c : Cfg) (sts : List LS) (least : Int) (LV : Nat) (l : List Nat) (A : Option Addr) (n cap : Nat) (w : World) (h : ST w p F c sts) (hrow : (pcT A n cap (ints (l.map (fun i => (LV, i))))).I w) (hLV : LV ≤ 59) (hb : ∀ i ∈ l, i < 576460752303423488) (hn : n ≤ 4096) :
    Calls Tryz.prog 54 #[.pointer (some p), .slice A n cap, .int .i64 least] w fun e w' => ∃ (A2 : Option Addr) (n2 cap2 : Nat), e = .returned (.slice A2 n2 cap2) ∧ w'.ownsRow w.heap.size 85 3 (.slice A2 n2 cap2) n2 ((tellQ (fun L i => spV c sts (L : Int) i) least LV l).flatMap encF) ∧ n2 = (tellQ (fun L i => spV c sts (L : Int) i) least LV l).length ∧ (n2 = 0 → A2 = none ∧ cap2 = 0) ∧ Below w.heap.size w w' := by
  have hlen : l.length = n := by have h1 := (pcI hrow).len; rw [ints_len, List.length_map] at h1; exact h1
  have CPT := Lib.hid (fun n i w hs n0 n1 i0 i1 => cs_point p F c sts n i w hs n0 n1 i0 i1)
  have HD := Lib.hid h
  have HR := Lib.hid hrow
  have HB := Lib.hid hb
  obtain ⟨j0, hj_, hy0, hy1, hy2⟩ := info_parts cfd_info
  have HLEN := Lib.hid hlen
  have HTK := Lib.hid (fun t => tellQ_take (fun L i => spV c sts (L : Int) i) least LV t l)
  clear h hrow hb hlen
  go_enter Tryz.func54, Tryz.ntmps54
  go_wp2
  go_loopw [7, 14] (fun fv iv wr => ∃ (t : Nat), t ≤ n ∧ iv = .int .i64 (t : Int) ∧ ((tellQ (fun L i => spV c sts (L : Int) i) least LV (l.take t)).length = 0 → fv = .slice none 0 0) ∧ Have w wr [ownK w.heap.size 85 3 fv (tellQ (fun L i => spV c sts (L : Int) i) least LV (l.take t)).length ((tellQ (fun L i => spV c sts (L : Int) i) least LV (l.take t)).flatMap encF)]) (fun _ iv _ => 5000 - (intOf iv).toNat)
  case atStart => exact ⟨0, Nat.zero_le _, rfl, fun _ => rfl, (Have.nil w).push (ownK w.heap.size 85 3 (.slice none 0 0) 0 []) (Below.refl _ _) (World.ownsRow_nil w _ _ _) (fun k hk => by cases hk)⟩
  case round =>
    obtain ⟨t, ht, rfl, hnil, hv⟩ := hrel
    have HVr := Lib.hid hv
    have HDR := Lib.hid (HD.out.up hv.below)
    have HRR := Lib.hid ((pcI HR.out).up hv.below)
    clear hv
    obtain ⟨NO, hNO⟩ : ∃ n, (tellQ (fun L i => spV c sts (L : Int) i) least LV (l.take t)).length = n := ⟨_, rfl⟩
    have htk := HTK.out t
    rw [hNO] at HVr hnil htk
    have HNO := Lib.hid hNO
    have HNIL := Lib.hid hnil
    clear hNO hnil
    by_cases hmore : t < n
    · have lt0 : (0 : Int) ≤ (t : Int) := by omega
      have lt1 : (t : Int) < (n : Int) := by omega
      obtain ⟨ix, hix⟩ : ∃ ix, l[t]? = some ix := ⟨_, List.getElem?_eq_getElem (by have := HLEN.out; omega)⟩
      have hixb := HB.out ix (List.mem_of_getElem? hix)
      obtain ⟨aa, g, o, rfl, hadd, r0, r1, -, -⟩ := HRR.out.at (ints_level LV l t hix)
      simp only at r0 r1
      have HNX := Lib.hid (tellQ_next (pt := (fun L i => spV c sts (L : Int) i)) (least := least) (L := LV) hix)
      have CPJ := Lib.hid (fun w hs => CPT.out (LV : Int) (ix : Int) w hs (by omega) (by omega) (by omega) (by omega))
      obtain ⟨VV, hVV⟩ : ∃ v, spV c sts (LV : Int) (ix : Int) = v := ⟨_, rfl⟩
      obtain ⟨VC, hVC⟩ : ∃ v, spC c sts (LV : Int) (ix : Int) = v := ⟨_, rfl⟩
      rw [hVV, hVC] at CPJ
      rw [hVV] at HNX
      have HIX := Lib.hid hix
      clear hVV hVC hix
      by_cases hV : least ≤ VV
      · have g1 : decide (least ≤ VV) = true := decide_eq_true hV
        have HEQ := Lib.hid (HNX.out.1 hV)
        clear HNX
        go_upto_region 7 with (go_at_call 77; (with_reducible refine (CPJ.out _ (HDR.out.up (Lw.below_alloc (Below.refl _ _) _))).mono ?_); rintro e w5 ⟨rfl, hb⟩; have HVb := Lib.hid (HVr.out.push (boxT wr.heap.size 82 #[.int .i64 (LV : Int), .int .u64 (ix : Int)]) (Lw.below_alloc (Below.refl _ _) _) (heap_alloc_new wr _) (fun k hk => Nat.le_of_eq hk.symm)); have HV5 := Lib.hid (HVb.out.up hb); clear hb; obtain ⟨y0, y1⟩ := cbox2r HV5.out.i0)
        go_wp2_with (at_builtin; go_must (refine wpList_append_lies _ rfl _ _ 39 rfl w.heap.size 85 j0 (.agg #[.int .i64 0, .int .u64 0, .int .i64 0]) 3 24 cfds_u hj_ hy0 hy1 hy2 rfl (by decide) _ _ _ rfl ((okI HV5.out.i1).alloc _) ⟨_, 0, none⟩ 1 1 [.int .i64 (LV : Int), .int .u64 (ix : Int), .int .i64 VV] rfl rfl (World.news_of_block (heap_alloc_new w5 _)) (enc_one3 _ _ _) (by decide) (by unfold maxLen; omega) (by omega) (by simp; have := HV5.out.below.size; omega) _ rfl ?_); intro g7 cap7 w7 hown7 hgrow7 hat7 hlt7)
        have HVa := Lib.hid (HV5.out.up (Lw.below_alloc (Below.refl _ w5) (.cells #[.int .i64 (LV : Int), .int .u64 (ix : Int), .int .i64 VV] 85)))
        have HV7 := Lib.hid (turnBK HVa.out hown7 hgrow7 hat7)
        go_roundw
        case rel => exact ⟨t + 1, by omega, by go_num, fun h => by rw [HEQ.out, List.length_append] at h; simp at h, by rw [HEQ.out, List.length_append, HNO.out, flat_snoc]; exact HV7.out.drop_0.up (by repeat' (first | (with_reducible first | exact Below.refl _ _ | assumption | refine below_over ?_ _ _ | refine Lw.below_alloc ?_ _ | refine Below.drew ?_ | refine below_drewN ?_ _ | refine Below.setCell ?_ ?_ _) | go_size))⟩
        case measure => simp [intOf]; omega
      · have g1 : decide (least ≤ VV) = false := decide_eq_false hV
        have HEQ := Lib.hid (HNX.out.2 hV)
        clear HNX
        go_wp2_with (go_at_call 77; (with_reducible refine (CPJ.out _ (HDR.out.up (Lw.below_alloc (Below.refl _ _) _))).mono ?_); rintro e w5 ⟨rfl, hb⟩; have HVb := Lib.hid (HVr.out.push (boxT wr.heap.size 82 #[.int .i64 (LV : Int), .int .u64 (ix : Int)]) (Lw.below_alloc (Below.refl _ _) _) (heap_alloc_new wr _) (fun k hk => Nat.le_of_eq hk.symm)); have HV5 := Lib.hid (HVb.out.up hb); clear hb; obtain ⟨y0, y1⟩ := cbox2r HV5.out.i0)
        go_roundw
        case rel => exact ⟨t + 1, by omega, by go_num, by rw [HEQ.out, HNO.out]; exact HNIL.out, by rw [HEQ.out, HNO.out]; exact HV5.out.drop_0.up (by repeat' (first | (with_reducible first | exact Below.refl _ _ | assumption | refine below_over ?_ _ _ | refine Lw.below_alloc ?_ _ | refine Below.drew ?_ | refine below_drewN ?_ _ | refine Below.setCell ?_ ?_ _) | go_size))⟩
        case measure => simp [intOf]; omega
    · have lt1 : ¬ (t : Int) < (n : Int) := by omega
      have et : l.take t = l := List.take_of_length_le (by have := HLEN.out; omega)
      rw [et] at HVr HNO
      go_wp2
      go_ret
      obtain ⟨hz, hf⟩ := own_formK (okI HVr.out.i0)
      obtain ⟨A2, cap2, rfl⟩ := hf
      exact ⟨A2, NO, cap2, rfl, okI HVr.out.i0, HNO.out.symm, fun e => by have h3 := HNIL.out e; injection h3 with h4 h5 h6; exact ⟨h4, h6⟩, HVr.out.below⟩
end Go.Proofs.YtkflggojiiebeaaGreat.Hvy

namespace Go.Proofs.YtkflggojiiebeaaGreat.Hvy
open Go Go.RowKit Lw Grd Lin Con Shp Sk Exa Lev Stk Pcs Spn Qnt
set_option linter.unusedVariables false
set_option linter.unusedSimpArgs false
set_option linter.unusedSimpArgs false
/-- The numbers of the halves. -/
def hvs (qs : List ((Nat × Nat) × Int)) : List Nat := qs.flatMap (fun q => [2 * q.1.2, 2 * q.1.2 + 1])
theorem hvs_next {qs : List ((Nat × Nat) × Int)} {t : Nat} {q : (Nat × Nat) × Int} (h : qs[t]? = some q) : hvs (qs.take (t + 1)) = hvs (qs.take t) ++ [2 * q.1.2, 2 * q.1.2 + 1] := by
  unfold hvs
  rw [take_next h, List.flatMap_append]
  simp
theorem hvs_len : ∀ qs : List ((Nat × Nat) × Int), (hvs qs).length = 2 * qs.length
  | [] => rfl
  | q :: qs => by
    have ih := hvs_len qs
    unfold hvs at ih ⊢
    rw [List.flatMap_cons, List.length_append, ih]
    simp
    omega
theorem alloc2_new (w : World) (a b c : Obj) : (((w.alloc a).alloc b).alloc c).heap[w.heap.size + 1 + 1]? = some c := by
  have h := heap_alloc_new ((w.alloc a).alloc b) c
  have e : ((w.alloc a).alloc b).heap.size = w.heap.size + 1 + 1 := by simp
  rw [e] at h
  exact h
theorem hvs_tell (pt : Nat → Int → Int) (least : Int) (L : Nat) (l : List Nat) : hvs (tellQ pt least L l) = halvesQ pt least L l := by
  unfold hvs tellQ halvesQ
  rw [List.flatMap_map]
theorem own_pcs2 (l : List (Nat × Nat)) (p q : Nat × Nat) : flatP (ints (l ++ [p, q])) = flatP (ints l) ++ [.int .i64 (p.1 : Int), .int .u64 (p.2 : Int), .int .i64 (q.1 : Int), .int .u64 (q.2 : Int)] := by
  have e : l ++ [p, q] = (l ++ [p]) ++ [q] := by simp
  rw [e, ints_app, ints_app]
  show flatP ((ints l ++ [((p.1 : Int), (p.2 : Int))]) ++ [((q.1 : Int), (q.2 : Int))]) = _
  rw [flatP_snoc, flatP_snoc, List.append_assoc]
  rfl
theorem cpc_two (a b x y : Int) : ∀ u ∈ ([.int .i64 a, .int .u64 b, .int .i64 x, .int .u64 y] : List Value), u.oneCell' = true := by
  intro u hu
  simp at hu
  rcases hu with rfl | rfl | rfl | rfl <;> rfl
theorem isP_nat {BB LM ix : Nat} (h1 : BB ≤ 59) (h2 : LM ≤ BB) (h0 : 1 ≤ BB) (h3 : ix < 2 ^ (BB - LM)) : isP (BB : Int) (LM : Int) (ix : Int) = true := by
  have e : ((BB : Int) - (LM : Int)).toNat = BB - LM := by omega
  refine decide_eq_true ⟨by omega, by omega, by omega, by omega, ?_⟩
  rw [e]
  unfold p2
  exact Int.ofNat_lt.2 h3
theorem chalf_nat (BB LM ix : Nat) (w : World) (h1 : BB ≤ 59) (h2 : LM + 1 ≤ BB) (h3 : ix < 2 ^ (BB - (LM + 1))) :
    Calls Tryz.prog 95 #[.int .i64 (BB : Int), .agg #[.int .i64 ((LM + 1 : Nat) : Int), .int .u64 (ix : Int)]] w fun e w' => e = .returned (.tuple #[.agg #[.int .i64 (LM : Int), .int .u64 ((2 * ix : Nat) : Int)], .agg #[.int .i64 (LM : Int), .int .u64 (((2 * ix : Nat) : Int) + 1)], .bool true]) ∧ Below w.heap.size w w' := by
  have h4 : 2 ^ (BB - (LM + 1)) ≤ 2 ^ 59 := Nat.pow_le_pow_right (by omega) (by omega)
  have e59 : (2 : Nat) ^ 59 = 576460752303423488 := rfl
  have hp : isP (BB : Int) ((LM + 1 : Nat) : Int) (ix : Int) = true := isP_nat h1 h2 (by omega) h3
  have h := chalves_any (BB : Int) ((LM + 1 : Nat) : Int) (ix : Int) w (by omega) (by omega) (by omega) (by omega) (by omega) (by omega)
  have hb : haB (BB : Int) ((LM + 1 : Nat) : Int) (ix : Int) = true := by unfold haB; rw [hp, decide_eq_true (by omega)]; rfl
  have e1 : haL (BB : Int) ((LM + 1 : Nat) : Int) (ix : Int) = (LM : Int) := by unfold haL; rw [if_pos hb]; omega
  have e2 : haX (BB : Int) ((LM + 1 : Nat) : Int) (ix : Int) = ((2 * ix : Nat) : Int) := by unfold haX; rw [if_pos hb]; omega
  have e3 : haY (BB : Int) ((LM + 1 : Nat) : Int) (ix : Int) = ((2 * ix : Nat) : Int) + 1 := by unfold haY; rw [if_pos hb]; omega
  rw [hb, e1, e2, e3] at h
  exact h
set_option maxRecDepth 100000 in
set_option maxHeartbeats 4000000 in
theorem halves_yes (BB LM : Nat) (qs : List ((Nat × Nat) × Int)) (A : Option Addr) (n cap : Nat) (w : World) (hrow : (stRowT 3 encF A n cap qs).I w) (hB : BB ≤ 59) (hL : LM + 1 ≤ BB) (hq : ∀ q ∈ qs, q.1.1 = LM + 1 ∧ q.1.2 < 2 ^ (BB - (LM + 1))) (hn : n ≤ 4096) :
    Calls Tryz.prog 55 #[.int .i64 (BB : Int), .slice A n cap] w fun e w' => ∃ (A2 : Option Addr) (n2 cap2 : Nat), e = .returned (.slice A2 n2 cap2) ∧ w'.ownsRow w.heap.size 82 2 (.slice A2 n2 cap2) n2 (flatP (ints ((hvs qs).map (fun i => (LM, i))))) ∧ n2 = (hvs qs).length ∧ Below w.heap.size w w' := by
  have hlen : qs.length = n := (strI hrow).len
  have HR := Lib.hid hrow
  have HQ := Lib.hid hq
  obtain ⟨i0, hi_, hz0, hz1, hz2⟩ := info_parts pc_info
  have HLEN := Lib.hid hlen
  have HBL := Lib.hid (And.intro hB hL)
  clear hrow hlen hq hB hL
  go_enter Tryz.func55, Tryz.ntmps55
  go_wp2
  go_loopw [5, 13] (fun fv iv wr => ∃ (t : Nat), t ≤ n ∧ iv = .int .i64 (t : Int) ∧ Have w wr [ownK w.heap.size 82 2 fv (2 * t) (flatP (ints ((hvs (qs.take t)).map (fun i => (LM, i)))))]) (fun _ iv _ => 5000 - (intOf iv).toNat)
  case atStart => exact ⟨0, Nat.zero_le _, rfl, (Have.nil w).push (ownK w.heap.size 82 2 (.slice none 0 0) 0 []) (Below.refl _ _) (World.ownsRow_nil w _ _ _) (fun k hk => by cases hk)⟩
  case round =>
    obtain ⟨t, ht, rfl, hv⟩ := hrel
    have HVr := Lib.hid hv
    have HRR := Lib.hid ((strI HR.out).up hv.below)
    clear hv
    by_cases hmore : t < n
    · have lt0 : (0 : Int) ≤ (t : Int) := by omega
      have lt1 : (t : Int) < (n : Int) := by omega
      obtain ⟨q, hqx⟩ : ∃ q, qs[t]? = some q := ⟨_, List.getElem?_eq_getElem (by have := HLEN.out; omega)⟩
      obtain ⟨hq1, hq2⟩ := HQ.out q (List.mem_of_getElem? hqx)
      have HNX := Lib.hid (hvs_next hqx)
      obtain ⟨aa, g, o, rfl, hadd, hat⟩ := HRR.out.at hqx (v0 := .int .i64 (q.1.1 : Int)) rfl
      have r0 := hat 0 (.int .i64 (q.1.1 : Int)) rfl
      have r1 := hat 1 (.int .u64 (q.1.2 : Int)) rfl
      have r2 := hat 2 (.int .i64 q.2) rfl
      rw [Nat.add_zero] at r0
      clear hat
      rw [hq1] at r0
      obtain ⟨ix, hix⟩ : ∃ ix, q.1.2 = ix := ⟨_, rfl⟩
      obtain ⟨VV, hVV⟩ : ∃ v, q.2 = v := ⟨_, rfl⟩
      obtain ⟨LV, hLV⟩ : ∃ v, LM + 1 = v := ⟨_, rfl⟩
      rw [hix] at r1 HNX hq2
      rw [hVV] at r2
      rw [hLV] at r0
      obtain ⟨I2, hI2⟩ : ∃ v, 2 * ix = v := ⟨_, rfl⟩
      rw [hI2] at HNX
      have HCH : Hid (∀ w, Calls Tryz.prog 95 #[.int .i64 (BB : Int), .agg #[.int .i64 (LV : Int), .int .u64 (ix : Int)]] w fun e w' => e = .returned (.tuple #[.agg #[.int .i64 (LM : Int), .int .u64 (I2 : Int)], .agg #[.int .i64 (LM : Int), .int .u64 ((I2 : Int) + 1)], .bool true]) ∧ Below w.heap.size w w') := Lib.hid (fun w => by
        have h1 := HBL.out.1
        have h2 := HBL.out.2
        have h3 := chalf_nat BB LM ix w h1 h2 hq2
        rw [← hLV, ← hI2]
        exact h3)
      clear hq1 hq2 hix hVV hLV hI2 hqx
      go_upto_region 7 with (go_at_call 95; (with_reducible refine (HCH.out _).mono ?_); rintro e w5 ⟨rfl, hb⟩; have HVx := Lib.hid (HVr.out.up (Lw.below_alloc (Below.refl _ _) (.cells #[.int .i64 (LV : Int), .int .u64 (ix : Int), .int .i64 VV] 85))); have HV5 := Lib.hid (HVx.out.up hb); clear hb)
      have HVb := Lib.hid (HV5.out.up (Lw.below_alloc (Lw.below_alloc (Lw.below_alloc (Below.refl _ _) (.cells #[.int .i64 (LM : Int), .int .u64 (I2 : Int)] 82)) (.cells #[.int .i64 (LM : Int), .int .u64 ((I2 : Int) + 1)] 82)) (.cells #[.int .i64 (LM : Int), .int .u64 (I2 : Int), .int .i64 (LM : Int), .int .u64 ((I2 : Int) + 1)] 82)))
      go_wp2_with (at_builtin; go_must (refine wpList_append_lies _ rfl _ _ 118 rfl w.heap.size 82 i0 (.agg #[.int .i64 0, .int .u64 0]) 2 16 pcs_u hi_ hz0 hz1 hz2 rfl (by decide) _ _ _ rfl (okI HVb.out.i0) ⟨_, 0, none⟩ 2 2 [.int .i64 (LM : Int), .int .u64 (I2 : Int), .int .i64 (LM : Int), .int .u64 ((I2 : Int) + 1)] rfl rfl (World.news_of_block (alloc2_new w5 _ _ _)) (cpc_two _ _ _ _) (by decide) (by unfold maxLen; omega) (by omega) (by have := HVb.out.below.size; exact this) _ rfl ?_); intro g7 cap7 w7 hown7 hgrow7 hat7 hlt7)
      have HV7 := Lib.hid (turn0K HVb.out hown7 hgrow7 hat7)
      go_roundw
      case rel => exact ⟨t + 1, by omega, by go_num, by rw [HNX.out, List.map_append]; show Have _ _ [ownK _ _ _ _ (2 * t + 2) (flatP (ints (_ ++ [(LM, I2), (LM, I2 + 1)])))]; rw [own_pcs2]; exact HV7.out.up (by repeat' (first | (with_reducible first | exact Below.refl _ _ | assumption | refine below_over ?_ _ _ | refine Lw.below_alloc ?_ _ | refine Below.drew ?_ | refine below_drewN ?_ _ | refine Below.setCell ?_ ?_ _) | go_size))⟩
      case measure => simp [intOf]; omega
    · have lt1 : ¬ (t : Int) < (n : Int) := by omega
      have et : qs.take t = qs := List.take_of_length_le (by have := HLEN.out; omega)
      have et2 : t = qs.length := by have := HLEN.out; omega
      rw [et] at HVr
      have HE := Lib.hid et2
      clear et et2
      go_wp2
      go_ret
      obtain ⟨-, A2, cap2, rfl⟩ := own_formK (okI HVr.out.i0)
      exact ⟨A2, 2 * t, cap2, rfl, okI HVr.out.i0, by rw [hvs_len, ← HE.out], HVr.out.below⟩
set_option maxRecDepth 100000 in
set_option maxHeartbeats 4000000 in
theorem halves_no (BB : Nat) (qs : List ((Nat × Nat) × Int)) (A : Option Addr) (n cap : Nat) (w : World) (hrow : (stRowT 3 encF A n cap qs).I w) (hB : BB ≤ 59) (hq : ∀ q ∈ qs, q.1.1 = 0 ∧ q.1.2 < 576460752303423488) (hn : n ≤ 4096) :
    Calls Tryz.prog 55 #[.int .i64 (BB : Int), .slice A n cap] w fun e w' => e = .returned (.slice none 0 0) ∧ Below w.heap.size w w' := by
  have hlen : qs.length = n := (strI hrow).len
  have HR := Lib.hid hrow
  have HQ := Lib.hid hq
  have HLEN := Lib.hid hlen
  have HBL := Lib.hid hB
  clear hrow hlen hq hB
  go_enter Tryz.func55, Tryz.ntmps55
  go_wp2
  go_loopw [5, 13] (fun fv iv wr => ∃ (t : Nat), t ≤ n ∧ iv = .int .i64 (t : Int) ∧ fv = .slice none 0 0 ∧ Below w.heap.size w wr) (fun _ iv _ => 5000 - (intOf iv).toNat)
  case atStart => exact ⟨0, Nat.zero_le _, rfl, rfl, Below.refl _ _⟩
  case round =>
    obtain ⟨t, ht, rfl, rfl, hv⟩ := hrel
    have HVr := Lib.hid hv
    have HRR := Lib.hid ((strI HR.out).up hv)
    clear hv
    by_cases hmore : t < n
    · have lt0 : (0 : Int) ≤ (t : Int) := by omega
      have lt1 : (t : Int) < (n : Int) := by omega
      obtain ⟨q, hqx⟩ : ∃ q, qs[t]? = some q := ⟨_, List.getElem?_eq_getElem (by have := HLEN.out; omega)⟩
      obtain ⟨hq1, hq2⟩ := HQ.out q (List.mem_of_getElem? hqx)
      obtain ⟨aa, g, o, rfl, hadd, hat⟩ := HRR.out.at hqx (v0 := .int .i64 (q.1.1 : Int)) rfl
      have r0 := hat 0 (.int .i64 (q.1.1 : Int)) rfl
      have r1 := hat 1 (.int .u64 (q.1.2 : Int)) rfl
      have r2 := hat 2 (.int .i64 q.2) rfl
      rw [Nat.add_zero] at r0
      clear hat
      rw [hq1] at r0
      obtain ⟨ix, hix⟩ : ∃ ix, q.1.2 = ix := ⟨_, rfl⟩
      obtain ⟨VV, hVV⟩ : ∃ v, q.2 = v := ⟨_, rfl⟩
      rw [hix] at r1 hq2
      rw [hVV] at r2
      have HCH := Lib.hid (fun w => chalves_0 (BB : Int) (ix : Int) w)
      clear hq1 hq2 hix hVV hqx
      go_wp2_with (go_at_call 95; (with_reducible refine (HCH.out _).mono ?_); rintro e w5 ⟨rfl, hb⟩; have HVx := Lib.hid (HVr.out.alloc HVr.out.size (.cells #[.int .i64 0, .int .u64 (ix : Int), .int .i64 VV] 85)); have HV5 := Lib.hid (HVx.out.trans (hb.mono HVx.out.size)); clear hb)
      go_roundw
      case rel => exact ⟨t + 1, by omega, by go_num, rfl, by have h5 := HV5.out; exact (by repeat' (first | (with_reducible first | exact Below.refl _ _ | assumption | refine below_over ?_ _ _ | refine Lw.below_alloc ?_ _ | refine Below.drew ?_ | refine below_drewN ?_ _ | refine Below.setCell ?_ ?_ _) | go_size))⟩
      case measure => simp [intOf]; omega
    · have lt1 : ¬ (t : Int) < (n : Int) := by omega
      go_wp2
      go_ret
      exact ⟨rfl, HVr.out⟩
end Go.Proofs.YtkflggojiiebeaaGreat.Hvy

