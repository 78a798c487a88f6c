/- Texts that statements lean on, put together: QntWalk, QntCode, SpnGat, SpnCode, SmrGat, SmrCmp, SmrDel. -/
import Derived.Test.YtkflggojiiebeaaGreatQaa
import Derived.Test.YtkflggojiiebeaaGreatQab
import Derived.Test.YtkflggojiiebeaaGreatQac
import Derived.Test.YtkflggojiiebeaaGreatQad
import Derived.Test.YtkflggojiiebeaaGreatQae
import Derived.Test.YtkflggojiiebeaaGreatQaf
import Derived.Test.YtkflggojiiebeaaGreatQag
import Derived.Test.YtkflggojiiebeaaGreatQda
import Derived.Test.YtkflggojiiebeaaGreatQea
import Derived.Test.YtkflggojiiebeaaGreatQja
import Derived.Test.YtkflggojiiebeaaGreatRows
import Derived.WalkKit
import Derived.ProofKit
import Derived.OpenShut
import Derived.DataShut
import Derived.Lib.SmallJoins
import Derived.Handy
import Derived.WalkSmall
import Derived.Deep.Draws
import Derived.WalkSpells
import Derived.Laws.AppendOwnNone
import Derived.Deep.AppendLies
import Derived.Lib.Hide
import Derived.Deep.MidRow
import Derived.Laws.BitsAllLaws
import Derived.WalkMore
import Derived.Deep.LoopGhost
import Derived.Deep.RegionHeld3
import Derived.Deep.QuietTactic
import Derived.BigQuiet
import Derived.Laws.Cover3
import Derived.Shelf.Spec.BitsCarry
import Derived.Deep.RegionWith
import Derived.Laws.OwnMore
import Derived.Deep.DeepCutAuto
import Derived.Laws.EntriesVeiled
import Derived.Deep.CutRange
import Derived.Defers
import Derived.RangeFuncNested
import Derived.RangeFuncBound
import Derived.RangeFuncCalls
import Derived.RangeFuncLeaves
import Derived.Deep.WholeRow
import Derived.Shelf.SlSortCmp.NoneTotal
import Derived.Shelf.Abstract
import Derived.Shelf.RegionOpen
import Derived.OwnWalkIn
import Derived.TacticsInMore
import Derived.LoopNIn
import Derived.LoopIn
import Derived.RangeFuncBox
import Derived.Laws.ResultCell
import Derived.Laws.CopyOwn
import Derived.Maps.AppendAt
import Derived.Laws.IdiomCopy
namespace Go.Proofs.YtkflggojiiebeaaGreat.Con
end Go.Proofs.YtkflggojiiebeaaGreat.Con
namespace Go.Proofs.YtkflggojiiebeaaGreat.Exa
end Go.Proofs.YtkflggojiiebeaaGreat.Exa
namespace Go.Proofs.YtkflggojiiebeaaGreat.Fld
end Go.Proofs.YtkflggojiiebeaaGreat.Fld
namespace Go.Proofs.YtkflggojiiebeaaGreat.Grd
end Go.Proofs.YtkflggojiiebeaaGreat.Grd
namespace Go.Proofs.YtkflggojiiebeaaGreat.Hsh
end Go.Proofs.YtkflggojiiebeaaGreat.Hsh
namespace Go.Proofs.YtkflggojiiebeaaGreat.Hvy
end Go.Proofs.YtkflggojiiebeaaGreat.Hvy
namespace Go.Proofs.YtkflggojiiebeaaGreat.Inn
end Go.Proofs.YtkflggojiiebeaaGreat.Inn
namespace Go.Proofs.YtkflggojiiebeaaGreat.Lev
end Go.Proofs.YtkflggojiiebeaaGreat.Lev
namespace Go.Proofs.YtkflggojiiebeaaGreat.Lin
end Go.Proofs.YtkflggojiiebeaaGreat.Lin
namespace Go.Proofs.YtkflggojiiebeaaGreat.Lw
end Go.Proofs.YtkflggojiiebeaaGreat.Lw
namespace Go.Proofs.YtkflggojiiebeaaGreat.Ord
end Go.Proofs.YtkflggojiiebeaaGreat.Ord
namespace Go.Proofs.YtkflggojiiebeaaGreat.Pcs
end Go.Proofs.YtkflggojiiebeaaGreat.Pcs
namespace Go.Proofs.YtkflggojiiebeaaGreat.Qnt
end Go.Proofs.YtkflggojiiebeaaGreat.Qnt
namespace Go.Proofs.YtkflggojiiebeaaGreat.Sed
end Go.Proofs.YtkflggojiiebeaaGreat.Sed
namespace Go.Proofs.YtkflggojiiebeaaGreat.Shp
end Go.Proofs.YtkflggojiiebeaaGreat.Shp
namespace Go.Proofs.YtkflggojiiebeaaGreat.Sk
end Go.Proofs.YtkflggojiiebeaaGreat.Sk
namespace Go.Proofs.YtkflggojiiebeaaGreat.Smr
end Go.Proofs.YtkflggojiiebeaaGreat.Smr
namespace Go.Proofs.YtkflggojiiebeaaGreat.Spn
end Go.Proofs.YtkflggojiiebeaaGreat.Spn
namespace Go.Proofs.YtkflggojiiebeaaGreat.Stk
end Go.Proofs.YtkflggojiiebeaaGreat.Stk
namespace Go.Proofs.YtkflggojiiebeaaGreat.Wid
end Go.Proofs.YtkflggojiiebeaaGreat.Wid
namespace Go.Proofs.YtkflggojiiebeaaGreat.Qnt
open Go Go.RowKit Lw Grd Lin Con Shp Sk Exa Lev Stk Pcs Spn
set_option linter.unusedVariables false
set_option linter.unusedSimpArgs false
set_option maxRecDepth 100000 in
theorem results_way {tmps : Array Value} {g : Nat} {C : Int} {l : List (Nat × Nat)} {W : World} (h4 : tmps.getD 4 undef = .pointer (some ⟨g, 0, none⟩)) (h5 : tmps.getD 5 undef = .int .i64 C) (hb : W.heap[g]? = some (.cells (arrP l) 164 (0, 0))) :
    (results Tryz.f78 tmps).run Tryz.prog W = .ok (.tuple #[.agg (arrP l), .int .i64 C]) W := by
  refine (results_cell_tmp Tryz.results78 tmps Tryz.prog W).trans ?_
  rw [h4, h5]
  have h1 : (loadVar 164 ⟨g, 0, none⟩).run Tryz.prog W = .ok (.agg (arrP l)) W := run_loadVar_row _ _ _ _ (arrP l) (0, 0) _ hb way_und rfl (by rw [arrP_size]; exact way_size)
  have h2 : (asAddr (.pointer (some ⟨g, 0, none⟩))).run Tryz.prog W = .ok ⟨g, 0, none⟩ W := rfl
  rw [h2]
  show ((loadVar _ _).run _ W).andThen _ = _
  rw [h1]
  rfl
set_option maxRecDepth 100000 in
set_option maxHeartbeats 4000000 in
theorem qwalk_r1 (p : Addr) (F : Nat → Prop) (c : Cfg) (sts : List LS) (k : Int) (w : World) (h : ST w p F c sts) (h1 : k < 1) :
    Calls Tryz.prog 78 #[.pointer (some p), .int .i64 k] w fun e w' => e = .returned (.tuple #[.agg (arrP []), .int .i64 6]) ∧ Below w.heap.size w w' := by
  have hst : (storeCells ⟨w.heap.size, 0, none⟩ (Tryz.zeroCells164).toList 0).run Tryz.prog (w.alloc (.cells Tryz.zeroCells164 164)) = .ok () (w.alloc (.cells Tryz.zeroCells164 164)) := run_storeCells_new w _ _ _ (by rw [way_zero, arrP_size]; exact way_size) rfl (by rw [way_zero]; exact arrP_one _)
  have hz := way_zero
  have f1 : decide (k < 1) = true := decide_eq_true h1
  clear h
  have HZ := Lib.hid hz
  clear hz h1
  go_enter Tryz.func78, Tryz.ntmps78
  go_wp2
  go_step3
  go_wp2
  simp only [Exit.noGoto]
  refine bodyPost_ret (v := .tuple #[.agg (arrP []), .int .i64 6]) (results_way rfl rfl (by rw [← HZ.out]; exact heap_alloc_new w _)) rfl ?_
  exact ⟨rfl, Lw.below_alloc (Below.refl _ _) _⟩
theorem blk_set_ne {X : World} {b b2 : Nat} (h : b ≠ b2) (i : Nat) (v : Value) : (X.setCell ⟨b2, i, none⟩ v).heap[b]? = X.heap[b]? := by
  simp [World.setCell, Array.getElem?_modify, Ne.symm h]
theorem way_put {W : World} {g : Nat} {l : List (Nat × Nat)} (m : List (Nat × Nat)) (h : W.heap[g]? = some (.cells (arrP l) 164 (0, 0))) : (storeCells ⟨g, 0, none⟩ (arrP m).toList 0).run Tryz.prog W = .ok () (W.setRow g (arrP m)) := by
  have := run_storeVar_row (P := Tryz.prog) W g _ 164 (arrP l) (arrP m) h (by rw [arrP_size]; exact way_size) (by rw [arrP_size, arrP_size]) (arrP_one m)
  have hi := way_size
  cases hq : Tryz.prog.info? 164 with
  | none => simp [hq] at hi
  | some i =>
    have hs : (arrP m).size = i.size := by simp [hq] at hi; rw [arrP_size]; omega
    simpa [storeVar, sizeOf, typeInfo, hq, Value.cells, hs] using this
set_option maxRecDepth 100000 in
set_option maxHeartbeats 4000000 in
theorem qwalk_r2 (p : Addr) (F : Nat → Prop) (c : Cfg) (sts : List LS) (k : Int) (w : World) (h : ST w p F c sts) (h1 : ¬ k < 1) (h2 : spV c sts c.bt 0 < k) :
    Calls Tryz.prog 78 #[.pointer (some p), .int .i64 k] w fun e w' => e = .returned (.tuple #[.agg (arrP []), .int .i64 6]) ∧ Below w.heap.size w w' := by
  have hz := way_zero
  have B0 : Below w.heap.size w (w.alloc (.cells (arrP []) 164)) := Lw.below_alloc (Below.refl _ _) _
  have HS := Lib.hid (h.up B0)
  have CT := Lib.hid (fun w hs => cs_total p F c sts w hs)
  obtain ⟨TT, hTT⟩ : ∃ v, spV c sts c.bt 0 = v := ⟨_, rfl⟩
  rw [hTT] at CT h2
  have f1 : decide (k < 1) = false := decide_eq_false h1
  have f2 : decide (TT < k) = true := decide_eq_true h2
  clear h hTT h1 h2
  go_enter Tryz.func78, Tryz.ntmps78
  go_wp2
  go_step3
  go_wp2_with (go_at_call 38; (with_reducible refine (CT.out _ HS.out).mono ?_); rintro e w4 ⟨rfl, hb⟩; have HX := Lib.hid (blk_up (heap_alloc_new w (.cells (arrP []) 164)) hb); have hst := way_put [] HX.out; have HB4 := Lib.hid (B0.trans (hb.mono B0.size)); clear hb)
  simp only [Exit.noGoto]
  refine bodyPost_ret (v := .tuple #[.agg (arrP []), .int .i64 6]) (results_way rfl rfl (setRow_heap _ _ _ _ _ _ HX.out)) rfl ?_
  exact ⟨rfl, below_setRow HB4.out (Nat.le_refl _) _⟩
set_option maxRecDepth 100000 in
set_option maxHeartbeats 8000000 in
theorem qwalk_y (p : Addr) (F : Nat → Prop) (c : Cfg) (sts : List LS) (k : Int) (w : World) (h : ST w p F c sts) (h1 : 1 ≤ k) (h2 : k ≤ spV c sts c.bt 0) (k1 : k ≤ 9223372036854775807) :
    Calls Tryz.prog 78 #[.pointer (some p), .int .i64 k] w fun e w' => e = .returned (.tuple #[.agg (arrP (qnL c (fun L i => spV c sts (L : Int) i) k)), .int .i64 (qnC c (fun L i => spV c sts (L : Int) i) k)]) ∧ Below w.heap.size w w' := by
  have hr := h.1
  have hbt := hr.1
  have hbt2 := hr.2.1
  have etop : spV c sts ((c.bt.toNat : Nat) : Int) 0 = spV c sts c.bt 0 := by
    rw [show ((c.bt.toNat : Nat) : Int) = c.bt by omega]
  have HQY := Lib.hid (fun (l : List (Nat × Nat)) hw => qn_yes (c := c) (pt := (fun L i => spV c sts (L : Int) i)) (l := l) h1 (by rw [etop]; exact h2) hw)
  have HQN := Lib.hid (fun hw => qn_over (c := c) (pt := (fun L i => spV c sts (L : Int) i)) h1 (by rw [etop]; exact h2) hw)
  have hz := way_zero
  have B0 : Below w.heap.size w (w.alloc (.cells (arrP []) 164)) := Lw.below_alloc (Below.refl _ _) _
  have HS := Lib.hid (h.up B0)
  have HS0 := Lib.hid h
  have CT := Lib.hid (fun w hs => cs_total p F c sts w hs)
  have CC := Lib.hid (fun w hs => cs_config p F c sts w hs)
  have hfd := fld_btq c
  obtain ⟨TT, hTT⟩ : ∃ v, spV c sts c.bt 0 = v := ⟨_, rfl⟩
  rw [hTT] at CT h2
  obtain ⟨BB, hBB⟩ : ∃ B, c.bt.toNat = B := ⟨_, rfl⟩
  have hcb : c.bt = (BB : Int) := by omega
  have hb59 : BB ≤ 59 := by omega
  have HB59 := Lib.hid hb59
  have HBB := Lib.hid hBB
  have HCB := Lib.hid hcb
  have f1 : decide (k < 1) = false := decide_eq_false (by omega)
  have f2 : decide (TT < k) = false := decide_eq_false (by omega)
  have H1 := Lib.hid h1
  have K1 := Lib.hid k1
  clear h hr hbt hbt2 etop hTT h1 h2 k1 hBB hcb hb59
  go_enter Tryz.func78, Tryz.ntmps78
  go_wp2
  go_step3
  go_wp2_with (first
    | (go_at_call 38; (with_reducible refine (CT.out _ HS.out).mono ?_); rintro e w4 ⟨rfl, hb⟩; have HX := Lib.hid (blk_up (heap_alloc_new w (.cells (arrP []) 164)) hb); have HB4 := Lib.hid (B0.trans (hb.mono B0.size)); clear hb)
    | (go_at_call 53; (with_reducible refine (CC.out _ (HS0.out.up (HB4.out.alloc HB4.out.size _))).mono ?_); rintro e w5 ⟨rfl, hb⟩; have HB5 := Lib.hid ((HB4.out.alloc HB4.out.size (.cells (arrP []) 164)).trans (hb.mono (HB4.out.alloc HB4.out.size (.cells (arrP []) 164)).size)); have HX5 := Lib.hid (blk_up (blk_alloc (p := .cells (arrP []) 164) HX.out) hb); have HY5 := Lib.hid (blk_up (heap_alloc_new w4 (.cells (arrP []) 164)) hb); clear hb))
  have hs4 := HB4.out.size
  have hlt6 : w.heap.size < w4.heap.size := (Array.getElem?_eq_some_iff.1 HX.out).1
  have hlt7 : w4.heap.size < w5.heap.size := (Array.getElem?_eq_some_iff.1 HY5.out).1
  have HX7 := Lib.hid (blk_alloc (p := .cells #[.int .i64 c.bt, .int .u64 0] 82) HX5.out)
  have HY7 := Lib.hid (blk_alloc (p := .cells #[.int .i64 c.bt, .int .u64 0] 82) HY5.out)
  have HZ7 := Lib.hid (heap_alloc_new w5 (.cells #[.int .i64 c.bt, .int .u64 0] 82))
  have HB7 := Lib.hid (HB5.out.alloc HB5.out.size (.cells #[.int .i64 c.bt, .int .u64 0] 82))
  obtain ⟨W, hW⟩ : ∃ W, w5.alloc (.cells #[.int .i64 c.bt, .int .u64 0] 82) = W := ⟨_, rfl⟩
  rw [hW] at HX7 HY7 HZ7 HB7 ⊢
  obtain ⟨g6, hg6⟩ : ∃ g, w4.heap.size = g := ⟨_, rfl⟩
  obtain ⟨g7, hg7⟩ : ∃ g, w5.heap.size = g := ⟨_, rfl⟩
  rw [hg6] at HY7 hlt6 hlt7 ⊢
  rw [hg7] at HZ7 hlt7 ⊢
  rw [HCB.out] at HZ7
  have n67 : g6 ≠ g7 := by omega
  have n76 : g7 ≠ g6 := by omega
  have n46 : w.heap.size ≠ g6 := by omega
  have n47 : w.heap.size ≠ g7 := by omega
  have N := Lib.hid (And.intro n67 (And.intro n76 (And.intro n46 (And.intro n47 (And.intro hlt6 hlt7)))))
  clear hW hg6 hg7 HX HB4 HX5 HY5 HB5 hs4 hlt6 hlt7 n67 n76 n46 n47 f1 f2 hfd
  go_step3
  go_wp2
  go_loopw [1, 8, 23] (fun s1 s8 s23 wr => ∃ (j L i : Nat) (kk : Int) (ff : Bool) (xs : List (Nat × Nat)), s1 = .int .i64 kk ∧ s8 = .bool ff ∧ s23 = .int .i64 (j : Int) ∧ L + j = BB ∧ xs.length = j ∧ i < 2 ^ (BB - L) ∧ -9223372036854775808 ≤ kk ∧ kk ≤ 9223372036854775807 ∧ wr.heap[w.heap.size]? = some (.cells (arrP []) 164 (0, 0)) ∧ wr.heap[g6]? = some (.cells (arrP xs) 164 (0, 0)) ∧ wr.heap[g7]? = some (.cells #[.int .i64 (L : Int), .int .u64 (i : Int)] 82 (0, 0)) ∧ Below w.heap.size w wr ∧ (ff = true → wayQ (fun L i => spV c sts (L : Int) i) BB 0 k = (wayQ (fun L i => spV c sts (L : Int) i) L i kk).map (fun l => xs ++ l)) ∧ (ff = false → wayQ (fun L i => spV c sts (L : Int) i) BB 0 k = none)) (fun _ _ s23 _ => 60 - (intOf s23).toNat)
  case atStart => exact ⟨0, BB, 0, k, true, [], rfl, rfl, rfl, rfl, rfl, Nat.two_pow_pos _, by have := H1.out; omega, K1.out, HX7.out, HY7.out, HZ7.out, HB7.out, (fun _ => by simp), (fun e => by cases e)⟩
  case round =>
    obtain ⟨j, L, i, kk, ff, xs, rfl, rfl, rfl, hLj, hxs, hi, hk0, hk1, hx4, hx6, hx7, hbw, hy, hn⟩ := hrel
    have HY := Lib.hid hy
    have HN := Lib.hid hn
    have HX4 := Lib.hid hx4
    have HX6 := Lib.hid hx6
    have HX8 := Lib.hid hx7
    have HBW := Lib.hid hbw
    have HLJ := Lib.hid hLj
    have HXS := Lib.hid hxs
    have HI := Lib.hid hi
    have HK := Lib.hid (And.intro hk0 hk1)
    have b59 := HB59.out
    have j60 : (j : Int) < 60 := by omega
    have j60n : j < 60 := by omega
    have j0 : (0 : Int) ≤ (j : Int) := by omega
    obtain ⟨n67, n76, n46, n47, hlt6, hlt7⟩ := N.out
    have q0 := box_cell hx7 (i := 0) rfl
    have q1 := box_cell hx7 (i := 1) rfl
    have e0 := box_cell hx6 (i := j * 2) (arrP_get (by omega))
    have e1 := box_cell hx6 (i := j * 2 + 1) (arrP_get (by omega))
    have z0 : wr.frozen? ⟨g6, j * 2, none⟩ = false := blk_frozen hx6 _
    have z1 : wr.frozen? ⟨g6, j * 2 + 1, none⟩ = false := blk_frozen hx6 _
    clear hy hn hx4 hx6 hx7 hbw hLj hxs hi hk0 hk1 b59 hlt6 hlt7 n46 n47
    go_upto_region 9 with fail
    have hx61 := blk_set (blk_set HX6.out (j * 2) (.int .i64 (L : Int))) (j * 2 + 1) (.int .u64 (i : Int))
    rw [arrP_set HXS.out j60n] at hx61
    have HX61 := Lib.hid hx61
    have HX41 := Lib.hid ((blk_set_ne (X := wr.setCell ⟨g6, j * 2, none⟩ (.int .i64 (L : Int))) (b := w.heap.size) (b2 := g6) N.out.2.2.1 (j * 2 + 1) (.int .u64 (i : Int))).trans ((blk_set_ne (X := wr) (b := w.heap.size) (b2 := g6) N.out.2.2.1 (j * 2) (.int .i64 (L : Int))).trans HX4.out))
    have HX71 := Lib.hid ((blk_set_ne (X := wr.setCell ⟨g6, j * 2, none⟩ (.int .i64 (L : Int))) (b := g7) (b2 := g6) N.out.2.1 (j * 2 + 1) (.int .u64 (i : Int))).trans ((blk_set_ne (X := wr) (b := g7) (b2 := g6) N.out.2.1 (j * 2) (.int .i64 (L : Int))).trans HX8.out))
    have HB1 : Hid (Below w.heap.size w ((wr.setCell ⟨g6, j * 2, none⟩ (.int .i64 (L : Int))).setCell ⟨g6, j * 2 + 1, none⟩ (.int .u64 (i : Int)))) := Lib.hid (by refine Below.setCell (Below.setCell HBW.out ?_ _) ?_ _ <;> exact Nat.le_of_lt N.out.2.2.2.2.1)
    obtain ⟨W1, hW1⟩ : ∃ W1, (wr.setCell ⟨g6, j * 2, none⟩ (.int .i64 (L : Int))).setCell ⟨g6, j * 2 + 1, none⟩ (.int .u64 (i : Int)) = W1 := ⟨_, rfl⟩
    rw [hW1] at hx61 HX61 HX41 HX71 HB1 ⊢
    clear hW1 hx61 q0 q1 e0 e1 z0 z1 HX6 HX4 HX8 HBW
    cases ff with
    | false =>
      have hst := way_put [] HX41.out
      have hq := HQN.out (by rw [HBB.out]; exact HN.out rfl)
      have HQ := Lib.hid hq
      clear hq
      go_wp2
      refine bodyPost_ret (v := .tuple #[.agg (arrP []), .int .i64 4]) (results_way rfl rfl (setRow_heap _ _ _ _ _ _ HX41.out)) rfl ?_
      rw [HQ.out.1, HQ.out.2.1]
      exact ⟨rfl, below_setRow HB1.out (Nat.le_refl _) _⟩
    | true =>
      have HY1 := Lib.hid (HY.out rfl)
      have q0 := box_cell HX71.out (i := 0) rfl
      have q1 := box_cell HX71.out (i := 1) rfl
      cases L with
      | zero =>
        have hq := HQY.out (xs ++ [(0, i)]) (by rw [HBB.out]; exact HY1.out)
        have hst := way_put (xs ++ [(0, i)]) HX41.out
        have HQ := Lib.hid hq
        clear hq
        go_upto_region 14 with fail
        apply wp_region_lit
        refine wpList_load_row rfl 164 _ rfl g6 rfl _ (arrP (xs ++ [(0, i)])) (0, 0) _ HX61.out way_und rfl (by rw [arrP_size]; exact way_size) ?_
        go_wp2
        refine bodyPost_ret (v := .tuple #[.agg (arrP (xs ++ [(0, i)])), .int .i64 0]) (results_way rfl rfl (setRow_heap _ _ _ _ _ _ HX41.out)) rfl ?_
        rw [HQ.out.1, HQ.out.2.1]
        exact ⟨rfl, below_setRow HB1.out (Nat.le_refl _) _⟩
      | succ L =>
        have hLj := HLJ.out
        have hi := HI.out
        have hcb := HCB.out
        have hb59 := HB59.out
        have hkb := HK.out
        have hpw : BB - L = (BB - (L + 1)) + 1 := by omega
        have hp2 : 2 ^ (BB - L) = 2 * 2 ^ (BB - (L + 1)) := by rw [hpw, Nat.pow_succ, Nat.mul_comm]
        have hP : isP c.bt ((L : Int) + 1) (i : Int) = true := by
          have e : (c.bt - ((L : Int) + 1)).toNat = BB - (L + 1) := by omega
          refine decide_eq_true ⟨by omega, by omega, by omega, by omega, ?_⟩
          rw [e]
          unfold p2
          omega
        have e1 : ((L : Int) + 1) - 1 = (L : Int) := by omega
        have e2 : 2 * (i : Int) = ((2 * i : Nat) : Int) := by omega
        have hvb := sp_in16 HS0.out (L : Int) ((2 * i : Nat) : Int)
        obtain ⟨VV, hVV⟩ : ∃ v, spV c sts (L : Int) ((2 * i : Nat) : Int) = v := ⟨_, rfl⟩
        rw [hVV] at hvb
        have hV2 : spV c sts (((L : Int) + 1) - 1) (2 * (i : Int)) = VV := by rw [e1, e2]; exact hVV
        have HSW := Lib.hid (HS0.out.up HB1.out)
        obtain ⟨I2, hI2⟩ : ∃ I2, 2 * i = I2 := ⟨_, rfl⟩
        by_cases hle : kk ≤ VV
        · have CH := Lib.hid (qhalf_l p F c sts ((L : Int) + 1) (i : Int) VV kk W1 HSW.out hP (by omega) (by omega) hV2 hle)
          have HW2 := Lib.hid (wayQ_left (pt := (fun L i => spV c sts (L : Int) i)) (L := L) (i := i) (k := kk) (by rw [← hVV] at hle; exact hle))
          rw [e1, e2, hI2] at CH
          rw [hI2] at HW2
          have HI2 : Hid (I2 < 2 ^ (BB - L)) := Lib.hid (by omega)
          have HLJ2 : Hid (L + (j + 1) = BB) := Lib.hid (by omega)
          have hlp : ¬ ((L + 1 : Nat) : Int) = 0 := by omega
          have hlq : (((L + 1 : Nat) : Int) == 0) = false := by simpa using hlp
          clear hLj hi hcb hb59 hkb hpw hp2 hP e1 e2 hvb hVV hV2 hI2 hle
          go_wp2_with (go_at_call 112; (with_reducible refine CH.out.mono ?_); rintro e w6 ⟨rfl, hb⟩; have HC6 := Lib.hid (blk_up HX71.out hb); have HD6 := Lib.hid (blk_up HX61.out hb); have HE6 := Lib.hid (blk_up HX41.out hb); have HB6 := Lib.hid (HB1.out.trans (hb.mono HB1.out.size)); have c6 := box_cell HC6.out (i := 0) rfl; have c7 := box_cell HC6.out (i := 1) rfl; have f6 : w6.frozen? ⟨g7, 0, none⟩ = false := blk_frozen HC6.out 0; have f7 : w6.frozen? ⟨g7, 1, none⟩ = false := blk_frozen HC6.out 1; clear hb)
          go_roundw
          case rel => exact ⟨j + 1, L, I2, kk, true, xs ++ [(L + 1, i)], rfl, rfl, by go_num, HLJ2.out, by rw [List.length_append, HXS.out]; rfl, HI2.out, HK.out.1, HK.out.2, (blk_set_ne N.out.2.2.2.1 _ _).trans ((blk_set_ne N.out.2.2.2.1 _ _).trans HE6.out), (blk_set_ne N.out.1 _ _).trans ((blk_set_ne N.out.1 _ _).trans HD6.out), by have := blk_set (blk_set HC6.out 0 (.int .i64 (L : Int))) 1 (.int .u64 (I2 : Int)); simpa using this, (by refine Below.setCell (Below.setCell HB6.out ?_ _) ?_ _ <;> exact Nat.le_of_lt (Nat.lt_trans N.out.2.2.2.2.1 N.out.2.2.2.2.2)), (fun _ => way_push HY1.out HW2.out), (fun e => by cases e)⟩
          case measure => simp [intOf]; omega
        · have hvm := hvb.1
          have CH := Lib.hid (qhalf_r p F c sts ((L : Int) + 1) (i : Int) VV kk W1 HSW.out hP (by omega) (by omega) hV2 hle hkb.2 hvm)
          have hle2 : ¬ kk ≤ spV c sts (L : Int) ((2 * i : Nat) : Int) := by rw [hVV]; exact hle
          have HW2 := Lib.hid (fun hf => wayQ_right (pt := (fun L i => spV c sts (L : Int) i)) (L := L) (i := i) (k := kk) hle2 hf)
          have HW3 := Lib.hid (fun hf => wayQ_none (pt := (fun L i => spV c sts (L : Int) i)) (L := L) (i := i) (k := kk) hle2 hf)
          rw [hVV] at HW2 HW3
          have e3 : 2 * (i : Int) + 1 = ((2 * i + 1 : Nat) : Int) := by omega
          rw [e1, e3] at CH
          obtain ⟨I3, hI3⟩ : ∃ I3, 2 * i + 1 = I3 := ⟨_, rfl⟩
          rw [hI3] at CH HW2
          have HI2 : Hid (I3 < 2 ^ (BB - L)) := Lib.hid (by omega)
          have HLJ2 : Hid (L + (j + 1) = BB) := Lib.hid (by omega)
          have hlp : ¬ ((L + 1 : Nat) : Int) = 0 := by omega
          have hlq : (((L + 1 : Nat) : Int) == 0) = false := by simpa using hlp
          obtain ⟨FF, hFF⟩ : ∃ v, Wid.fit64 (kk - VV) = v := ⟨_, rfl⟩
          obtain ⟨KN, hKN⟩ : ∃ v, Wid.f64 (kk - VV) = v := ⟨_, rfl⟩
          rw [hFF, hKN] at CH
          have HFT : Hid (FF = true → kk - VV = KN ∧ -9223372036854775808 ≤ KN ∧ KN ≤ 9223372036854775807) := Lib.hid (fun e => by
            rw [e] at hFF
            have h5 := of_decide_eq_true hFF
            have h6 : KN = kk - VV := by rw [← hKN]; unfold Wid.f64; rw [hFF]; rfl
            omega)
          have HFN : Hid (FF = false → KN = 0) := Lib.hid (fun e => by
            rw [e] at hFF
            rw [← hKN]
            unfold Wid.f64
            rw [hFF]
            rfl)
          have HFE := Lib.hid hFF
          clear hLj hi hcb hb59 hkb hpw hp2 hP e1 e2 e3 hvb hvm hVV hV2 hI2 hI3 hle hle2 hFF hKN
          go_wp2_with (go_at_call 112; (with_reducible refine CH.out.mono ?_); rintro e w6 ⟨rfl, hb⟩; have HC6 := Lib.hid (blk_up HX71.out hb); have HD6 := Lib.hid (blk_up HX61.out hb); have HE6 := Lib.hid (blk_up HX41.out hb); have HB6 := Lib.hid (HB1.out.trans (hb.mono HB1.out.size)); have c6 := box_cell HC6.out (i := 0) rfl; have c7 := box_cell HC6.out (i := 1) rfl; have f6 : w6.frozen? ⟨g7, 0, none⟩ = false := blk_frozen HC6.out 0; have f7 : w6.frozen? ⟨g7, 1, none⟩ = false := blk_frozen HC6.out 1; clear hb)
          go_roundw
          case rel =>
            have hkn : -9223372036854775808 ≤ KN ∧ KN ≤ 9223372036854775807 := by
              cases FF with
              | true => exact (HFT.out rfl).2
              | false => rw [HFN.out rfl]; omega
            exact ⟨j + 1, L, I3, KN, FF, xs ++ [(L + 1, i)], rfl, rfl, by go_num, HLJ2.out, by rw [List.length_append, HXS.out]; rfl, HI2.out, hkn.1, hkn.2, (blk_set_ne N.out.2.2.2.1 _ _).trans ((blk_set_ne N.out.2.2.2.1 _ _).trans HE6.out), (blk_set_ne N.out.1 _ _).trans ((blk_set_ne N.out.1 _ _).trans HD6.out), by have := blk_set (blk_set HC6.out 0 (.int .i64 (L : Int))) 1 (.int .u64 (I3 : Int)); simpa using this, (by refine Below.setCell (Below.setCell HB6.out ?_ _) ?_ _ <;> exact Nat.le_of_lt (Nat.lt_trans N.out.2.2.2.2.1 N.out.2.2.2.2.2)), (fun e => by rw [← (HFT.out e).1]; exact way_push HY1.out (HW2.out (by rw [HFE.out]; exact e))), (fun e => by rw [HY1.out, HW3.out (by rw [HFE.out]; exact e)]; rfl)⟩
          case measure => simp [intOf]; omega
theorem qwalk_any (p : Addr) (F : Nat → Prop) (c : Cfg) (sts : List LS) (k : Int) (w : World) (h : ST w p F c sts) (k1 : k ≤ 9223372036854775807) :
    Calls Tryz.prog 78 #[.pointer (some p), .int .i64 k] w fun e w' => e = .returned (.tuple #[.agg (arrP (qnL c (fun L i => spV c sts (L : Int) i) k)), .int .i64 (qnC c (fun L i => spV c sts (L : Int) i) k)]) ∧ Below w.heap.size w w' := by
  have hbt := h.1.1
  have etop : spV c sts ((c.bt.toNat : Nat) : Int) 0 = spV c sts c.bt 0 := by
    rw [show ((c.bt.toNat : Nat) : Int) = c.bt by omega]
  by_cases h1 : k < 1
  · have hq := qn_rank (c := c) (pt := (fun L i => spV c sts (L : Int) i)) (k := k) (.inl h1)
    rw [hq.1, hq.2.1]
    exact qwalk_r1 p F c sts k w h h1
  · by_cases h2 : spV c sts c.bt 0 < k
    · have hq := qn_rank (c := c) (pt := (fun L i => spV c sts (L : Int) i)) (k := k) (.inr (by rw [etop]; exact h2))
      rw [hq.1, hq.2.1]
      exact qwalk_r2 p F c sts k w h h1 h2
    · exact qwalk_y p F c sts k w h (by omega) (by omega) k1
end Go.Proofs.YtkflggojiiebeaaGreat.Qnt

namespace Go.Proofs.YtkflggojiiebeaaGreat.Qnt
open Go Go.RowKit Lw Grd Lin Con Shp Sk Exa Lev Stk Pcs Spn
set_option linter.unusedVariables false
set_option linter.unusedSimpArgs false
theorem qn_at {c : Cfg} (pt : Nat → Int → Int) (k : Int) : celP (qnL c pt k) (c.bt.toNat * 2 + 1) = .int .u64 (qnV c pt k) := by
  by_cases h : qnC c pt k = 0
  · have h2 : k < 1 ∨ pt c.bt.toNat 0 < k → False := fun h3 => by
      have := (qn_rank (c := c) (pt := pt) h3).1
      omega
    have h4 : ¬ (k < 1 ∨ pt c.bt.toNat 0 < k) := h2
    cases hw : wayQ pt c.bt.toNat 0 k with
    | none =>
      have := (qn_over (c := c) (pt := pt) (k := k) (by omega) (by omega) hw).1
      omega
    | some l =>
      obtain ⟨-, e2, e3⟩ := qn_yes (c := c) (pt := pt) (k := k) (by omega) (by omega) hw
      rw [e2, e3, celP_ix (wayQ_path hw).last]
  · have e2 : qnL c pt k = [] := by unfold qnL; rw [if_neg h]
    have e3 : qnV c pt k = 0 := by unfold qnV; rw [e2]; rfl
    rw [e2, e3, celP_nil_ix]
set_option maxRecDepth 100000 in
set_option maxHeartbeats 4000000 in
theorem qn_quant (p : Addr) (F : Nat → Prop) (c : Cfg) (sts : List LS) (k : Int) (w : World) (h : ST w p F c sts) (k0 : -9223372036854775808 ≤ k) (k1 : k ≤ 9223372036854775807) :
    Calls Tryz.prog 39 #[.pointer (some p), .int .i64 k] w fun e w' => e = .returned (.tuple #[.int .u64 (qnV c (fun L i => spV c sts (L : Int) i) k), .int .i64 (qnC c (fun L i => spV c sts (L : Int) i) k)]) ∧ Below w.heap.size w w' := by
  have hz := way_zero
  have hb1 := h.1.1
  have hb2 := h.1.2.1
  have HS := Lib.hid h
  have CW := Lib.hid (fun w hs => qwalk_any p F c sts k w hs k1)
  have CC := Lib.hid (fun w hs => cs_config p F c sts w hs)
  have HA := Lib.hid (qn_at (c := c) (fun L i => spV c sts (L : Int) i) k)
  have hfd := fld_btq c
  obtain ⟨QL, hQL⟩ : ∃ l, qnL c (fun L i => spV c sts (L : Int) i) k = l := ⟨_, rfl⟩
  obtain ⟨QC, hQC⟩ : ∃ l, qnC c (fun L i => spV c sts (L : Int) i) k = l := ⟨_, rfl⟩
  obtain ⟨QV, hQV⟩ : ∃ l, qnV c (fun L i => spV c sts (L : Int) i) k = l := ⟨_, rfl⟩
  rw [hQL, hQV] at HA
  rw [hQL, hQC] at CW
  rw [hQC, hQV]
  have i0 : 0 ≤ c.bt := by omega
  have i1 : c.bt < 60 := by omega
  have HJ : Hid (c.bt.toNat * 2 + 1 < 120) := Lib.hid (by omega)
  clear h hQL hQC hQV hb1 hb2 k0 k1
  go_enter Tryz.func39, Tryz.ntmps39
  go_wp2_with (first
    | (go_at_call 78; (with_reducible refine (CW.out _ HS.out).mono ?_); rintro e w1 ⟨rfl, hb⟩; have HB1 := Lib.hid hb; have HB2 := Lib.hid (hb.alloc hb.size (.cells (arrP QL) 164)); have HX2 := Lib.hid (heap_alloc_new w1 (.cells (arrP QL) 164)); have hst := run_storeCells_new (P := Tryz.prog) w1 164 (arrP []) (arrP QL) (by rw [arrP_size]; exact way_size) (by rw [arrP_size, arrP_size]) (arrP_one QL); clear hb)
    | (go_at_call 53; (with_reducible refine (CC.out _ (HS.out.up HB2.out)).mono ?_); rintro e w5 ⟨rfl, hb⟩; have hx5 := box_cell (blk_up HX2.out hb) (i := c.bt.toNat * 2 + 1) (arrP_get HJ.out); rw [HA.out] at hx5; have HB5 := Lib.hid (HB2.out.trans (hb.mono HB2.out.size)); clear hb))
  go_ret2
  exact ⟨rfl, HB5.out⟩
end Go.Proofs.YtkflggojiiebeaaGreat.Qnt

namespace Go.Proofs.YtkflggojiiebeaaGreat.Spn
open Go Go.RowKit Lw Grd Lin Con Shp Sk Exa Lev Stk Pcs Go.Shelf
set_option linter.unusedVariables false
set_option linter.unusedSimpArgs false
attribute [local go_sem] Oper.semAt_some
theorem sp64_info : (Tryz.prog.info? 2).map (fun i => (i.zero, i.size, i.bytes)) = some (some (.int .i64 0), 1, 8) := by kernel_rfl
theorem sp64s_u : Tryz.prog.underlying 54 = some (.slice 2) := by kernel_rfl
theorem told_any (p : Addr) (A : Option Addr) (n cap : Nat) (w : World) :
    Calls Tryz.prog 115 #[.pointer (some p), .slice A n cap] w fun e w' => e = .returned (.func (.func 147) #[] #[.pointer (some ⟨w.heap.size + 1, 0, none⟩), .pointer (some ⟨w.heap.size, 0, none⟩)]) ∧ w' = (w.alloc (.cells #[.pointer (some p)] 30)).alloc (.cells #[.slice A n cap] 118) := by
  go_enter Tryz.func115, Tryz.ntmps115
  go_wp2
  go_ret
  exact ⟨rfl, rfl⟩
/-- What a round is handed. -/
def encP (c : Cfg) (sts : List LS) (qs : List (Nat × Nat)) (x : Lof qs.length) : Array Value := #[.int .i64 (spV c sts ((qs[x.1]'x.2).1 : Int) ((qs[x.1]'x.2).2 : Int))]
theorem ints_at {qs : List (Nat × Nat)} {j : Nat} {q : Nat × Nat} (h : qs[j]? = some q) : (ints qs)[j]? = some ((q.1 : Int), (q.2 : Int)) := by
  unfold ints
  rw [List.getElem?_map, h]
  rfl
set_option maxRecDepth 100000 in
set_option maxHeartbeats 2000000 in
theorem told_iter (m : Nat) (hm : 1 ≤ m) (c : Cfg) (sts : List LS) (p : Addr) (Fs H : Nat → Prop) (l ba bs n cap : Nat) (A : Option Addr) (qs : List (Nat × Nat)) (hN : qs.length ≤ 1000) (J Jx : List (Lof qs.length) → World → Prop)
    (W : World) (hJ : AbidesFrom W.heap.size J)
    (hY : ∀ pre x W, J pre W → pre.length < qs.length → YieldAt Fence.wide (m - 1) Tryz.prog l (encP c sts qs x) W fun e W' => (e = .returned (.bool true) ∧ J (pre ++ [x]) W' ∧ Kept H W W') ∨ (e = .returned (.bool false) ∧ Jx (pre ++ [x]) W'))
    (hst : ST W p Fs c sts) (hF : ∀ k, Fs k → ¬ H k) (h1 : W.cell? ⟨ba, 0, none⟩ = some (.slice A n cap)) (hba : ¬ H ba) (h2 : W.cell? ⟨bs, 0, none⟩ = some (.pointer (some p))) (hbs : ¬ H bs)
    (h3 : (pcT A n cap (ints qs)).I W) (hpc : ∀ k, (pcT A n cap (ints qs)).F k → ¬ H k) (h0 : J [] W) :
    CallsIn Fence.wide m Tryz.prog 147 #[.func (.yield l) #[] #[], .pointer (some ⟨ba, 0, none⟩), .pointer (some ⟨bs, 0, none⟩)] W fun e W' => (∃ v, e = .returned v) ∧ ((∃ xs, (UpTo xs ∧ xs.length = qs.length) ∧ J xs W') ∨ (∃ pre, UpTo pre ∧ Jx pre W')) := by
  have hlen : qs.length = n := by
    have h4 := (pcI h3).len
    unfold ints at h4
    rw [List.length_map] at h4
    exact h4
  have HS := Lib.hid hst
  have HF := Lib.hid hF
  have HP := Lib.hid h3
  have HPC := Lib.hid hpc
  clear hst hF h3 hpc
  refine callsIn_of_wp Tryz.func147 rfl trivial ?_ rfl
  simp only [Tryz.ntmps147, List.size_toArray, List.length_cons, List.length_nil, Nat.reduceAdd, Nat.reduceSub, Array.replicate_succ, Array.replicate_zero, List.push_toArray, List.append_toArray, List.nil_append, List.cons_append]
  gi_wp2
  gi_loopw [10] (fun i wr => ∃ (j : Nat) (pre : List (Lof qs.length)), j ≤ n ∧ i = .int .i64 j ∧ UpTo pre ∧ pre.length = j ∧ J pre wr ∧ Kept H W wr)
    (fun i _ => n - (intOf i).toNat)
  case atStart => exact ⟨0, [], Nat.zero_le _, rfl, UpTo.nil _, rfl, h0, Kept.refl _ _⟩
  case round =>
    obtain ⟨j, pre, hj, rfl, hup, hpl, hJs, hkp⟩ := hrel
    by_cases hlt : j < n
    · have hlt2 : j < qs.length := by omega
      obtain ⟨q, hq⟩ : ∃ q, qs[j]? = some q := ⟨_, List.getElem?_eq_getElem hlt2⟩
      have hq2 : qs[j]'hlt2 = q := by
        have h9 := List.getElem?_eq_getElem hlt2
        rw [hq] at h9
        exact (Option.some.inj h9).symm
      have hP2 : (pcT A n cap (ints qs)).I wr := (pcT A n cap (ints qs)).keep W wr H HP.out hkp HPC.out
      obtain ⟨a, ga, oa, rfl, had, cc1, cc2, ⟨b0, b1⟩, b2, b3⟩ := (pcI hP2).at (ints_at hq)
      have hST2 := Lib.hid (stI ((stT p Fs c sts).keep W wr H HS.out hkp HF.out))
      have d1 := hkp.cell h1 hba
      have d2 := hkp.cell h2 hbs
      have al := Lw.below_alloc (Below.refl _ wr) (.cells #[.int .i64 (q.1 : Int), .int .u64 (q.2 : Int)] 82)
      have hJ1 := hJ pre wr _ none hJs (grown_of al) (fun r e => by cases e)
      have d3 := cell_up d2 al
      have hS3 := Lib.hid (hST2.out.up al)
      have HKP := Lib.hid (hkp.then al)
      have B0 := Lib.hid b0
      have B1 := Lib.hid b1
      have B2 := Lib.hid b2
      have B3 := Lib.hid b3
      have HJ1 := Lib.hid hJ1
      have AL := Lib.hid al
      clear b0 b1 b2 b3 hP2 hkp hJs hJ1 al
      gi_wp2_with (refine ⟨trivial, ?_⟩; gi_at_call 77; refine (callsIn_wide.2 (cs_point p Fs c sts (q.1 : Int) (q.2 : Int) _ hS3.out B0.out B1.out B2.out B3.out)).mono ?_; rintro e w2 ⟨rfl, hb2⟩; have hk2 := Lib.hid (HKP.out.then hb2); have hJ2 := hJ pre _ w2 none HJ1.out (grown_of hb2) (fun r e => by cases e); obtain ⟨fn, tmps, assign, body, hy, hR⟩ := hY pre ⟨j, hlt2⟩ w2 hJ2 (by omega); simp only [encP, hq2] at hy)
      refine hR.mono ?_
      rintro e W3 (⟨rfl, hJ3, hk3⟩ | ⟨rfl, hJx3⟩)
      · gi_wp2
        go_roundw
        case rel => exact ⟨j + 1, pre ++ [⟨j, hlt2⟩], by omega, by simp, UpTo.snoc.2 ⟨hup, hpl.symm⟩, by simp [hpl], hJ3, hk2.out.trans hk3 (fun _ _ h => h)⟩
        case measure => simp [intOf]; omega
      · gi_wp2
        refine bodyPost_ret (results_none rfl _ _ _) rfl ?_
        exact ⟨⟨_, rfl⟩, .inr ⟨pre ++ [⟨j, hlt2⟩], UpTo.snoc.2 ⟨hup, hpl.symm⟩, hJx3⟩⟩
    · obtain rfl : j = n := by omega
      gi_wp2
      go_end0
      exact ⟨⟨_, rfl⟩, .inl ⟨pre, ⟨hup, by omega⟩, hJs⟩⟩
set_option maxRecDepth 100000 in
set_option maxHeartbeats 2000000 in
theorem gather_any (bp B0 : Nat) (F0 : Nat → Prop) (w0 w : World) (hdr : Value) (vals : List Value) (n : Int) (us ts : List Thing) (h : HoldC F0 w0 w (us ++ boxT bp 54 #[hdr] :: ownT B0 2 hdr vals :: ts)) (hl : vals.length ≤ 1000) (hB : B0 ≤ w.heap.size) :
    Calls Tryz.prog 114 #[.int .i64 n, .pointer (some ⟨bp, 0, none⟩)] w fun e w' => ∃ hdr', e = .returned (.tuple #[]) ∧ HoldC F0 w0 w' (us ++ boxT bp 54 #[hdr'] :: ownT B0 2 hdr' (vals ++ [.int .i64 n]) :: ts) ∧ Kept (fun k => k = bp ∨ B0 ≤ k) w w' ∧ KeepsOthers w w' := by
  have hbx : Boxed w bp 54 hdr := h.i (t := boxT bp 54 #[hdr]) (by simp)
  have c0 := hbx.cell
  have z0 := hbx.frozen
  have HH := Lib.hid h
  have hown : (ownT B0 2 hdr vals).I w := h.i (t := ownT B0 2 hdr vals) (by simp)
  have HO := Lib.hid hown
  have HA := Lib.hid (h.up (Lw.below_alloc (Below.refl _ w) (.cells #[.int .i64 n] 2)))
  have hbl : bp < w.heap.size := box_lt (h.i (t := boxT bp 54 #[hdr]) (by simp))
  obtain ⟨i0, hi, hi0, hi1, hi2⟩ := info_parts sp64_info
  have HA2 : Hid (HoldC F0 w0 (w.alloc (.cells #[.int .i64 n] 2)) ((us ++ [boxT bp 54 #[hdr]]) ++ ownT B0 2 hdr vals :: ts)) := Lib.hid (by simpa using HA.out)
  clear h hown hbx
  go_enter Tryz.func114, Tryz.ntmps114
  go_wp2_with (at_builtin; (refine app_val rfl _ _ 54 rfl B0 2 i0 (.int .i64 0) 8 sp64s_u hi hi0 hi1 hi2 rfl hdr vals.length vals rfl (HA.out.i (t := ownT B0 2 hdr vals) (by simp)) (.int .i64 n) w.heap.size rfl (cell_one_new _ _ _) rfl (by unfold maxLen; omega) (by omega) (by simp; omega) ?_); intro g cap w7 own7 grow7 hat7 hlt7; have H7 := Lib.hid (HoldC.app HA2.out own7 grow7 hat7); have b7 : Boxed w7 bp 54 hdr := H7.out.i (t := boxT bp 54 #[hdr]) (by simp); have c7 := b7.cell; have z7 := b7.frozen)
  go_returns
  have H8 : HoldC F0 w0 w7 (us ++ boxT bp 54 #[hdr] :: ownT B0 2 (.slice (some ⟨g, 0, none⟩) (vals.length + 1) cap) (vals ++ [.int .i64 n]) :: ts) := by simpa using H7.out
  have hge := own_ge HO.out
  refine ⟨_, rfl, holdc_store H8, ?_, ?_⟩
  · exact (Kept.grown ((Kept.refl (fun k => k = bp ∨ B0 ≤ k) w).alloc _) grow7 (fun q e => .inl (.inr (hge q e)))).set (.inl (.inl rfl)) 0 _
  · have k2 := KeepsOthers.alloc w (.cells #[.int .i64 n] 2)
    have s6 := HA.out.i (t := ownT B0 2 hdr vals) (by simp)
    have k3 : KeepsOthers (w.alloc (.cells #[.int .i64 n] 2)) w7 := KeepsOthers.of_grownBy grow7 (fun j o ej ho => by
      obtain ⟨o', h1, h2⟩ := cel_own s6 j ej
      rw [ho] at h1
      injection h1 with h1
      rw [h1]
      exact h2)
    exact (k2.trans k3).trans (KeepsOthers.setCell w7 ⟨bp, 0, none⟩ _)
end Go.Proofs.YtkflggojiiebeaaGreat.Spn

namespace Go.Proofs.YtkflggojiiebeaaGreat.Spn
open Go Go.RowKit Lw Grd Lin Con Shp Sk Exa Lev Stk Pcs Go.Shelf
set_option linter.unusedVariables false
set_option linter.unusedSimpArgs false
attribute [local go_sem] Oper.semAt_some
theorem fld_bt (c : Cfg) (w : World) : (Instr.field 24 (.agg #[.int .i64 c.bt, .int .i64 c.rw, .int .i64 c.wd, .int .i64 c.md, .int .u64 c.sd]) 0).run Tryz.prog w = .ok (.int .i64 c.bt) w := by kernel_rfl
theorem ptc_ok {c : Cfg} (hr : IsRight c) {lo hi : Int} (hi0 : 0 ≤ hi) : okC c.bt lo hi = decide (ptC2 c lo hi = 0) := by
  have hb := hr.1
  have hb2 := hr.2.1
  have e0 : keys c 0 = 2 ^ (c.bt - 0).toNat := keys_yes hr (by omega) (by omega)
  have e9 : (c.bt - 0).toNat = c.bt.toNat := by omega
  rw [e9] at e0
  have e1 : p2 c.bt.toNat = keys c 0 := by rw [e0]; unfold p2; simp
  unfold okC ptC2
  rw [e1]
  refine decide_eq_decide.2 ?_
  by_cases h1 : hi < lo
  · rw [if_pos h1]
    constructor
    · rintro ⟨-, -, h2, -⟩
      omega
    · intro h; cases h
  · rw [if_neg h1]
    by_cases h2 : keys c 0 ≤ hi
    · rw [if_pos h2]
      constructor
      · rintro ⟨-, -, -, h3⟩
        omega
      · intro h; cases h
    · rw [if_neg h2]
      exact ⟨fun _ => rfl, fun _ => ⟨by omega, by omega, by omega, by omega⟩⟩
set_option maxRecDepth 100000 in
set_option maxHeartbeats 2000000 in
theorem sp_parts_1 (p : Addr) (F : Nat → Prop) (c : Cfg) (sts : List LS) (lo hi : Int) (w : World) (h : ST w p F c sts) (h1 : hi < lo) :
    Calls Tryz.prog 79 #[.pointer (some p), .int .u64 lo, .int .u64 hi] w fun e w' => ∃ (A : Option Addr) (n cap : Nat), e = .returned (.tuple #[.slice A n cap, .int .i64 (ptC2 c lo hi)]) ∧ Rd .i64 w' A (ptL c (fun L i => spV c sts (L : Int) i) lo hi) ∧ (ptL c (fun L i => spV c sts (L : Int) i) lo hi).length = n ∧ n ≤ cap ∧ cap ≤ maxLen ∧ Below w.heap.size w w' := by
  have e1 : ptC2 c lo hi = 1 := by unfold ptC2; rw [if_pos h1]
  have e2 : ptL c (fun L i => spV c sts (L : Int) i) lo hi = [] := by unfold ptL; rw [if_neg (by rw [e1]; decide)]
  rw [e1, e2]
  clear h e1 e2
  go_enter Tryz.func79, Tryz.ntmps79
  go_wp2
  refine bodyPost_ret (v := .tuple #[.slice none 0 0, .int .i64 1]) (by simp [results, Tryz.results79, go_sem]) rfl ?_
  exact ⟨none, 0, 0, rfl, fun j v hv => by simp at hv, rfl, Nat.le_refl _, by decide, Below.refl _ _⟩
set_option maxRecDepth 100000 in
set_option maxHeartbeats 2000000 in
theorem sp_parts_2 (p : Addr) (F : Nat → Prop) (c : Cfg) (sts : List LS) (lo hi : Int) (w : World) (h : ST w p F c sts) (lo0 : 0 ≤ lo) (lo1 : lo ≤ 18446744073709551615) (hi0 : 0 ≤ hi) (hi1 : hi ≤ 18446744073709551615) (h1 : ¬ hi < lo) (h2 : keys c 0 ≤ hi) :
    Calls Tryz.prog 79 #[.pointer (some p), .int .u64 lo, .int .u64 hi] w fun e w' => ∃ (A : Option Addr) (n cap : Nat), e = .returned (.tuple #[.slice A n cap, .int .i64 (ptC2 c lo hi)]) ∧ Rd .i64 w' A (ptL c (fun L i => spV c sts (L : Int) i) lo hi) ∧ (ptL c (fun L i => spV c sts (L : Int) i) lo hi).length = n ∧ n ≤ cap ∧ cap ≤ maxLen ∧ Below w.heap.size w w' := by
  have e1 : ptC2 c lo hi = 2 := by unfold ptC2; rw [if_neg h1, if_pos h2]
  have e2 : ptL c (fun L i => spV c sts (L : Int) i) lo hi = [] := by unfold ptL; rw [if_neg (by rw [e1]; decide)]
  have hok : okC c.bt lo hi = false := by rw [ptc_ok h.1 hi0, e1]; rfl
  have hb0 := h.1.1
  have hb1 := h.1.2.1
  rw [e1, e2]
  have HS := Lib.hid h
  have CC := Lib.hid (fun w => ccover_any c.bt lo hi w (by omega) (by omega) lo0 lo1 hi0 hi1)
  have f1 : decide (hi < lo) = false := decide_eq_false h1
  have hfd := fld_bt c
  clear h e1 e2 lo0 lo1 hi0 hi1 h2 hb0 hb1
  go_enter Tryz.func79, Tryz.ntmps79
  go_wp2_with (first
    | (go_at_call 53; (with_reducible refine (cs_config p F c sts _ HS.out).mono ?_); rintro e w1 ⟨rfl, hbe1⟩)
    | (go_at_call 113; (with_reducible refine (CC.out _).mono ?_); rintro e w2 ⟨A, n, cap, l, rfl, hI, hF, hbe2, -, -⟩; rw [hok]))
  refine bodyPost_ret (v := .tuple #[.slice none 0 0, .int .i64 2]) (by simp [results, Tryz.results79, go_sem]) rfl ?_
  exact ⟨none, 0, 0, rfl, fun j v hv => by simp at hv, rfl, Nat.le_refl _, by decide, hbe1.trans (hbe2.mono hbe1.size)⟩
theorem own_any16 {w : World} {B : Nat} {e : TypeId} {hdr : Value} {vals : List Value} (h : (ownT B e hdr vals).I w) : ∃ (A : Option Addr) (cap : Nat), hdr = .slice A vals.length cap ∧ vals.length ≤ cap ∧ cap ≤ maxLen ∧ ∀ (j : Nat) (v : Value), vals[j]? = some v → ∃ a, A = some a ∧ w.cell? (a.add j) = some v := by
  have h1 : w.ownsRow B e 1 hdr vals.length vals := h
  rcases h1.2 with h0 | ⟨g, cap, cur, rfl, h2, h3, h4, h5, h6⟩
  · have h2 := h0.2
    have h3 : vals = [] := List.eq_nil_of_length_eq_zero (by omega)
    subst h3
    exact ⟨none, 0, h0.1, Nat.le_refl _, by decide, fun j v hj => by simp at hj⟩
  · exact ⟨some ⟨g, 0, none⟩, cap, rfl, h4, by assumption, fun j v hj => ⟨_, rfl, h1.cells (g := g) rfl j v hj⟩⟩
theorem kept_put {m : Nat} {F : Nat → Prop} (hm : ∀ k, m ≤ k → F k) (W : World) (l : Nat) (o o' : Obj) (hl : m ≤ l) (h1 : W.heap[l]? = some o) (h2 : o.isCells = false) (h3 : o.isWalk = false) : Kept F W (W.putObj l o') :=
  ⟨rfl, rfl, rfl, by simp, fun k hk hF => World.putObj_heap_other (fun e => hF (hm k (by omega)))⟩
/-- What was gathered. -/
def gotV (c : Cfg) (sts : List LS) (l : List (Nat × Nat)) (pre : List (Lof l.length)) : List Value := pre.map (fun x => .int .i64 (spV c sts ((l[x.1]'x.2).1 : Int) ((l[x.1]'x.2).2 : Int)))
theorem got_all {c : Cfg} {sts : List LS} {l : List (Nat × Nat)} {xs : List (Lof l.length)} (hup : UpTo xs) (hl : xs.length = l.length) : gotV c sts l xs = (l.map (fun p => spV c sts ((p.1 : Nat) : Int) ((p.2 : Nat) : Int))).map (Value.int .i64) := by
  refine List.ext_getElem? (fun i => ?_)
  unfold gotV
  rw [List.getElem?_map, List.getElem?_map, List.getElem?_map]
  by_cases hi : i < xs.length
  · obtain ⟨x, hx⟩ : ∃ x, xs[i]? = some x := ⟨_, List.getElem?_eq_getElem hi⟩
    have h3 : (xs.map (fun x => x.1))[i]? = some x.1 := by rw [List.getElem?_map, hx]; rfl
    rw [hup, List.getElem?_range (by omega)] at h3
    injection h3 with h3
    have h4 : l[i]? = some (l[x.1]'x.2) := by rw [h3]; exact List.getElem?_eq_getElem x.2
    rw [hx, h4]
    rfl
  · rw [List.getElem?_eq_none (by omega), List.getElem?_eq_none (by omega)]
    rfl
set_option maxRecDepth 100000 in
set_option maxHeartbeats 2000000 in
theorem sp_parts_3 (p : Addr) (F : Nat → Prop) (c : Cfg) (sts : List LS) (lo hi : Int) (w : World) (h : ST w p F c sts) (lo0 : 0 ≤ lo) (lo1 : lo ≤ 18446744073709551615) (hi0 : 0 ≤ hi) (hi1 : hi ≤ 18446744073709551615) (h1 : ¬ hi < lo) (h2 : ¬ keys c 0 ≤ hi) :
    Calls Tryz.prog 79 #[.pointer (some p), .int .u64 lo, .int .u64 hi] w fun e w' => ∃ (A : Option Addr) (n cap : Nat), e = .returned (.tuple #[.slice A n cap, .int .i64 (ptC2 c lo hi)]) ∧ Rd .i64 w' A (ptL c (fun L i => spV c sts (L : Int) i) lo hi) ∧ (ptL c (fun L i => spV c sts (L : Int) i) lo hi).length = n ∧ n ≤ cap ∧ cap ≤ maxLen ∧ Below w.heap.size w w' := by
  have e1 : ptC2 c lo hi = 0 := by unfold ptC2; rw [if_neg h1, if_neg h2]
  have e2 : ptL c (fun L i => spV c sts (L : Int) i) lo hi = parts c (fun L i => spV c sts (L : Int) i) lo hi := by unfold ptL; rw [if_pos e1]
  have e3 := parts_len16 h.1 (fun L i => spV c sts (L : Int) i) lo hi lo0
  have hok : okC c.bt lo hi = true := by rw [ptc_ok h.1 hi0, e1]; rfl
  have hb0 := h.1.1
  have hb1 := h.1.2.1
  rw [e2] at e3
  rw [e1, e2]
  have HS := Lib.hid h
  have HLEN := Lib.hid e3
  have CC := Lib.hid (fun w => ccover_any c.bt lo hi w (by omega) (by omega) lo0 lo1 hi0 hi1)
  have f1 : decide (hi < lo) = false := decide_eq_false h1
  have hfd := fld_bt c
  clear h e1 e2 e3 lo0 lo1 hi0 hi1 h2 hb0 hb1
  refine (callsIn_wide (n := 9)).1 ?_
  refine callsIn_of_wp_marks Tryz.func79 rfl trivial ?_ rfl
  simp only [Tryz.ntmps79, List.size_toArray, List.length_cons, List.length_nil, Nat.reduceAdd, Nat.reduceSub, Array.replicate_succ, Array.replicate_zero, List.push_toArray, List.append_toArray, List.nil_append, List.cons_append]
  gi_wp2_with (first
    | (refine ⟨trivial, ?_⟩; gi_at_call 53; refine (callsIn_wide.2 (cs_config p F c sts _ HS.out)).mono ?_; rintro e w1 ⟨rfl, hbe1⟩)
    | (refine ⟨trivial, ?_⟩; gi_at_call 113; refine (callsIn_wide.2 (CC.out _)).mono ?_; rintro e w2 ⟨A, n, cap, l, rfl, hI, hF, hbe2, hcov, -⟩; rw [hok])
    | (refine ⟨trivial, ?_⟩; gi_at_call 115; refine (callsIn_wide.2 (told_any _ _ _ _ _)).mono ?_; rintro e w3 ⟨rfl, rfl⟩))
  have hpl : l.length ≤ 1000 ∧ parts c (fun L i => spV c sts (L : Int) i) lo hi = l.map (fun q => spV c sts ((q.1 : Nat) : Int) ((q.2 : Nat) : Int)) := by
    have h5 := HLEN.out
    unfold parts at h5 ⊢
    rw [covL_eq (hcov hok)] at h5 ⊢
    rw [List.length_map] at h5
    exact ⟨h5, rfl⟩
  obtain ⟨hl1, hl2⟩ := hpl
  have HL2 := Lib.hid hl2
  have HI := Lib.hid hI
  have hFs : ∀ k, F k → k < w.heap.size := fun k hk => (stT p F c sts).lt w HS.out k hk
  have hPc : ∀ k, (pcT A n cap (ints l)).F k → k < w2.heap.size := fun k hk => (pcT A n cap (ints l)).lt w2 HI.out k hk
  have hsz1 := hbe1.size
  have hsz2 := hbe2.size
  have W1 := Lib.hid (hbe1.trans (hbe2.mono hbe1.size))
  clear hI hF hcov hl2
  have P0 : HoldC (fun _ => False) w2 w2 [] := HoldC.start0 (Below.refl _ w2)
  have P1 := P0.push (ownT (w2.heap.size + 4) 2 (.slice none 0 0) []) (Below.refl _ _) (own_nil _ _ _) (fun k hk => own_nilF _ _ hk) (cel_own (own_nil _ _ _))
  have hx1 := heap_alloc_new w2 (.cells #[.slice none 0 0] 54)
  have P2 := P1.push (boxT w2.heap.size 54 #[.slice none 0 0]) (Lw.below_alloc (Below.refl _ _) _) hx1 (fun k hk => Nat.le_of_eq hk.symm) (cel_box hx1)
  have hx2 := heap_alloc_new (w2.alloc (.cells #[.slice none 0 0] 54)) (.cells #[.func (.func 114) #[] #[.pointer (some ⟨w2.heap.size, 0, none⟩)]] 212)
  have hx3 := heap_alloc_new ((w2.alloc (.cells #[.slice none 0 0] 54)).alloc (.cells #[.func (.func 114) #[] #[.pointer (some ⟨w2.heap.size, 0, none⟩)]] 212)) (.cells #[.pointer (some p)] 30)
  have hx4 := heap_alloc_new (((w2.alloc (.cells #[.slice none 0 0] 54)).alloc (.cells #[.func (.func 114) #[] #[.pointer (some ⟨w2.heap.size, 0, none⟩)]] 212)).alloc (.cells #[.pointer (some p)] 30)) (.cells #[.slice A n cap] 118)
  simp only [World.size_alloc] at hx2 hx3 hx4
  have P3 := P2.push (boxT (w2.heap.size + 1) 212 #[.func (.func 114) #[] #[.pointer (some ⟨w2.heap.size, 0, none⟩)]]) (Lw.below_alloc (Below.refl _ _) _) hx2 (fun k hk => Nat.le_of_eq (by simp; exact hk.symm)) (cel_box hx2)
  have P4 := P3.push (boxT (w2.heap.size + 1 + 1) 30 #[.pointer (some p)]) (Lw.below_alloc (Below.refl _ _) _) hx3 (fun k hk => Nat.le_of_eq (by simp; exact hk.symm)) (cel_box hx3)
  have P5 := P4.push (boxT (w2.heap.size + 1 + 1 + 1) 118 #[.slice A n cap]) (Lw.below_alloc (Below.refl _ _) _) hx4 (fun k hk => Nat.le_of_eq (by simp; exact hk.symm)) (cel_box hx4)
  clear P0 P1 P2 P3 P4 hx1 hx2 hx3 hx4
  have BB : Below w2.heap.size w2 ((((w2.alloc (.cells #[.slice none 0 0] 54)).alloc (.cells #[.func (.func 114) #[] #[.pointer (some ⟨w2.heap.size, 0, none⟩)]] 212)).alloc (.cells #[.pointer (some p)] 30)).alloc (.cells #[.slice A n cap] 118)) := Lw.below_alloc (Lw.below_alloc (Lw.below_alloc (Lw.below_alloc (Below.refl _ _) _) _) _) _
  obtain ⟨W0, hW0⟩ : ∃ W0, ((((w2.alloc (.cells #[.slice none 0 0] 54)).alloc (.cells #[.func (.func 114) #[] #[.pointer (some ⟨w2.heap.size, 0, none⟩)]] 212)).alloc (.cells #[.pointer (some p)] 30)).alloc (.cells #[.slice A n cap] 118)) = W0 := ⟨_, rfl⟩
  have hsz : W0.heap.size = w2.heap.size + 4 := by rw [← hW0]; simp
  rw [hW0] at P5 BB ⊢
  clear hW0
  refine wpIn_rangeFunc_ownG rfl (by omega) (gf := 147) (lb := #[.pointer (some ⟨w2.heap.size + 1 + 1 + 1, 0, none⟩), .pointer (some ⟨w2.heap.size + 1 + 1, 0, none⟩)]) (S := fun xs => UpTo xs ∧ xs.length = l.length) (Sp := UpTo) (N := l.length) (encs := encP c sts l) (Kp := Kept (fun k => k = w2.heap.size ∨ W0.heap.size ≤ k)) (w0 := W0) rfl trivial (enters_of Tryz.func147 (by kernel_rfl) rfl)
    (fun lp J Jx W hW hJ hJx hY h0 => told_iter (9 - 1) (by omega) c sts p F (fun k => k = w2.heap.size ∨ W0.heap.size ≤ k) lp (w2.heap.size + 1 + 1 + 1) (w2.heap.size + 1 + 1) n cap A l hl1 J Jx W hJ hY (HS.out.up (W1.out.trans ((BB.trans (hW.mono BB.size)).mono (by omega)))) (fun k hk h => by have := hFs k hk; omega) (cell_up (box_cell (P5.i (t := boxT (w2.heap.size + 1 + 1 + 1) 118 #[.slice A n cap]) (by simp)) (i := 0) rfl) hW) (by omega) (cell_up (box_cell (P5.i (t := boxT (w2.heap.size + 1 + 1) 30 #[.pointer (some p)]) (by simp)) (i := 0) rfl) hW) (by omega) ((pcT A n cap (ints l)).keep w2 W (fun _ => False) HI.out (Kept.of_below (BB.trans (hW.mono BB.size))) (fun _ _ h => h)) (fun k hk h => by have := hPc k hk; omega) h0)
    (fun h k => h.trans k (fun _ _ h => h)) (fun W lp o o' hl h1 h2 h3 => kept_put (fun k hk => .inr hk) W lp o o' hl h1 h2 h3) (Below.refl _ _) (fun _ => rfl)
    (fun pre W => ∃ hdr, HoldC (fun _ => False) w2 W ([boxT (w2.heap.size + 1 + 1 + 1) 118 #[.slice A n cap], boxT (w2.heap.size + 1 + 1) 30 #[.pointer (some p)], boxT (w2.heap.size + 1) 212 #[.func (.func 114) #[] #[.pointer (some ⟨w2.heap.size, 0, none⟩)]]] ++ boxT w2.heap.size 54 #[hdr] :: ownT (w2.heap.size + 4) 2 hdr (gotV c sts l pre) :: []))
    (fun _ _ _ => False)
    (by
      rintro s X Y row ⟨hdr, h⟩ hg hr
      exact ⟨hdr, HoldC.own (by omega) (fun (_ : Unit) => _) () X Y row h hg hr⟩)
    (fun _ _ _ _ _ hs _ _ => hs)
    ⟨_, P5⟩
    (fun x => { tmps := #[.pointer (some p), .int .u64 lo, .int .u64 hi, undef, undef, undef, .slice none 0 0, .int .i64 0, .slice A n cap, .bool true, .pointer (some ⟨w2.heap.size, 0, none⟩), .pointer (some ⟨w2.heap.size + 1, 0, none⟩), .int .i64 (spV c sts ((l[x.1]'x.2).1 : Int) ((l[x.1]'x.2).2 : Int)), .int .u64 lo, .int .u64 hi, .bool false, .tuple #[.slice A n cap, .bool true], .pointer (some p), .agg #[.int .i64 c.bt, .int .i64 c.rw, .int .i64 c.wd, .int .i64 c.md, .int .u64 c.sd], .int .i64 c.bt, .int .u64 lo, .int .u64 hi, .tuple #[.slice A n cap, .bool true], .slice A n cap, .bool true, .bool true, .bool false, .func (.func 114) #[] #[.pointer (some ⟨w2.heap.size, 0, none⟩)], .pointer (some p), .slice A n cap, .func (.func 147) #[] #[.pointer (some ⟨w2.heap.size + 1 + 1 + 1, 0, none⟩), .pointer (some ⟨w2.heap.size + 1 + 1, 0, none⟩)], .int .i64 (spV c sts ((l[x.1]'x.2).1 : Int) ((l[x.1]'x.2).2 : Int)), undef, undef, undef, undef], defers := [] }) ?assign ?body ?done ?stop
  case assign =>
    intro lp x W K hK
    simp only [encP]
    gi_wp2
    exact hK
  case body =>
    rintro lp pre x W ⟨hdr, hh⟩ hlen
    have b1 := box_cell (hh.i (t := boxT (w2.heap.size + 1) 212 #[.func (.func 114) #[] #[.pointer (some ⟨w2.heap.size, 0, none⟩)]]) (by simp)) (i := 0) rfl
    have hsw : w2.heap.size + 4 ≤ W.heap.size := by
      have := box_lt (hh.i (t := boxT (w2.heap.size + 1 + 1 + 1) 118 #[.slice A n cap]) (by simp))
      omega
    gi_wp2_with (refine ⟨trivial, ?_⟩; gi_at_call 114; refine (CallsIn.inRound lp (callsIn_wide.2 (gather_any w2.heap.size (w2.heap.size + 4) (fun _ => False) w2 W hdr (gotV c sts l pre) _ _ [] hh (by unfold gotV; rw [List.length_map]; omega) hsw))).mono ?_; rintro e W3 ⟨hdr3, rfl, hh3, hk3, ho3⟩)
    refine ⟨ho3.from _, by rw [hsz]; exact hk3, hdr3, ?_⟩
    have e7 : gotV c sts l (pre ++ [x]) = gotV c sts l pre ++ [.int .i64 (spV c sts ((l[x.1]'x.2).1 : Int) ((l[x.1]'x.2).2 : Int))] := by unfold gotV; rw [List.map_append]; rfl
    rw [e7]
    exact hh3
  case done =>
    rintro D ys W hD ⟨hup, hyl⟩ ⟨hdr, hh⟩ hK
    have o1 := box_cell (hh.i (t := boxT w2.heap.size 54 #[hdr]) (by simp)) (i := 0) rfl
    gi_wp2
    refine ⟨by simp, .inl ⟨_, _, rfl, run_takeDeferred hK, ?_⟩⟩
    have hs2 := HoldC.own (B := W0.heap.size) (by omega) (fun (_ : Unit) => _) () _ _ _ hh (grownBy_putObj' _ D (.deferred none)) (fun r e => by cases e; exact ⟨hD, _, hK, rfl⟩)
    obtain ⟨A2, cap2, rfl, g1, g2, g3⟩ := own_any16 (hs2.i (t := ownT (w2.heap.size + 4) 2 hdr (gotV c sts l ys)) (by simp))
    have e8 := got_all (c := c) (sts := sts) hup hyl
    have e9 : (gotV c sts l ys).length = l.length := by rw [e8]; simp
    rw [HL2.out]
    refine ⟨_, ?_, A2, (gotV c sts l ys).length, cap2, rfl, fun j v hj => g3 j _ (by rw [e8, List.getElem?_map, hj]; rfl), by rw [e9]; simp, g1, g2, W1.out.trans (hs2.1.1.below.mono (by omega))⟩
    simp [results, Tryz.results79, go_sem]
  case stop =>
    rintro D j pre W _ _ h _
    exact h.elim
theorem sp_parts (p : Addr) (F : Nat → Prop) (c : Cfg) (sts : List LS) (lo hi : Int) (w : World) (h : ST w p F c sts) (lo0 : 0 ≤ lo) (lo1 : lo ≤ 18446744073709551615) (hi0 : 0 ≤ hi) (hi1 : hi ≤ 18446744073709551615) :
    Calls Tryz.prog 79 #[.pointer (some p), .int .u64 lo, .int .u64 hi] w fun e w' => ∃ (A : Option Addr) (n cap : Nat), e = .returned (.tuple #[.slice A n cap, .int .i64 (ptC2 c lo hi)]) ∧ Rd .i64 w' A (ptL c (fun L i => spV c sts (L : Int) i) lo hi) ∧ (ptL c (fun L i => spV c sts (L : Int) i) lo hi).length = n ∧ n ≤ cap ∧ cap ≤ maxLen ∧ Below w.heap.size w w' := by
  by_cases h1 : hi < lo
  · exact sp_parts_1 p F c sts lo hi w h h1
  · by_cases h2 : keys c 0 ≤ hi
    · exact sp_parts_2 p F c sts lo hi w h lo0 lo1 hi0 hi1 h1 h2
    · exact sp_parts_3 p F c sts lo hi w h lo0 lo1 hi0 hi1 h1 h2
set_option maxRecDepth 100000 in
set_option maxHeartbeats 2000000 in
theorem sp_range (p : Addr) (F : Nat → Prop) (c : Cfg) (sts : List LS) (lo hi : Int) (w : World) (h : ST w p F c sts) (lo0 : 0 ≤ lo) (lo1 : lo ≤ 18446744073709551615) (hi0 : 0 ≤ hi) (hi1 : hi ≤ 18446744073709551615) :
    Calls Tryz.prog 40 #[.pointer (some p), .int .u64 lo, .int .u64 hi] w fun e w' => e = .returned (.tuple #[.int .i64 (rgV c (fun L i => spV c sts (L : Int) i) lo hi), .int .i64 (rgC c (fun L i => spV c sts (L : Int) i) lo hi)]) ∧ Below w.heap.size w w' := by
  have CP := Lib.hid (fun w h => sp_parts p F c sts lo hi w h lo0 lo1 hi0 hi1)
  have HS := Lib.hid h
  have HL := Lib.hid (parts_len16 h.1 (fun L i => spV c sts (L : Int) i) lo hi lo0)
  have HI := Lib.hid (parts_in16 h lo hi)
  clear h lo0 lo1 hi0 hi1
  by_cases hc : ptC2 c lo hi = 0
  · have e2 : ptL c (fun L i => spV c sts (L : Int) i) lo hi = parts c (fun L i => spV c sts (L : Int) i) lo hi := by unfold ptL; rw [if_pos hc]
    rw [e2] at HL HI
    have HC := Lib.hid hc
    have HE2 := Lib.hid e2
    obtain ⟨fb, hfb⟩ : ∃ fb, Wid.fit64 (parts c (fun L i => spV c sts (L : Int) i) lo hi).sum = fb := ⟨_, rfl⟩
    have HFB := Lib.hid hfb
    have HV : Hid (rgC c (fun L i => spV c sts (L : Int) i) lo hi = (if fb = true then 0 else 4) ∧ rgV c (fun L i => spV c sts (L : Int) i) lo hi = (if fb = true then (parts c (fun L i => spV c sts (L : Int) i) lo hi).sum else 0)) := Lib.hid (by
      have e5 : rgC c (fun L i => spV c sts (L : Int) i) lo hi = (if fb = true then 0 else 4) := by unfold rgC; rw [if_pos hc, hfb]
      refine ⟨e5, ?_⟩
      unfold rgV
      rw [e5]
      cases fb <;> simp)
    rw [HV.out.1, HV.out.2]
    clear HV hc e2 hfb
    cases fb with
    | true =>
      have e6 : Wid.f64 (parts c (fun L i => spV c sts (L : Int) i) lo hi).sum = (parts c (fun L i => spV c sts (L : Int) i) lo hi).sum := by unfold Wid.f64; rw [if_pos HFB.out]
      have HE6 := Lib.hid e6
      clear e6
      go_enter Tryz.func40, Tryz.ntmps40
      go_wp2_with (first
        | (go_at_call 79; (refine (CP.out _ HS.out).mono ?_); rintro e w1 ⟨A, n, cap, rfl, hr1, hl1, hn1, hm1, hb1⟩; rw [HC.out]; rw [HE2.out] at hr1 hl1)
        | (go_at_call 80; (refine (Wid.sum_any A n cap _ _ hr1 hl1 (by rw [← hl1]; exact HL.out) HI.out).mono ?_); rintro e w2 ⟨rfl, hb2⟩; rw [HFB.out, HE6.out]))
      refine bodyPost_ret (v := .tuple #[.int .i64 (parts c (fun L i => spV c sts (L : Int) i) lo hi).sum, .int .i64 0]) (by simp [results, Tryz.results40, go_sem]) rfl ?_
      exact ⟨rfl, hb1.trans (hb2.mono hb1.size)⟩
    | false =>
      have e6 : Wid.f64 (parts c (fun L i => spV c sts (L : Int) i) lo hi).sum = 0 := by unfold Wid.f64; rw [if_neg (by rw [HFB.out]; decide)]
      have HE6 := Lib.hid e6
      clear e6
      go_enter Tryz.func40, Tryz.ntmps40
      go_wp2_with (first
        | (go_at_call 79; (refine (CP.out _ HS.out).mono ?_); rintro e w1 ⟨A, n, cap, rfl, hr1, hl1, hn1, hm1, hb1⟩; rw [HC.out]; rw [HE2.out] at hr1 hl1)
        | (go_at_call 80; (refine (Wid.sum_any A n cap _ _ hr1 hl1 (by rw [← hl1]; exact HL.out) HI.out).mono ?_); rintro e w2 ⟨rfl, hb2⟩; rw [HFB.out, HE6.out]))
      refine bodyPost_ret (v := .tuple #[.int .i64 0, .int .i64 4]) (by simp [results, Tryz.results40, go_sem]) rfl ?_
      exact ⟨rfl, hb1.trans (hb2.mono hb1.size)⟩
  · have e5 : rgC c (fun L i => spV c sts (L : Int) i) lo hi = ptC2 c lo hi := by unfold rgC; rw [if_neg hc]
    have e6 : rgV c (fun L i => spV c sts (L : Int) i) lo hi = 0 := by unfold rgV; rw [e5, if_neg hc]
    rw [e5, e6]
    clear e5 e6
    obtain ⟨C, hC⟩ : ∃ C, ptC2 c lo hi = C := ⟨_, rfl⟩
    have HC := Lib.hid hC
    rw [hC] at hc ⊢
    clear hC
    go_enter Tryz.func40, Tryz.ntmps40
    go_wp2_with (go_at_call 79; (refine (CP.out _ HS.out).mono ?_); rintro e w1 ⟨A, n, cap, rfl, hr1, hl1, hn1, hm1, hb1⟩; rw [HC.out])
    refine bodyPost_ret (v := .tuple #[.int .i64 0, .int .i64 C]) (by simp [results, Tryz.results40, go_sem]) rfl ?_
    exact ⟨rfl, hb1⟩
end Go.Proofs.YtkflggojiiebeaaGreat.Spn

namespace Go.Proofs.YtkflggojiiebeaaGreat.Smr
open Go Go.RowKit Lw Grd Lin Con Shp Sk Exa Lev Stk Pcs Spn Qnt Hvy
set_option linter.unusedVariables false
set_option linter.unusedSimpArgs false
theorem u64_info : (Tryz.prog.info? 22).map (fun i => (i.zero, i.size, i.bytes)) = some (some (.int .u64 0), 1, 8) := by kernel_rfl
theorem u64s_u : Tryz.prog.underlying 66 = some (.slice 22) := by kernel_rfl
theorem i64_info : (Tryz.prog.info? 2).map (fun i => (i.zero, i.size, i.bytes)) = some (some (.int .i64 0), 1, 8) := by kernel_rfl
theorem i64s_u : Tryz.prog.underlying 54 = some (.slice 2) := by kernel_rfl
theorem one_u64 (a : Int) : ∀ u ∈ ([.int .u64 a] : List Value), u.oneCell' = true := by
  intro u hu
  rw [List.mem_singleton.1 hu]
  rfl
theorem one_i64 (a : Int) : ∀ u ∈ ([.int .i64 a] : List Value), u.oneCell' = true := by
  intro u hu
  rw [List.mem_singleton.1 hu]
  rfl
def encS (s : Int × Int) : List Value := [.int .u64 s.1, .int .u64 s.2]
theorem encS_len (s : Int × Int) : (encS s).length = 2 := rfl
set_option maxRecDepth 100000 in
set_option maxHeartbeats 4000000 in
theorem clos_q (p : Addr) (F : Nat → Prop) (c : Cfg) (sts : List LS) (b : Nat) (k : Int) (w : World) (h : ST w p F c sts) (hb : w.cell? ⟨b, 0, none⟩ = some (.pointer (some p))) (k0 : -9223372036854775808 ≤ k) (k1 : k ≤ 9223372036854775807) :
    Calls Tryz.prog 66 #[.int .i64 k, .pointer (some ⟨b, 0, none⟩)] w fun e w' => e = .returned (.tuple #[.int .u64 (qnF c (fun L i => spV c sts (L : Int) i) k).1, .int .i64 (qnF c (fun L i => spV c sts (L : Int) i) k).2]) ∧ Below w.heap.size w w' := by
  have CQ := Lib.hid (qn_quant p F c sts k w h k0 k1)
  show Calls _ _ _ _ fun e w' => e = .returned (.tuple #[.int .u64 (qnV c (fun L i => spV c sts (L : Int) i) k), .int .i64 (qnC c (fun L i => spV c sts (L : Int) i) k)]) ∧ Below w.heap.size w w'
  obtain ⟨V, hV⟩ : ∃ v, qnV c (fun L i => spV c sts (L : Int) i) k = v := ⟨_, rfl⟩
  obtain ⟨E, hE⟩ : ∃ v, qnC c (fun L i => spV c sts (L : Int) i) k = v := ⟨_, rfl⟩
  rw [hV, hE] at CQ ⊢
  clear hV hE h k0 k1
  go_enter Tryz.func66, Tryz.ntmps66
  go_wp2_with (go_at_call 39; (with_reducible refine (CQ.out).mono ?_); rintro e w1 ⟨rfl, hb1⟩; have HB1 := Lib.hid hb1; clear hb1)
  refine bodyPost_ret (v := .tuple #[.int .u64 V, .int .i64 E]) (by simp [results, Tryz.results66, go_sem]) rfl ?_
  exact ⟨rfl, HB1.out⟩
set_option maxRecDepth 100000 in
set_option maxHeartbeats 4000000 in
theorem clos_r (p : Addr) (F : Nat → Prop) (c : Cfg) (sts : List LS) (b : Nat) (lo hi : Int) (w : World) (h : ST w p F c sts) (hb : w.cell? ⟨b, 0, none⟩ = some (.pointer (some p))) (l0 : 0 ≤ lo) (l1 : lo ≤ 18446744073709551615) (i0 : 0 ≤ hi) (i1 : hi ≤ 18446744073709551615) :
    Calls Tryz.prog 70 #[.agg #[.int .u64 lo, .int .u64 hi], .pointer (some ⟨b, 0, none⟩)] w fun e w' => e = .returned (.tuple #[.int .i64 (rgF c (fun L i => spV c sts (L : Int) i) (lo, hi)).1, .int .i64 (rgF c (fun L i => spV c sts (L : Int) i) (lo, hi)).2]) ∧ Below w.heap.size w w' := by
  have HX := Lib.hid (Lw.below_alloc (Below.refl _ w) (.cells #[.int .u64 lo, .int .u64 hi] 155))
  have CQ := Lib.hid (sp_range p F c sts lo hi _ (h.up HX.out) l0 l1 i0 i1)
  have hc := cell_up hb HX.out
  show Calls _ _ _ _ fun e w' => e = .returned (.tuple #[.int .i64 (rgV c (fun L i => spV c sts (L : Int) i) lo hi), .int .i64 (rgC c (fun L i => spV c sts (L : Int) i) lo hi)]) ∧ Below w.heap.size w w'
  obtain ⟨V, hV⟩ : ∃ v, rgV c (fun L i => spV c sts (L : Int) i) lo hi = v := ⟨_, rfl⟩
  obtain ⟨E, hE⟩ : ∃ v, rgC c (fun L i => spV c sts (L : Int) i) lo hi = v := ⟨_, rfl⟩
  rw [hV, hE] at CQ ⊢
  clear hV hE h l0 l1 i0 i1 hb
  go_enter Tryz.func70, Tryz.ntmps70
  go_wp2_with (go_at_call 40; (with_reducible refine (CQ.out).mono ?_); rintro e w1 ⟨rfl, hb1⟩; have HB1 := Lib.hid (HX.out.trans (hb1.mono HX.out.size)); clear hb1)
  refine bodyPost_ret (v := .tuple #[.int .i64 V, .int .i64 E]) (by simp [results, Tryz.results70, go_sem]) rfl ?_
  exact ⟨rfl, HB1.out⟩
set_option maxRecDepth 100000 in
set_option maxHeartbeats 4000000 in
theorem gather_q (p : Addr) (F : Nat → Prop) (c : Cfg) (sts : List LS) (b : Nat) (A : Option Addr) (n cap : Nat) (ks : List (Int)) (w : World) (h : ST w p F c sts) (hb : w.cell? ⟨b, 0, none⟩ = some (.pointer (some p))) (hA : A = none → n = 0 ∧ cap = 0) (hrd : Rd .i64 w A ks) (hl : ks.length = n) (hz : In64 ks) (hn : n ≤ 4096) :
    Calls Tryz.prog 65 #[.slice A n cap, .func (.func 66) #[] #[.pointer (some ⟨b, 0, none⟩)]] w fun e w' => ∃ (A2 : Option Addr) (n2 cap2 : Nat), e = .returned (.tuple #[.slice A2 n2 cap2, .int .i64 (manyC (qnF c (fun L i => spV c sts (L : Int) i)) ks)]) ∧ w'.ownsRow w.heap.size 22 1 (.slice A2 n2 cap2) n2 ((manyL (qnF c (fun L i => spV c sts (L : Int) i)) ks).map (Value.int .u64)) ∧ (manyL (qnF c (fun L i => spV c sts (L : Int) i)) ks).length = n2 ∧ Below w.heap.size w w' := by
  have HD := Lib.hid h
  have HB := Lib.hid hb
  have HZ := Lib.hid hz
  have HRD := Lib.hid hrd
  have HL := Lib.hid hl
  have HN := Lib.hid hn
  obtain ⟨i0, hi_, hz0, hz1, hz2⟩ := info_parts u64_info
  clear h hb hz hn hrd hl hA
  go_enter Tryz.func65, Tryz.ntmps65
  go_wp2
  go_loopw [6, 13] (fun av iv wr => ∃ (t : Nat), t ≤ n ∧ iv = .int .i64 (t : Int) ∧ (∀ q ∈ ks.take t, ((qnF c (fun L i => spV c sts (L : Int) i)) q).2 = 0) ∧ Have w wr [ownK w.heap.size 22 1 av t (((ks.take t).map (fun q => ((qnF c (fun L i => spV c sts (L : Int) i)) q).1)).map (Value.int .u64))]) (fun _ iv _ => n - (intOf iv).toNat)
  case atStart => exact ⟨0, Nat.zero_le _, rfl, fun q hq => by simp at hq, (Have.nil w).push (ownK w.heap.size 22 1 (.slice none 0 0) 0 []) (Below.refl _ _) (World.ownsRow_nil w _ _ _) (fun k hk => by cases hk)⟩
  case round =>
    obtain ⟨t, ht, rfl, hok, hv⟩ := hrel
    have HVr := Lib.hid hv
    have HOK := Lib.hid hok
    clear hv hok
    by_cases hlt : t < n
    · have lt0 : (0 : Int) ≤ (t : Int) := by omega
      have lt1 : (t : Int) < (n : Int) := by omega
      obtain ⟨q, hq⟩ : ∃ q, ks[t]? = some q := ⟨_, List.getElem?_eq_getElem (by rw [HL.out]; exact hlt)⟩
      have HQ := Lib.hid hq
      have hzq := HZ.out q (List.mem_of_getElem? hq)
      obtain ⟨V, hV⟩ : ∃ v, ((qnF c (fun L i => spV c sts (L : Int) i)) q).1 = v := ⟨_, rfl⟩
      obtain ⟨E, hE⟩ : ∃ v, ((qnF c (fun L i => spV c sts (L : Int) i)) q).2 = v := ⟨_, rfl⟩
      have HVE := Lib.hid (And.intro hV hE)
      obtain ⟨ad, rfl, hcz⟩ := HRD.out _ _ hq
      have d1 := cell_up hcz HVr.out.below
      have CC : Hid (∀ w9, ST w9 p F c sts → w9.cell? ⟨b, 0, none⟩ = some (.pointer (some p)) → Calls Tryz.prog 66 #[.int .i64 q, .pointer (some ⟨b, 0, none⟩)] w9 fun e w' => e = .returned (.tuple #[.int .u64 V, .int .i64 E]) ∧ Below w9.heap.size w9 w') := Lib.hid (fun w9 h1 h2 => by rw [← hV, ← hE]; exact clos_q p F c sts b q w9 h1 h2 hzq.1 hzq.2)
      clear hq hcz hV hE hzq
      by_cases hE0 : E = 0
      · subst hE0
        have HNX := Lib.hid (all_next (p := fun q => ((qnF c (fun L i => spV c sts (L : Int) i)) q).2 = 0) HQ.out HOK.out HVE.out.2)
        have HTK : Hid ((((ks.take (t + 1)).map (fun q => ((qnF c (fun L i => spV c sts (L : Int) i)) q).1)).map (Value.int .u64)) = (((ks.take t).map (fun q => ((qnF c (fun L i => spV c sts (L : Int) i)) q).1)).map (Value.int .u64)) ++ [.int .u64 V]) := Lib.hid (by rw [take_next HQ.out, List.map_append, List.map_append]; show _ ++ [Value.int .u64 ((qnF c (fun L i => spV c sts (L : Int) i)) _).1] = _; rw [HVE.out.1])
        go_upto_region 8 with (go_at_call 66; (with_reducible refine (CC.out _ (HD.out.up HVr.out.below) (cell_up HB.out HVr.out.below)).mono ?_); rintro e w5 ⟨rfl, hb⟩; have HV5 := Lib.hid (HVr.out.up hb); clear hb)
        have n4 := HN.out
        go_wp2_with (at_builtin; go_must (refine wpList_append_lies _ rfl _ _ 66 rfl w.heap.size 22 i0 (.int .u64 0) 1 8 u64s_u hi_ hz0 hz1 hz2 rfl (by decide) _ _ _ rfl ((okI HV5.out.i0).alloc _) ⟨_, 0, none⟩ 1 1 [.int .u64 V] rfl rfl (World.news_of_block (heap_alloc_new w5 _)) (one_u64 _) (by decide) (by unfold maxLen; omega) (by omega) (by simp; have := HV5.out.below.size; omega) _ rfl ?_); intro g7 cap7 w7 hown7 hgrow7 hat7 hlt7)
        have HVa := Lib.hid (HV5.out.up (Lw.below_alloc (Below.refl _ w5) (.cells #[.int .u64 V] 22)))
        have HV7 := Lib.hid (turn0K HVa.out hown7 hgrow7 hat7)
        go_roundw
        case rel => exact ⟨t + 1, by omega, by go_num, HNX.out, by rw [HTK.out]; exact HV7.out.up (by repeat' (first | (with_reducible first | exact Below.refl _ _ | assumption | refine below_over ?_ _ _ | refine Lw.below_alloc ?_ _ | refine Below.drew ?_ | refine below_drewN ?_ _ | refine Below.setCell ?_ ?_ _) | go_size))⟩
        case measure => simp [intOf]; omega
      · have hE1 : ((E : Int) == 0) = false := beq_eq_false_iff_ne.2 hE0
        have hE2 : ((E : Int) != 0) = true := by simp [hE0]
        have HMA := Lib.hid (many_at HQ.out HOK.out (by rw [HVE.out.2]; exact hE0))
        have HEE := Lib.hid HVE.out.2
        go_wp2_with (go_at_call 66; (with_reducible refine (CC.out _ (HD.out.up HVr.out.below) (cell_up HB.out HVr.out.below)).mono ?_); rintro e w5 ⟨rfl, hb⟩; have HV5 := Lib.hid (HVr.out.up hb); clear hb)
        refine bodyPost_ret (v := .tuple #[.slice none 0 0, .int .i64 E]) (by simp [results, Tryz.results65, go_sem]) rfl ?_
        rw [HMA.out.1, HMA.out.2, HEE.out]
        exact ⟨none, 0, 0, rfl, World.ownsRow_nil _ _ _ _, rfl, HV5.out.below⟩
    · obtain rfl : t = n := by omega
      have lt1 : ¬ (t : Int) < (t : Int) := by omega
      have et : ks.take t = ks := List.take_of_length_le (by rw [HL.out]; omega)
      rw [et] at HVr HOK
      have HMK := Lib.hid (many_ok HOK.out)
      obtain ⟨-, A2, cap2, rfl⟩ := own_formK (okI HVr.out.i0)
      go_wp2
      refine bodyPost_ret (v := .tuple #[.slice A2 t cap2, .int .i64 0]) (by simp [results, Tryz.results65, go_sem]) rfl ?_
      rw [HMK.out.1, HMK.out.2]
      exact ⟨A2, t, cap2, rfl, okI HVr.out.i0, by rw [List.length_map]; exact HL.out, HVr.out.below⟩
set_option maxRecDepth 100000 in
set_option maxHeartbeats 4000000 in
theorem gather_r (p : Addr) (F : Nat → Prop) (c : Cfg) (sts : List LS) (b : Nat) (A : Option Addr) (n cap : Nat) (ks : List (Int × Int)) (w : World) (h : ST w p F c sts) (hb : w.cell? ⟨b, 0, none⟩ = some (.pointer (some p))) (hst : StV 2 encS w A n cap ks) (hz : ∀ s ∈ ks, (0 ≤ s.1 ∧ s.1 ≤ 18446744073709551615) ∧ (0 ≤ s.2 ∧ s.2 ≤ 18446744073709551615)) (hn : n ≤ 4096) :
    Calls Tryz.prog 69 #[.slice A n cap, .func (.func 70) #[] #[.pointer (some ⟨b, 0, none⟩)]] w fun e w' => ∃ (A2 : Option Addr) (n2 cap2 : Nat), e = .returned (.tuple #[.slice A2 n2 cap2, .int .i64 (manyC (rgF c (fun L i => spV c sts (L : Int) i)) ks)]) ∧ w'.ownsRow w.heap.size 2 1 (.slice A2 n2 cap2) n2 ((manyL (rgF c (fun L i => spV c sts (L : Int) i)) ks).map (Value.int .i64)) ∧ (manyL (rgF c (fun L i => spV c sts (L : Int) i)) ks).length = n2 ∧ Below w.heap.size w w' := by
  have HD := Lib.hid h
  have HB := Lib.hid hb
  have HZ := Lib.hid hz
  have HST := Lib.hid hst
  have HL := Lib.hid hst.len
  have HN := Lib.hid hn
  obtain ⟨i0, hi_, hz0, hz1, hz2⟩ := info_parts i64_info
  clear h hb hz hn hst
  go_enter Tryz.func69, Tryz.ntmps69
  go_wp2
  go_loopw [6, 13] (fun av iv wr => ∃ (t : Nat), t ≤ n ∧ iv = .int .i64 (t : Int) ∧ (∀ q ∈ ks.take t, ((rgF c (fun L i => spV c sts (L : Int) i)) q).2 = 0) ∧ Have w wr [ownK w.heap.size 2 1 av t (((ks.take t).map (fun q => ((rgF c (fun L i => spV c sts (L : Int) i)) q).1)).map (Value.int .i64))]) (fun _ iv _ => n - (intOf iv).toNat)
  case atStart => exact ⟨0, Nat.zero_le _, rfl, fun q hq => by simp at hq, (Have.nil w).push (ownK w.heap.size 2 1 (.slice none 0 0) 0 []) (Below.refl _ _) (World.ownsRow_nil w _ _ _) (fun k hk => by cases hk)⟩
  case round =>
    obtain ⟨t, ht, rfl, hok, hv⟩ := hrel
    have HVr := Lib.hid hv
    have HOK := Lib.hid hok
    clear hv hok
    by_cases hlt : t < n
    · have lt0 : (0 : Int) ≤ (t : Int) := by omega
      have lt1 : (t : Int) < (n : Int) := by omega
      obtain ⟨q, hq⟩ : ∃ q, ks[t]? = some q := ⟨_, List.getElem?_eq_getElem (by rw [HL.out]; exact hlt)⟩
      have HQ := Lib.hid hq
      have hzq := HZ.out q (List.mem_of_getElem? hq)
      obtain ⟨V, hV⟩ : ∃ v, ((rgF c (fun L i => spV c sts (L : Int) i)) q).1 = v := ⟨_, rfl⟩
      obtain ⟨E, hE⟩ : ∃ v, ((rgF c (fun L i => spV c sts (L : Int) i)) q).2 = v := ⟨_, rfl⟩
      have HVE := Lib.hid (And.intro hV hE)
      obtain ⟨aa, g, o, rfl, hadd, hat⟩ := (HST.out.up HVr.out.below).at hq (v0 := .int .u64 q.1) rfl
      have r0 := hat 0 (.int .u64 q.1) rfl
      have r1 := hat 1 (.int .u64 q.2) rfl
      rw [Nat.add_zero] at r0
      have CC : Hid (∀ w9, ST w9 p F c sts → w9.cell? ⟨b, 0, none⟩ = some (.pointer (some p)) → Calls Tryz.prog 70 #[.agg #[.int .u64 q.1, .int .u64 q.2], .pointer (some ⟨b, 0, none⟩)] w9 fun e w' => e = .returned (.tuple #[.int .i64 V, .int .i64 E]) ∧ Below w9.heap.size w9 w') := Lib.hid (fun w9 h1 h2 => by rw [← hV, ← hE]; exact clos_r p F c sts b q.1 q.2 w9 h1 h2 hzq.1.1 hzq.1.2 hzq.2.1 hzq.2.2)
      obtain ⟨qlo, qhi⟩ := q
      simp only at r0 r1 CC
      clear hq hat hV hE hzq
      have HVx := Lib.hid (HVr.out.up (Lw.below_alloc (Below.refl _ _) (.cells #[.int .u64 qlo, .int .u64 qhi] 155)))
      by_cases hE0 : E = 0
      · subst hE0
        have HNX := Lib.hid (all_next (p := fun q => ((rgF c (fun L i => spV c sts (L : Int) i)) q).2 = 0) HQ.out HOK.out HVE.out.2)
        have HTK : Hid ((((ks.take (t + 1)).map (fun q => ((rgF c (fun L i => spV c sts (L : Int) i)) q).1)).map (Value.int .i64)) = (((ks.take t).map (fun q => ((rgF c (fun L i => spV c sts (L : Int) i)) q).1)).map (Value.int .i64)) ++ [.int .i64 V]) := Lib.hid (by rw [take_next HQ.out, List.map_append, List.map_append]; show _ ++ [Value.int .i64 ((rgF c (fun L i => spV c sts (L : Int) i)) _).1] = _; rw [HVE.out.1])
        go_upto_region 8 with (go_at_call 70; (with_reducible refine (CC.out _ (HD.out.up HVx.out.below) (cell_up HB.out HVx.out.below)).mono ?_); rintro e w5 ⟨rfl, hb⟩; have HV5 := Lib.hid (HVx.out.up hb); clear hb)
        have n4 := HN.out
        go_wp2_with (at_builtin; go_must (refine wpList_append_lies _ rfl _ _ 54 rfl w.heap.size 2 i0 (.int .i64 0) 1 8 i64s_u hi_ hz0 hz1 hz2 rfl (by decide) _ _ _ rfl ((okI HV5.out.i0).alloc _) ⟨_, 0, none⟩ 1 1 [.int .i64 V] rfl rfl (World.news_of_block (heap_alloc_new w5 _)) (one_i64 _) (by decide) (by unfold maxLen; omega) (by omega) (by simp; have := HV5.out.below.size; omega) _ rfl ?_); intro g7 cap7 w7 hown7 hgrow7 hat7 hlt7)
        have HVa := Lib.hid (HV5.out.up (Lw.below_alloc (Below.refl _ w5) (.cells #[.int .i64 V] 2)))
        have HV7 := Lib.hid (turn0K HVa.out hown7 hgrow7 hat7)
        go_roundw
        case rel => exact ⟨t + 1, by omega, by go_num, HNX.out, by rw [HTK.out]; exact HV7.out.up (by repeat' (first | (with_reducible first | exact Below.refl _ _ | assumption | refine below_over ?_ _ _ | refine Lw.below_alloc ?_ _ | refine Below.drew ?_ | refine below_drewN ?_ _ | refine Below.setCell ?_ ?_ _) | go_size))⟩
        case measure => simp [intOf]; omega
      · have hE1 : ((E : Int) == 0) = false := beq_eq_false_iff_ne.2 hE0
        have hE2 : ((E : Int) != 0) = true := by simp [hE0]
        have HMA := Lib.hid (many_at HQ.out HOK.out (by rw [HVE.out.2]; exact hE0))
        have HEE := Lib.hid HVE.out.2
        go_wp2_with (go_at_call 70; (with_reducible refine (CC.out _ (HD.out.up HVx.out.below) (cell_up HB.out HVx.out.below)).mono ?_); rintro e w5 ⟨rfl, hb⟩; have HV5 := Lib.hid (HVx.out.up hb); clear hb)
        refine bodyPost_ret (v := .tuple #[.slice none 0 0, .int .i64 E]) (by simp [results, Tryz.results69, go_sem]) rfl ?_
        rw [HMA.out.1, HMA.out.2, HEE.out]
        exact ⟨none, 0, 0, rfl, World.ownsRow_nil _ _ _ _, rfl, HV5.out.below⟩
    · obtain rfl : t = n := by omega
      have lt1 : ¬ (t : Int) < (t : Int) := by omega
      have et : ks.take t = ks := List.take_of_length_le (by rw [HL.out]; omega)
      rw [et] at HVr HOK
      have HMK := Lib.hid (many_ok HOK.out)
      obtain ⟨-, A2, cap2, rfl⟩ := own_formK (okI HVr.out.i0)
      go_wp2
      refine bodyPost_ret (v := .tuple #[.slice A2 t cap2, .int .i64 0]) (by simp [results, Tryz.results69, go_sem]) rfl ?_
      rw [HMK.out.1, HMK.out.2]
      exact ⟨A2, t, cap2, rfl, okI HVr.out.i0, by rw [List.length_map]; exact HL.out, HVr.out.below⟩
set_option maxRecDepth 100000 in
set_option maxHeartbeats 4000000 in
theorem sm_quants (p : Addr) (F : Nat → Prop) (c : Cfg) (sts : List LS) (A : Option Addr) (n cap : Nat) (ks : List Int) (w : World) (h : ST w p F c sts) (hA : A = none → n = 0 ∧ cap = 0) (hrd : Rd .i64 w A ks) (hl : ks.length = n) (hz : In64 ks) (hn : n ≤ 4096) :
    Calls Tryz.prog 28 #[.pointer (some p), .slice A n cap] w fun e w' => ∃ (A2 : Option Addr) (n2 cap2 : Nat), e = .returned (.tuple #[.slice A2 n2 cap2, .int .i64 (manyC (qnF c (fun L i => spV c sts (L : Int) i)) ks)]) ∧ w'.ownsRow w.heap.size 22 1 (.slice A2 n2 cap2) n2 ((manyL (qnF c (fun L i => spV c sts (L : Int) i)) ks).map (Value.int .u64)) ∧ (manyL (qnF c (fun L i => spV c sts (L : Int) i)) ks).length = n2 ∧ Below w.heap.size w w' := by
  have hmf : ∀ fn first cap w, (Instr.makeFunc fn first cap).run Tryz.prog w = .ok (.func fn first cap) w := fun _ _ _ _ => rfl
  have HX := Lib.hid (Lw.below_alloc (Below.refl _ w) (.cells #[.pointer (some p)] 30))
  have CG := Lib.hid (gather_q p F c sts w.heap.size A n cap ks _ (h.up HX.out) (by simp) hA (hrd.up HX.out) hl hz hn)
  obtain ⟨C, hC⟩ : ∃ v, manyC (qnF c (fun L i => spV c sts (L : Int) i)) ks = v := ⟨_, rfl⟩
  obtain ⟨L, hL⟩ : ∃ v, manyL (qnF c (fun L i => spV c sts (L : Int) i)) ks = v := ⟨_, rfl⟩
  rw [hC, hL] at CG ⊢
  clear hC hL h hA hrd hl hz hn
  go_enter Tryz.func28, Tryz.ntmps28
  go_wp2_with (go_at_call 65; (with_reducible refine (CG.out).mono ?_); rintro e w1 ⟨A2, n2, cap2, rfl, ho, hl2, hb1⟩; have HO := Lib.hid ho; have HL2 := Lib.hid hl2; have HB1 := Lib.hid (HX.out.trans (hb1.mono HX.out.size)); clear hb1 ho hl2)
  refine bodyPost_ret (v := .tuple #[.slice A2 n2 cap2, .int .i64 C]) (by simp [results, Tryz.results28, go_sem]) rfl ?_
  exact ⟨A2, n2, cap2, rfl, own_base HO.out (by simp), HL2.out, HB1.out⟩
end Go.Proofs.YtkflggojiiebeaaGreat.Smr

namespace Go.Proofs.YtkflggojiiebeaaGreat.Smr
open Go Go.RowKit Lw Grd Lin Con Shp Sk Exa Lev Stk Pcs Spn Qnt Hvy
set_option linter.unusedVariables false
set_option linter.unusedSimpArgs false
theorem nan_i64 (x : Int) (w : World) : Calls Tryz.prog 143 #[.int .i64 x] w fun e w' => e = .returned (.bool false) ∧ w' = w := by
  go_enter Tryz.func143, Tryz.ntmps143
  go_wp2
  go_ret
  exact ⟨by simp, rfl⟩
set_option maxRecDepth 100000 in
set_option maxHeartbeats 4000000 in
theorem cmp_i64 (x y : Int) (w : World) : Calls Tryz.prog 110 #[.int .i64 x, .int .i64 y] w fun e w' => e = .returned (.int .i64 (Lib.compareInt x y)) ∧ w' = w := by
  go_enter Tryz.func110, Tryz.ntmps110
  go_wp2_with (go_at_call 143; refine (nan_i64 _ _).mono ?_; rintro e w' ⟨rfl, hw⟩; rw [hw])
  all_goals (go_ret; refine ⟨?_, rfl⟩; unfold Lib.compareInt; (repeat' split) <;> first | rfl | (exfalso; omega))
theorem nan_u64 (x : Int) (w : World) : Calls Tryz.prog 144 #[.int .u64 x] w fun e w' => e = .returned (.bool false) ∧ w' = w := by
  go_enter Tryz.func144, Tryz.ntmps144
  go_wp2
  go_ret
  exact ⟨by simp, rfl⟩
set_option maxRecDepth 100000 in
set_option maxHeartbeats 4000000 in
theorem cmp_u64 (x y : Int) (w : World) : Calls Tryz.prog 111 #[.int .u64 x, .int .u64 y] w fun e w' => e = .returned (.int .i64 (Lib.compareInt x y)) ∧ w' = w := by
  go_enter Tryz.func111, Tryz.ntmps111
  go_wp2_with (go_at_call 144; refine (nan_u64 _ _).mono ?_; rintro e w' ⟨rfl, hw⟩; rw [hw])
  all_goals (go_ret; refine ⟨?_, rfl⟩; unfold Lib.compareInt; (repeat' split) <;> first | rfl | (exfalso; omega))
theorem al3_0 (w : World) (A B : Obj) (x y : Value) (e : TypeId) : (((w.alloc A).alloc B).alloc (.cells #[x, y] e)).cell? ⟨w.heap.size + 1 + 1, 0, none⟩ = some x :=
  box_cell (e := e) (vs := #[x, y]) (show (boxT _ _ _).I _ from alloc2_new w _ _ _) rfl
theorem al3_1 (w : World) (A B : Obj) (x y : Value) (e : TypeId) : (((w.alloc A).alloc B).alloc (.cells #[x, y] e)).cell? ⟨w.heap.size + 1 + 1, 1, none⟩ = some y :=
  box_cell (e := e) (vs := #[x, y]) (show (boxT _ _ _).I _ from alloc2_new w _ _ _) rfl
theorem al3_0d (w : World) (A B : Obj) (x y : Value) (e : TypeId) : (((w.alloc A).alloc B).alloc (.cells #[x, y] e)).drew.cell? ⟨w.heap.size + 1 + 1, 0, none⟩ = some x := al3_0 w A B x y e
theorem al3_1d (w : World) (A B : Obj) (x y : Value) (e : TypeId) : (((w.alloc A).alloc B).alloc (.cells #[x, y] e)).drew.cell? ⟨w.heap.size + 1 + 1, 1, none⟩ = some y := al3_1 w A B x y e
theorem al3_grow (w : World) (A B C : Obj) : (((w.alloc A).alloc B).alloc C).drew = Go.Sort.grow (w.drewN 1) #[A, B, C] := by
  rw [Go.Sort.alloc_eq_grow, Go.Sort.alloc_eq_grow, Go.Sort.alloc_eq_grow, Go.Sort.grow_grow, Go.Sort.grow_grow]
  rfl
set_option maxRecDepth 100000 in
set_option maxHeartbeats 4000000 in
theorem or_any (b : Nat) (x y : Int) (w : World) (h0 : w.cell? ⟨b, 0, none⟩ = some (.int .i64 x)) (h1 : w.cell? ⟨b, 1, none⟩ = some (.int .i64 y)) :
    Calls Tryz.prog 109 #[.slice (some ⟨b, 0, none⟩) 2 2] w fun e w' => e = .returned (.int .i64 (if x = 0 then y else x)) ∧ w' = w := by
  go_enter Tryz.func109, Tryz.ntmps109
  go_wp2
  go_loopw [8] (fun iv wr => wr = w ∧ (iv = .int .i64 0 ∨ (iv = .int .i64 1 ∧ x = 0) ∨ (iv = .int .i64 2 ∧ x = 0 ∧ y = 0))) (fun iv _ => 2 - (intOf iv).toNat)
  case atStart => exact ⟨rfl, .inl rfl⟩
  case round =>
    obtain ⟨rfl, hc⟩ := hrel
    rcases hc with rfl | ⟨rfl, rfl⟩ | ⟨rfl, rfl, rfl⟩
    · by_cases hx : x = 0
      · subst hx
        go_wp2
        go_roundw
        case rel => first | exact ⟨rfl, .inr (.inl ⟨rfl, rfl⟩)⟩ | simp
        case measure => simp [intOf]
      · have g1 : ((x : Int) != 0) = true := by simp [hx]
        go_wp2
        go_ret
        exact ⟨by first | rfl | (rw [if_neg hx]; rfl) | (simp [*]; done), rfl⟩
    · by_cases hy : y = 0
      · subst hy
        go_wp2
        go_roundw
        case rel => first | exact ⟨rfl, .inr (.inr ⟨rfl, rfl, rfl⟩)⟩ | simp
        case measure => simp [intOf]
      · have g1 : ((y : Int) != 0) = true := by simp [hy]
        go_wp2
        go_ret
        exact ⟨by first | rfl | (rw [if_pos rfl]; rfl) | (simp [*]; done), rfl⟩
    · go_wp2
      go_ret
      exact ⟨by first | rfl | (rw [if_pos rfl]; rfl) | (simp [*]; done), rfl⟩
set_option maxRecDepth 100000 in
set_option maxHeartbeats 4000000 in
theorem ahead_any (x y : Nat × Int) (w : World) :
    Calls Tryz.prog 75 #[.agg (encK x).toArray, .agg (encK y).toArray] w fun e w' => e = .returned (.int .i64 (cfK x y)) ∧ ∃ q os', w' = Go.Sort.grow (w.drewN q) os' := by
  show Calls Tryz.prog 75 #[.agg #[.int .i64 0, .int .u64 (x.1 : Int), .int .i64 x.2], .agg #[.int .i64 0, .int .u64 (y.1 : Int), .int .i64 y.2]] w fun e w' => e = .returned (.int .i64 (if Lib.compareInt y.2 x.2 = 0 then Lib.compareInt (x.1 : Int) (y.1 : Int) else Lib.compareInt y.2 x.2)) ∧ ∃ q os', w' = Go.Sort.grow (w.drewN q) os'
  obtain ⟨a1, a2⟩ := x
  obtain ⟨b1, b2⟩ := y
  simp only
  have C1 := Lib.hid (fun w => cmp_i64 b2 a2 w)
  have C2 := Lib.hid (fun w => cmp_u64 (a1 : Int) (b1 : Int) w)
  obtain ⟨X, hX⟩ : ∃ v, Lib.compareInt b2 a2 = v := ⟨_, rfl⟩
  obtain ⟨Y, hY⟩ : ∃ v, Lib.compareInt (a1 : Int) (b1 : Int) = v := ⟨_, rfl⟩
  rw [hX] at C1 ⊢
  rw [hY] at C2 ⊢
  have HO := Lib.hid (fun b w h0 h1 => or_any b X Y w h0 h1)
  obtain ⟨Z, hZ⟩ : ∃ v, (if X = 0 then Y else X) = v := ⟨_, rfl⟩
  rw [hZ] at HO ⊢
  clear hX hY hZ
  go_enter Tryz.func75, Tryz.ntmps75
  go_upto_region 1 with fail
  go_region_held3 (fun w' => w'.cell? ⟨w.heap.size, 1, none⟩ = some (.int .u64 (a1 : Int)) ∧ w'.cell? ⟨w.heap.size, 2, none⟩ = some (.int .i64 a2) ∧ w'.cell? ⟨w.heap.size + 1, 1, none⟩ = some (.int .u64 (b1 : Int)) ∧ w'.cell? ⟨w.heap.size + 1, 2, none⟩ = some (.int .i64 b2)) (simp [go_sem]) (first
    | (go_at_call 109; (with_reducible refine (HO.out _ _ (by first | exact al3_0 w _ _ _ _ _ | exact al3_0d w _ _ _ _ _) (by first | exact al3_1 w _ _ _ _ _ | exact al3_1d w _ _ _ _ _)).mono ?_); rintro e w' ⟨rfl, rfl⟩)
    | (go_at_call 110; ((with_reducible refine (C1.out _).mono ?_)); rintro e w' ⟨rfl, rfl⟩)
    | (go_at_call 111; ((with_reducible refine (C2.out _).mono ?_)); rintro e w' ⟨rfl, rfl⟩))
  all_goals go_wp2
  all_goals go_ret
  all_goals exact ⟨rfl, 1, _, al3_grow _ _ _ _⟩
theorem ahead_lays (g off size : Nat) (w : World) : Go.Proofs.CmpLays Tryz.prog 75 #[] encK 3 cfK g off size w :=
  fun m os dk hs x y => ahead_any x y _
end Go.Proofs.YtkflggojiiebeaaGreat.Smr

namespace Go.Proofs.YtkflggojiiebeaaGreat.Smr
open Go Go.RowKit Lw Grd Lin Con Shp Sk Exa Lev Stk Pcs Spn Qnt Hvy
set_option linter.unusedVariables false
set_option linter.unusedSimpArgs false
theorem flat_app3 (l m : List ((Nat × Nat) × Int)) : (l ++ m).flatMap encF = l.flatMap encF ++ m.flatMap encF := List.flatMap_append ..
theorem flat_set3 : ∀ (l : List ((Nat × Nat) × Int)) (i : Nat) (q : (Nat × Nat) × Int) (rest : List Value), i < l.length → (((l.flatMap encF ++ rest).set (i * 3) (.int .i64 (q.1.1 : Int))).set (i * 3 + 1) (.int .u64 (q.1.2 : Int))).set (i * 3 + 2) (.int .i64 q.2) = (l.set i q).flatMap encF ++ rest
  | [], i, q, rest, h => by simp at h
  | p :: ps, 0, q, rest, _ => rfl
  | p :: ps, i + 1, q, rest, h => by
    have ih := flat_set3 ps i q rest (by simpa using h)
    have e1 : (p :: ps).flatMap encF ++ rest = .int .i64 (p.1.1 : Int) :: .int .u64 (p.1.2 : Int) :: .int .i64 p.2 :: (ps.flatMap encF ++ rest) := rfl
    have e2 : ((p :: ps).set (i + 1) q).flatMap encF ++ rest = .int .i64 (p.1.1 : Int) :: .int .u64 (p.1.2 : Int) :: .int .i64 p.2 :: ((ps.set i q).flatMap encF ++ rest) := rfl
    rw [e1, e2, ← ih]
    have n0 : (i + 1) * 3 = i * 3 + 2 + 1 := by omega
    have n1 : (i + 1) * 3 + 1 = i * 3 + 1 + 2 + 1 := by omega
    have n2 : (i + 1) * 3 + 2 = i * 3 + 2 + 2 + 1 := by omega
    rw [n2, n1, n0]
    rfl
theorem below_setCells {b : Nat} {e : TypeId} : ∀ {vs : List Value} {o : Nat} {w : World} {cur : Array Value}, (boxT b e cur).I w → o + vs.length ≤ cur.size → ∃ cur', (boxT b e cur').I (w.setCells b o vs) ∧ cur'.size = cur.size ∧ (∀ k, k ≤ o → cur'.toList.take k = cur.toList.take k) ∧ Kept (fun k => k = b) w (w.setCells b o vs)
  | [], o, w, cur, h, _ => ⟨cur, h, rfl, fun _ _ => rfl, Kept.refl _ _⟩
  | v :: vs, o, w, cur, h, hs => by
    have h1 := Pcs.boxs_set h o v
    obtain ⟨cur', g1, g2, g3, g4⟩ := below_setCells (vs := vs) (o := o + 1) (w := w.setCell ⟨b, o, none⟩ v) h1 (by simp at hs ⊢; omega)
    refine ⟨cur', g1, by rw [g2]; simp, fun k hk => ?_, ((Kept.refl (fun k => k = b) w).set (.inl rfl) o v).trans g4 (fun _ _ h => h)⟩
    rw [g3 k (by omega), Array.toList_setIfInBounds, List.take_set_of_le (by omega)]
theorem clear_any {P : Program} (w : World) (t e ty : TypeId) (z : Value) (ht : P.underlying t = some (.slice e)) (hv : ∀ w, (zeroValue e).run P w = .ok z w) (b o n c : Nat) (hn : 0 < n) (vs : List Value) (hzc : (Builtin.zeroCells z.cells n).toList = vs) (h1 : ∀ v ∈ vs, v.oneCell' = true)
    (hc : ∀ j, j < vs.length → (w.cell? ⟨b, o + j, none⟩).isSome = true) (hf : ∀ j, j < vs.length → w.frozen? ⟨b, o + j, none⟩ = false) :
    (Builtin.clear_ #[t] ty #[.slice (some ⟨b, o, none⟩) n c]).run P w = .ok (.tuple #[]) (w.setCells b o vs) := by
  have hst := run_storeCells_cells (P := P) b o vs 0 w (by simpa using hc) (by simpa using hf) h1
  simp only [Nat.add_zero] at hst
  obtain ⟨m, rfl⟩ : ∃ m, n = m + 1 := ⟨n - 1, by omega⟩
  simp [Builtin.clear_, run_underlying ht, hv, hzc, hst]
theorem zero_len (n : Nat) : (Builtin.zeroCells (Value.agg #[.int .i64 0, .int .u64 0, .int .i64 0]).cells n).toList.length = n * 3 := by
  simp [Builtin.zeroCells, Value.cells]
theorem zero_one (n : Nat) : ∀ v ∈ (Builtin.zeroCells (Value.agg #[.int .i64 0, .int .u64 0, .int .i64 0]).cells n).toList, v.oneCell' = true := by
  intro v hv
  simp only [Builtin.zeroCells, Value.cells, Array.toList_map, List.mem_map] at hv
  obtain ⟨i, -, rfl⟩ := hv
  have : i % 3 = 0 ∨ i % 3 = 1 ∨ i % 3 = 2 := by omega
  rcases this with h | h | h <;> (show ((#[Value.int .i64 0, .int .u64 0, .int .i64 0] : Array Value)[i % 3]!).oneCell' = true; rw [h]; rfl)
/-- What lies in a block of one's own, pieces and something behind them. -/
def Body (w : World) (g : Nat) (cur : List ((Nat × Nat) × Int)) (rest : List Value) : Prop := (boxT g 85 (cur.flatMap encF ++ rest).toArray).I w
theorem Body.cells {w : World} {g : Nat} {cur : List ((Nat × Nat) × Int)} {rest : List Value} (h : Body w g cur rest) {i : Nat} {q : (Nat × Nat) × Int} (hq : cur[i]? = some q) : w.cell? ⟨g, i * 3, none⟩ = some (.int .i64 (q.1.1 : Int)) ∧ w.cell? ⟨g, i * 3 + 1, none⟩ = some (.int .u64 (q.1.2 : Int)) ∧ w.cell? ⟨g, i * 3 + 2, none⟩ = some (.int .i64 q.2) := by
  have hl := (List.getElem?_eq_some_iff.1 hq).1
  have hk : ∀ j v, (encF q)[j]? = some v → (cur.flatMap encF ++ rest)[i * 3 + j]? = some v := fun j v hv => by
    have h1 := flat_get encF_len hq hv
    rw [List.getElem?_append_left (List.getElem?_eq_some_iff.1 h1).1]
    exact h1
  exact ⟨box_cell h (by simpa using hk 0 _ rfl), box_cell h (by simpa using hk 1 _ rfl), box_cell h (by simpa using hk 2 _ rfl)⟩
theorem Body.frozen {w : World} {g : Nat} {cur : List ((Nat × Nat) × Int)} {rest : List Value} (h : Body w g cur rest) (i : Nat) : w.frozen? ⟨g, i, none⟩ = false := Pcs.boxs_frozen h i
theorem Body.up {w w' : World} {g : Nat} {cur : List ((Nat × Nat) × Int)} {rest : List Value} (h : Body w g cur rest) (hb : Below w.heap.size w w') : Body w' g cur rest := (boxT g 85 _).keep w w' (fun _ => False) h (Kept.of_below hb) (fun _ _ h => h)
theorem Body.put {w : World} {g : Nat} {cur : List ((Nat × Nat) × Int)} {rest : List Value} (h : Body w g cur rest) {i : Nat} (hi : i < cur.length) (q : (Nat × Nat) × Int) : Body (((w.setCell ⟨g, i * 3, none⟩ (.int .i64 (q.1.1 : Int))).setCell ⟨g, i * 3 + 1, none⟩ (.int .u64 (q.1.2 : Int))).setCell ⟨g, i * 3 + 2, none⟩ (.int .i64 q.2)) g (cur.set i q) rest := by
  have h1 := Pcs.boxs_set (Pcs.boxs_set (Pcs.boxs_set h (i * 3) (.int .i64 (q.1.1 : Int))) (i * 3 + 1) (.int .u64 (q.1.2 : Int))) (i * 3 + 2) (.int .i64 q.2)
  have e : (((((cur.flatMap encF ++ rest).toArray).setIfInBounds (i * 3) (.int .i64 (q.1.1 : Int))).setIfInBounds (i * 3 + 1) (.int .u64 (q.1.2 : Int))).setIfInBounds (i * 3 + 2) (.int .i64 q.2)) = ((cur.set i q).flatMap encF ++ rest).toArray := by
    rw [List.setIfInBounds_toArray, List.setIfInBounds_toArray, List.setIfInBounds_toArray, flat_set3 cur i q rest hi]
  rw [e] at h1
  exact h1
def lowB (q : (Nat × Nat) × Int) : Bool := decide (q.1.1 = 0)
set_option maxRecDepth 100000 in
set_option maxHeartbeats 4000000 in
theorem clos_t (q : (Nat × Nat) × Int) (w : World) :
    Calls Tryz.prog 73 #[.agg #[.int .i64 (q.1.1 : Int), .int .u64 (q.1.2 : Int), .int .i64 q.2]] w fun e w' => e = .returned (.bool (!lowB q)) ∧ Below w.heap.size w w' := by
  obtain ⟨⟨L, i⟩, v⟩ := q
  have hb : decide ((0 : Int) < (L : Int)) = !lowB ((L, i), v) := by
    unfold lowB
    by_cases h : L = 0
    · subst h; rfl
    · simp [h]; omega
  obtain ⟨b, hB⟩ : ∃ b, (!lowB ((L, i), v)) = b := ⟨_, rfl⟩
  rw [hB] at hb ⊢
  simp only
  clear hB
  go_enter Tryz.func73, Tryz.ntmps73
  go_wp2
  refine bodyPost_ret (v := .bool b) (by simp [results, Tryz.results73, go_sem, ← hb]) rfl ?_
  exact ⟨rfl, (by repeat' (first | (with_reducible first | exact Below.refl _ _ | assumption | refine below_over ?_ _ _ | refine Lw.below_alloc ?_ _ | refine Below.drew ?_ | refine below_drewN ?_ _ | refine Below.setCell ?_ ?_ _) | go_size))⟩
set_option maxRecDepth 100000 in
set_option maxHeartbeats 4000000 in
theorem idx_any (g n cap : Nat) (l : List ((Nat × Nat) × Int)) (rest : List Value) (w : World) (h : Body w g l rest) (hl : l.length = n) (hn : n ≤ 5000) :
    Calls Tryz.prog 106 #[.slice (some ⟨g, 0, none⟩) n cap, .func (.func 73) #[] #[]] w fun e w' => ∃ i : Int, e = .returned (.int .i64 i) ∧ ((i = -1 ∧ ∀ q ∈ l, lowB q = true) ∨ ∃ k : Nat, i = (k : Int) ∧ k < n ∧ (∀ q ∈ l.take k, lowB q = true) ∧ ∃ q, l[k]? = some q ∧ lowB q = false) ∧ Below w.heap.size w w' := by
  have HD := Lib.hid h
  have HL := Lib.hid hl
  have HN := Lib.hid hn
  clear h hl
  go_enter Tryz.func106, Tryz.ntmps106
  go_wp2
  go_loopw [8] (fun iv wr => ∃ (t : Nat), t ≤ n ∧ iv = .int .i64 (t : Int) ∧ (∀ q ∈ l.take t, lowB q = true) ∧ Below w.heap.size w wr) (fun iv _ => n - (intOf iv).toNat)
  case atStart => exact ⟨0, Nat.zero_le _, rfl, fun q hq => by simp at hq, Below.refl _ _⟩
  case round =>
    obtain ⟨t, ht, rfl, hok, hv⟩ := hrel
    have HOK := Lib.hid hok
    have HVr := Lib.hid hv
    clear hok hv
    by_cases hlt : t < n
    · have lt0 : (0 : Int) ≤ (t : Int) := by omega
      have lt1 : (t : Int) < (n : Int) := by omega
      obtain ⟨q, hq⟩ : ∃ q, l[t]? = some q := ⟨_, List.getElem?_eq_getElem (by rw [HL.out]; exact hlt)⟩
      have HQ := Lib.hid hq
      obtain ⟨r0, r1, r2⟩ := (HD.out.up HVr.out).cells hq
      have CC := Lib.hid (fun w => clos_t q w)
      obtain ⟨LV, hLV⟩ : ∃ v : Int, (q.1.1 : Int) = v := ⟨_, rfl⟩
      obtain ⟨IX, hIX⟩ : ∃ v : Int, (q.1.2 : Int) = v := ⟨_, rfl⟩
      obtain ⟨VV, hVV⟩ : ∃ v : Int, q.2 = v := ⟨_, rfl⟩
      rw [hLV, hIX, hVV] at CC
      rw [hLV] at r0
      rw [hIX] at r1
      rw [hVV] at r2
      clear hq hLV hIX hVV
      cases hb : lowB q with
      | true =>
        rw [hb] at CC
        have HNX := Lib.hid (all_next (p := fun q => lowB q = true) HQ.out HOK.out hb)
        go_wp2_with (go_at_call 73; (with_reducible refine (CC.out _).mono ?_); rintro e w5 ⟨rfl, hb5⟩; have HV5 := Lib.hid (HVr.out.trans (hb5.mono HVr.out.size)); clear hb5)
        go_roundw
        case rel => exact ⟨t + 1, by omega, by go_num, HNX.out, HV5.out⟩
        case measure => simp [intOf]; omega
      | false =>
        rw [hb] at CC
        have HB := Lib.hid hb
        go_wp2_with (go_at_call 73; (with_reducible refine (CC.out _).mono ?_); rintro e w5 ⟨rfl, hb5⟩; have HV5 := Lib.hid (HVr.out.trans (hb5.mono HVr.out.size)); clear hb5)
        go_ret
        exact ⟨_, rfl, .inr ⟨t, rfl, hlt, HOK.out, _, HQ.out, HB.out⟩, HV5.out⟩
    · obtain rfl : t = n := by omega
      have lt1 : ¬ (t : Int) < (t : Int) := by omega
      have et : l.take t = l := List.take_of_length_le (by rw [HL.out]; omega)
      rw [et] at HOK
      go_wp2
      go_ret
      exact ⟨_, rfl, .inl ⟨rfl, fun a b v h => HOK.out _ h⟩, HVr.out⟩
theorem take_set_next {α : Type} {l : List α} {i : Nat} {q : α} (h : i < l.length) : (l.set i q).take (i + 1) = l.take i ++ [q] := by
  have e : (l.set i q)[i]? = some q := by rw [List.getElem?_set_self h]
  rw [take_next e, List.take_set_of_le (Nat.le_refl _)]
theorem cell_up3 {w w' : World} (h : Below w.heap.size w w') : ∀ (a : Addr) (v : Value), w.cell? a = some v → w'.cell? a = some v := fun a v hv => cell_up hv h
theorem keep_next {l : List ((Nat × Nat) × Int)} {j : Nat} {q : (Nat × Nat) × Int} (h : l[j]? = some q) : (l.take (j + 1)).filter lowB = (l.take j).filter lowB ++ (if lowB q = true then [q] else []) := by
  rw [take_next h, List.filter_append]
  congr 1
  cases e : lowB q <;> simp [List.filter, e]
theorem keep_len {l : List ((Nat × Nat) × Int)} {k j : Nat} {q : (Nat × Nat) × Int} (h : l[k]? = some q) (hq : lowB q = false) (hkj : k < j) (hj : j ≤ l.length) : ((l.take j).filter lowB).length < j := by
  have h1 : ((l.take j).filter lowB).length ≠ (l.take j).length := fun e => by
    have h2 := List.length_filter_eq_length_iff.1 e q (List.mem_of_getElem? (i := k) (by rw [List.getElem?_take, if_pos hkj]; exact h))
    rw [hq] at h2
    cases h2
  have h3 := List.length_filter_le lowB (l.take j)
  rw [List.length_take] at h1 h3
  omega
set_option maxRecDepth 100000 in
set_option maxHeartbeats 8000000 in
theorem del_any (g n cap : Nat) (l : List ((Nat × Nat) × Int)) (rest : List Value) (w : World) (h : Body w g l rest) (hl : l.length = n) (hn : n ≤ 5000) (hc : n ≤ cap) (hcm : cap ≤ maxLen) (hrl : n * 3 + rest.length = cap * 3) :
    Calls Tryz.prog 72 #[.slice (some ⟨g, 0, none⟩) n cap, .func (.func 73) #[] #[]] w fun e w' => ∃ rest', e = .returned (.slice (some ⟨g, 0, none⟩) (l.filter lowB).length cap) ∧ Body w' g (l.filter lowB) rest' ∧ (l.filter lowB).length * 3 + rest'.length = cap * 3 ∧ Kept (fun k => k = g) w w' := by
  have CI := Lib.hid (idx_any g n cap l rest w h hl hn)
  have HD := Lib.hid h
  have HL := Lib.hid hl
  have HN := Lib.hid (And.intro hn (And.intro hc (And.intro hcm hrl)))
  have hcp : (n : Int) ≤ (cap : Int) := by omega
  unfold maxLen at hcm
  clear h hl hc
  go_enter Tryz.func72, Tryz.ntmps72
  go_upto_region 2 with (go_at_call 106; (with_reducible refine CI.out.mono ?_); rintro e w1 ⟨i, rfl, hi, hb⟩; have HI := Lib.hid hi; have HB1 := Lib.hid hb; clear hi hb)
  rcases HI.out with ⟨rfl, hall⟩ | ⟨k, rfl, hkn, hall, q0, hq0, hb0⟩
  · have hf : l.filter lowB = l := List.filter_eq_self.2 hall
    have HF := Lib.hid hf
    clear hall hf HI
    go_wp2
    go_ret
    rw [HF.out, HL.out]
    exact ⟨rest, rfl, HD.out.up HB1.out, HN.out.2.2.2, Kept.of_below HB1.out⟩
  · have HQ0 := Lib.hid (And.intro hq0 hb0)
    have HK := Lib.hid hall
    have hk1 : ((k : Int) == -1) = false := beq_eq_false_iff_ne.2 (by omega)
    have hcn : ¬ cap = 0 := by omega
    clear hall hq0 hb0 HI
    go_wp2
    go_loopw [5, 6] (fun iv jv wr => ∃ (i j : Nat) (cur : List ((Nat × Nat) × Int)), j ≤ n ∧ k < j ∧ iv = .int .i64 (i : Int) ∧ jv = .int .i64 (j : Int) ∧ cur.length = n ∧ i = ((l.take j).filter lowB).length ∧ cur.take i = (l.take j).filter lowB ∧ cur.drop j = l.drop j ∧ Body wr g cur rest ∧ Kept (fun k => k = g) w wr) (fun _ jv _ => n - (intOf jv).toNat)
    case atStart =>
      have e1 : (l.take (k + 1)).filter lowB = l.take k := by
        rw [keep_next HQ0.out.1, HQ0.out.2, List.filter_eq_self.2 HK.out]
        simp
      exact ⟨k, k + 1, l, by omega, by omega, rfl, by go_num, HL.out, by rw [e1, List.length_take, HL.out]; omega, e1.symm, rfl, HD.out.up HB1.out, Kept.of_below HB1.out⟩
    case round =>
      obtain ⟨i, j, cur, hj, hkj, rfl, rfl, hcl, hi, htk, hdr, hbd, hkp⟩ := hrel
      have HCL := Lib.hid hcl
      have HI := Lib.hid hi
      have HTK := Lib.hid htk
      have HDR := Lib.hid hdr
      have HBD := Lib.hid hbd
      have HKP := Lib.hid hkp
      have hij : i < j := by rw [hi]; exact keep_len HQ0.out.1 HQ0.out.2 hkj (by rw [HL.out]; exact hj)
      clear hcl hi htk hdr hbd hkp
      by_cases hlt : j < n
      · have lt0 : (0 : Int) ≤ (j : Int) := by omega
        have lt1 : (j : Int) < (n : Int) := by omega
        have li0 : (0 : Int) ≤ (i : Int) := by omega
        have li1 : (i : Int) < (n : Int) := by omega
        obtain ⟨q, hq⟩ : ∃ q, l[j]? = some q := ⟨_, List.getElem?_eq_getElem (by rw [HL.out]; exact hlt)⟩
        have HQ := Lib.hid hq
        have hcq : cur[j]? = some q := by
          have e1 : (cur.drop j)[0]? = some q := by rw [HDR.out, List.getElem?_drop, Nat.add_zero]; exact hq
          rw [List.getElem?_drop, Nat.add_zero] at e1
          exact e1
        obtain ⟨r0, r1, r2⟩ := HBD.out.cells hcq
        have CC := Lib.hid (fun w => clos_t q w)
        have HVx := Lib.hid (Lw.below_alloc (Below.refl _ wr) (.cells #[.int .i64 (q.1.1 : Int), .int .u64 (q.1.2 : Int), .int .i64 q.2] 85))
        have HNX := Lib.hid (keep_next hq)
        obtain ⟨LV, hLV⟩ : ∃ v : Int, (q.1.1 : Int) = v := ⟨_, rfl⟩
        obtain ⟨IX, hIX⟩ : ∃ v : Int, (q.1.2 : Int) = v := ⟨_, rfl⟩
        obtain ⟨VV, hVV⟩ : ∃ v : Int, q.2 = v := ⟨_, rfl⟩
        have HVQ := Lib.hid (And.intro hLV (And.intro hIX hVV))
        rw [hLV, hIX, hVV] at CC HVx
        rw [hLV] at r0
        rw [hIX] at r1
        rw [hVV] at r2
        clear hq hcq hLV hIX hVV
        cases hb : lowB q with
        | false =>
          rw [hb] at CC HNX
          have HEQ : Hid ((l.take (j + 1)).filter lowB = (l.take j).filter lowB) := Lib.hid (by rw [HNX.out]; simp)
          go_wp2_with (go_at_call 73; (with_reducible refine (CC.out _).mono ?_); rintro e w5 ⟨rfl, hb5⟩; have HV5 := Lib.hid (HVx.out.trans (hb5.mono HVx.out.size)); clear hb5)
          go_roundw
          case rel => exact ⟨i, j + 1, cur, by omega, by omega, rfl, by go_num, HCL.out, by rw [HEQ.out]; exact HI.out, by rw [HEQ.out]; exact HTK.out, by rw [← List.drop_drop, HDR.out, List.drop_drop], HBD.out.up HV5.out, HKP.out.then HV5.out⟩
          case measure => simp [intOf]; omega
        | true =>
          rw [hb] at CC HNX
          have HEQ : Hid ((l.take (j + 1)).filter lowB = (l.take j).filter lowB ++ [q]) := Lib.hid (by rw [HNX.out]; rfl)
          go_upto_region 9 with (go_at_call 73; (with_reducible refine (CC.out _).mono ?_); rintro e w5 ⟨rfl, hb5⟩; have HV5 := Lib.hid (HVx.out.trans (hb5.mono HVx.out.size)); have hbc := cell_up3 hb5; clear hb5)
          have HB5 := Lib.hid (HBD.out.up HV5.out)
          obtain ⟨q1, hq1⟩ : ∃ q1, cur[i]? = some q1 := ⟨_, List.getElem?_eq_getElem (by rw [HCL.out]; omega)⟩
          obtain ⟨s0, s1, s2⟩ := HB5.out.cells hq1
          have t0 := HB5.out.frozen (i * 3)
          have t1 := HB5.out.frozen (i * 3 + 1)
          have t2 := HB5.out.frozen (i * 3 + 2)
          have HPU := Lib.hid (HB5.out.put (i := i) (by rw [HCL.out]; omega) q)
          rw [HVQ.out.1, HVQ.out.2.1, HVQ.out.2.2] at HPU
          have HKU : Hid (Kept (fun k => k = g) w (((w5.setCell ⟨g, i * 3, none⟩ (.int .i64 LV)).setCell ⟨g, i * 3 + 1, none⟩ (.int .u64 IX)).setCell ⟨g, i * 3 + 2, none⟩ (.int .i64 VV))) := Lib.hid ((((HKP.out.then HV5.out).set (.inl rfl) _ _).set (.inl rfl) _ _).set (.inl rfl) _ _)
          clear hq1
          go_wp2
          go_roundw
          case rel => exact ⟨i + 1, j + 1, cur.set i q, by omega, by omega, by go_num, by go_num, by rw [List.length_set]; exact HCL.out, by rw [HEQ.out, List.length_append, ← HI.out]; rfl, by rw [HEQ.out, ← HTK.out]; exact take_set_next (by rw [HCL.out]; omega), by rw [List.drop_set_of_lt (by omega), ← List.drop_drop, HDR.out, List.drop_drop], by first | exact HPU.out | exact HPU.out.up (by repeat' (first | (with_reducible first | exact Below.refl _ _ | assumption | refine below_over ?_ _ _ | refine Lw.below_alloc ?_ _ | refine Below.drew ?_ | refine below_drewN ?_ _ | refine Below.setCell ?_ ?_ _) | go_size)), by first | exact HKU.out | exact HKU.out.then (by repeat' (first | (with_reducible first | exact Below.refl _ _ | assumption | refine below_over ?_ _ _ | refine Lw.below_alloc ?_ _ | refine Below.drew ?_ | refine below_drewN ?_ _ | refine Below.setCell ?_ ?_ _) | go_size))⟩
          case measure => simp [intOf]; omega
      · obtain rfl : j = n := by omega
        have lt1 : ¬ (j : Int) < (j : Int) := by omega
        have li0 : (0 : Int) ≤ (i : Int) := by omega
        have li1 : (i : Int) ≤ (j : Int) := by omega
        have li2 : (i : Int) ≤ (cap : Int) := by omega
        have et : l.take j = l := List.take_of_length_le (by rw [HL.out]; omega)
        rw [et] at HI HTK
        have hsz : (cur.flatMap encF ++ rest).toArray.size = cap * 3 := by
          rw [List.size_toArray, List.length_append, flat_len encF_len, HCL.out]
          exact HN.out.2.2.2
        obtain ⟨cu, hcu, hcs, hct, hck⟩ := below_setCells (vs := (Builtin.zeroCells (Value.agg #[.int .i64 0, .int .u64 0, .int .i64 0]).cells (j - i)).toList) (o := i * 3) HBD.out (by rw [zero_len, hsz]; have := HN.out.2.1; omega)
        have hcl : ∀ ty, (Builtin.clear_ #[39] ty #[.slice (some ⟨g, i * 3, none⟩) (j - i) (cap - i)]).run Tryz.prog wr = .ok (.tuple #[]) (wr.setCells g (i * 3) (Builtin.zeroCells (Value.agg #[.int .i64 0, .int .u64 0, .int .i64 0]).cells (j - i)).toList) :=
          fun ty => clear_any wr _ 85 ty (.agg #[.int .i64 0, .int .u64 0, .int .i64 0]) cfds_u Tryz.zeroValue85 g (i * 3) (j - i) (cap - i) (by omega) _ rfl (zero_one _)
            (fun t ht => by
              rw [zero_len] at ht
              have h9 : i * 3 + t < (cur.flatMap encF ++ rest).toArray.size := by rw [hsz]; have := HN.out.2.1; omega
              rw [box_cell HBD.out (Array.getElem?_eq_getElem h9)]; rfl)
            (fun t ht => HBD.out.frozen _)
        have HCU := Lib.hid hcu
        have HCT : Hid (cu.toList = (l.filter lowB).flatMap encF ++ cu.toList.drop (i * 3)) := Lib.hid (by
          have e1 : cu.toList.take (i * 3) = (l.filter lowB).flatMap encF := by
            rw [hct _ (Nat.le_refl _), ← HTK.out]
            show (cur.flatMap encF ++ rest).take (i * 3) = _
            conv => lhs; rw [← List.take_append_drop i cur, flat_app3, List.append_assoc]
            rw [List.take_append_of_le_length (by rw [flat_len encF_len, List.length_take, HCL.out]; omega), List.take_of_length_le (by rw [flat_len encF_len, List.length_take, HCL.out]; omega)]
          rw [← e1, List.take_append_drop])
        have HCS : Hid (cu.size = cap * 3) := Lib.hid (hcs.trans hsz)
        have HCK := Lib.hid (HKP.out.trans hck (fun _ _ h => h))
        obtain ⟨wz, hwz⟩ : ∃ wz, wr.setCells g (i * 3) (Builtin.zeroCells (Value.agg #[.int .i64 0, .int .u64 0, .int .i64 0]).cells (j - i)).toList = wz := ⟨_, rfl⟩
        rw [hwz] at hcl HCU HCK
        clear hcu hcs hct hck hwz et hsz
        go_wp2
        go_ret
        rw [← HI.out]
        refine ⟨rfl, cu.toList.drop (i * 3), ?_, ?_, HCK.out⟩
        · show (boxT g 85 _).I _
          rw [← HCT.out]
          exact HCU.out
        · rw [List.length_drop, Array.length_toList, HCS.out]
          have := HN.out.2.1
          omega
set_option maxRecDepth 100000 in
set_option maxHeartbeats 4000000 in
theorem idx_nil (w : World) : Calls Tryz.prog 106 #[.slice none 0 0, .func (.func 73) #[] #[]] w fun e w' => e = .returned (.int .i64 (-1)) ∧ Below w.heap.size w w' := by
  go_enter Tryz.func106, Tryz.ntmps106
  go_wp2
  go_loopw [8] (fun iv wr => iv = .int .i64 0 ∧ wr = w) (fun iv _ => 1 - (intOf iv).toNat)
  case atStart => exact ⟨rfl, rfl⟩
  case round =>
    obtain ⟨rfl, rfl⟩ := hrel
    go_wp2
    go_ret
    exact ⟨rfl, Below.refl _ _⟩
set_option maxRecDepth 100000 in
set_option maxHeartbeats 4000000 in
theorem del_nil (w : World) : Calls Tryz.prog 72 #[.slice none 0 0, .func (.func 73) #[] #[]] w fun e w' => e = .returned (.slice none 0 0) ∧ Below w.heap.size w w' := by
  go_enter Tryz.func72, Tryz.ntmps72
  go_wp2_with (go_at_call 106; (with_reducible refine (idx_nil _).mono ?_); rintro e w1 ⟨rfl, hb⟩; have HB1 := Lib.hid hb; clear hb)
  go_ret
  exact ⟨rfl, HB1.out⟩
end Go.Proofs.YtkflggojiiebeaaGreat.Smr

