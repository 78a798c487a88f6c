/- Texts that the statements of this seat lean on, put together: QntWalk, QntCode, StkNew, StkRnd, StkCpy, StkCode, StkFed, QntFed, QntFedM, StkLawA, QntOpen, SpnLT, QntShown. -/
import Derived.Test.YtiblpdjehknbcaaGreatMa
import Derived.Test.YtiblpdjehknbcaaGreatMb
import Derived.Test.YtiblpdjehknbcaaGreatMc
import Derived.Test.YtiblpdjehknbcaaGreatMd
import Derived.Test.YtiblpdjehknbcaaGreatMg
import Derived.Test.YtiblpdjehknbcaaGreatMi
import Derived.Test.YtiblpdjehknbcaaGreatMk
import Derived.Test.YtiblpdjehknbcaaGreatMl
import Derived.Laws.ResultCell
import Derived.WalkMore
import Derived.Laws.CopyOwn
import Derived.Deep.AppendLies
import Derived.WalkSpells
import Derived.Maps.AppendAt
import Derived.Deep.LoopGhost
import Derived.Deep.RegionHeld3
import Derived.Deep.DeepCutAuto
import Derived.Deep.QuietTactic
import Derived.BigQuiet
/- The code's walk: the way to the key of a rank. By hand. -/
namespace Go.Proofs.YtiblpdjehknbcaaGreat.Qnt
open Go Go.RowKit Lw Grd Lin Con Shp Sk Exa Lev Stk Pcs Spn
set_option linter.unusedVariables false
set_option linter.unusedSimpArgs false
set_option maxRecDepth 100000 in
theorem results_way {tmps : Array Value} {g : Nat} {C : Int} {l : List (Nat × Nat)} {W : World} (h4 : tmps.getD 4 undef = .pointer (some ⟨g, 0, none⟩)) (h5 : tmps.getD 5 undef = .int .i64 C) (hb : W.heap[g]? = some (.cells (arrP l) 86 (0, 0))) :
    (results Tryz.f39 tmps).run Tryz.prog W = .ok (.tuple #[.agg (arrP l), .int .i64 C]) W := by
  refine (results_cell_tmp Tryz.results39 tmps Tryz.prog W).trans ?_
  rw [h4, h5]
  have h1 : (loadVar 86 ⟨g, 0, none⟩).run Tryz.prog W = .ok (.agg (arrP l)) W := run_loadVar_row _ _ _ _ (arrP l) (0, 0) _ hb way_und rfl (by rw [arrP_size]; exact way_size)
  have h2 : (asAddr (.pointer (some ⟨g, 0, none⟩))).run Tryz.prog W = .ok ⟨g, 0, none⟩ W := rfl
  rw [h2]
  show ((loadVar _ _).run _ W).andThen _ = _
  rw [h1]
  rfl
set_option maxRecDepth 100000 in
set_option maxHeartbeats 4000000 in
theorem qwalk_r1 (p : Addr) (F : Nat → Prop) (c : Cfg) (sts : List LS) (k : Int) (w : World) (h : ST w p F c sts) (h1 : k < 1) :
    Calls Tryz.prog 39 #[.pointer (some p), .int .i64 k] w fun e w' => e = .returned (.tuple #[.agg (arrP []), .int .i64 6]) ∧ Below w.heap.size w w' := by
  have hst : (storeCells ⟨w.heap.size, 0, none⟩ (Tryz.zeroCells86).toList 0).run Tryz.prog (w.alloc (.cells Tryz.zeroCells86 86)) = .ok () (w.alloc (.cells Tryz.zeroCells86 86)) := run_storeCells_new w _ _ _ (by rw [way_zero, arrP_size]; exact way_size) rfl (by rw [way_zero]; exact arrP_one _)
  have hz := way_zero
  have f1 : decide (k < 1) = true := decide_eq_true h1
  clear h
  have HZ := Lib.hid hz
  clear hz h1
  go_enter Tryz.func39, Tryz.ntmps39
  go_wp2
  go_step3
  go_wp2
  simp only [Exit.noGoto]
  refine bodyPost_ret (v := .tuple #[.agg (arrP []), .int .i64 6]) (results_way rfl rfl (by rw [← HZ.out]; exact heap_alloc_new w _)) rfl ?_
  exact ⟨rfl, Lw.below_alloc (Below.refl _ _) _⟩
theorem blk_set_ne {X : World} {b b2 : Nat} (h : b ≠ b2) (i : Nat) (v : Value) : (X.setCell ⟨b2, i, none⟩ v).heap[b]? = X.heap[b]? := by
  simp [World.setCell, Array.getElem?_modify, Ne.symm h]
theorem way_put {W : World} {g : Nat} {l : List (Nat × Nat)} (m : List (Nat × Nat)) (h : W.heap[g]? = some (.cells (arrP l) 86 (0, 0))) : (storeCells ⟨g, 0, none⟩ (arrP m).toList 0).run Tryz.prog W = .ok () (W.setRow g (arrP m)) := by
  have := run_storeVar_row (P := Tryz.prog) W g _ 86 (arrP l) (arrP m) h (by rw [arrP_size]; exact way_size) (by rw [arrP_size, arrP_size]) (arrP_one m)
  have hi := way_size
  cases hq : Tryz.prog.info? 86 with
  | none => simp [hq] at hi
  | some i =>
    have hs : (arrP m).size = i.size := by simp [hq] at hi; rw [arrP_size]; omega
    simpa [storeVar, sizeOf, typeInfo, hq, Value.cells, hs] using this
set_option maxRecDepth 100000 in
set_option maxHeartbeats 4000000 in
theorem qwalk_r2 (p : Addr) (F : Nat → Prop) (c : Cfg) (sts : List LS) (k : Int) (w : World) (h : ST w p F c sts) (h1 : ¬ k < 1) (h2 : spV c sts c.bt 0 < k) :
    Calls Tryz.prog 39 #[.pointer (some p), .int .i64 k] w fun e w' => e = .returned (.tuple #[.agg (arrP []), .int .i64 6]) ∧ Below w.heap.size w w' := by
  have hz := way_zero
  have B0 : Below w.heap.size w (w.alloc (.cells (arrP []) 86)) := Lw.below_alloc (Below.refl _ _) _
  have HS := Lib.hid (h.up B0)
  have CT := Lib.hid (fun w hs => cs_total p F c sts w hs)
  obtain ⟨TT, hTT⟩ : ∃ v, spV c sts c.bt 0 = v := ⟨_, rfl⟩
  rw [hTT] at CT h2
  have f1 : decide (k < 1) = false := decide_eq_false h1
  have f2 : decide (TT < k) = true := decide_eq_true h2
  clear h hTT h1 h2
  go_enter Tryz.func39, Tryz.ntmps39
  go_wp2
  go_step3
  go_wp2_with (go_at_call 28; (with_reducible refine (CT.out _ HS.out).mono ?_); rintro e w4 ⟨rfl, hb⟩; have HX := Lib.hid (blk_up (heap_alloc_new w (.cells (arrP []) 86)) hb); have hst := way_put [] HX.out; have HB4 := Lib.hid (B0.trans (hb.mono B0.size)); clear hb)
  simp only [Exit.noGoto]
  refine bodyPost_ret (v := .tuple #[.agg (arrP []), .int .i64 6]) (results_way rfl rfl (setRow_heap _ _ _ _ _ _ HX.out)) rfl ?_
  exact ⟨rfl, below_setRow HB4.out (Nat.le_refl _) _⟩
set_option maxRecDepth 100000 in
set_option maxHeartbeats 8000000 in
theorem qwalk_y (p : Addr) (F : Nat → Prop) (c : Cfg) (sts : List LS) (k : Int) (w : World) (h : ST w p F c sts) (h1 : 1 ≤ k) (h2 : k ≤ spV c sts c.bt 0) (k1 : k ≤ 9223372036854775807) :
    Calls Tryz.prog 39 #[.pointer (some p), .int .i64 k] w fun e w' => e = .returned (.tuple #[.agg (arrP (qnL c (fun L i => spV c sts (L : Int) i) k)), .int .i64 (qnC c (fun L i => spV c sts (L : Int) i) k)]) ∧ Below w.heap.size w w' := by
  have hr := h.1
  have hbt := hr.1
  have hbt2 := hr.2.1
  have etop : spV c sts ((c.bt.toNat : Nat) : Int) 0 = spV c sts c.bt 0 := by
    rw [show ((c.bt.toNat : Nat) : Int) = c.bt by omega]
  have HQY := Lib.hid (fun (l : List (Nat × Nat)) hw => qn_yes (c := c) (pt := (fun L i => spV c sts (L : Int) i)) (l := l) h1 (by rw [etop]; exact h2) hw)
  have HQN := Lib.hid (fun hw => qn_over (c := c) (pt := (fun L i => spV c sts (L : Int) i)) h1 (by rw [etop]; exact h2) hw)
  have hz := way_zero
  have B0 : Below w.heap.size w (w.alloc (.cells (arrP []) 86)) := Lw.below_alloc (Below.refl _ _) _
  have HS := Lib.hid (h.up B0)
  have HS0 := Lib.hid h
  have CT := Lib.hid (fun w hs => cs_total p F c sts w hs)
  have CC := Lib.hid (fun w hs => cs_config p F c sts w hs)
  have hfd := fld_btq c
  obtain ⟨TT, hTT⟩ : ∃ v, spV c sts c.bt 0 = v := ⟨_, rfl⟩
  rw [hTT] at CT h2
  obtain ⟨BB, hBB⟩ : ∃ B, c.bt.toNat = B := ⟨_, rfl⟩
  have hcb : c.bt = (BB : Int) := by omega
  have hb59 : BB ≤ 59 := by omega
  have HB59 := Lib.hid hb59
  have HBB := Lib.hid hBB
  have HCB := Lib.hid hcb
  have f1 : decide (k < 1) = false := decide_eq_false (by omega)
  have f2 : decide (TT < k) = false := decide_eq_false (by omega)
  have H1 := Lib.hid h1
  have K1 := Lib.hid k1
  clear h hr hbt hbt2 etop hTT h1 h2 k1 hBB hcb hb59
  go_enter Tryz.func39, Tryz.ntmps39
  go_wp2
  go_step3
  go_wp2_with (first
    | (go_at_call 28; (with_reducible refine (CT.out _ HS.out).mono ?_); rintro e w4 ⟨rfl, hb⟩; have HX := Lib.hid (blk_up (heap_alloc_new w (.cells (arrP []) 86)) hb); have HB4 := Lib.hid (B0.trans (hb.mono B0.size)); clear hb)
    | (go_at_call 40; (with_reducible refine (CC.out _ (HS0.out.up (HB4.out.alloc HB4.out.size _))).mono ?_); rintro e w5 ⟨rfl, hb⟩; have HB5 := Lib.hid ((HB4.out.alloc HB4.out.size (.cells (arrP []) 86)).trans (hb.mono (HB4.out.alloc HB4.out.size (.cells (arrP []) 86)).size)); have HX5 := Lib.hid (blk_up (blk_alloc (p := .cells (arrP []) 86) HX.out) hb); have HY5 := Lib.hid (blk_up (heap_alloc_new w4 (.cells (arrP []) 86)) hb); clear hb))
  have hs4 := HB4.out.size
  have hlt6 : w.heap.size < w4.heap.size := (Array.getElem?_eq_some_iff.1 HX.out).1
  have hlt7 : w4.heap.size < w5.heap.size := (Array.getElem?_eq_some_iff.1 HY5.out).1
  have HX7 := Lib.hid (blk_alloc (p := .cells #[.int .i64 c.bt, .int .u64 0] 61) HX5.out)
  have HY7 := Lib.hid (blk_alloc (p := .cells #[.int .i64 c.bt, .int .u64 0] 61) HY5.out)
  have HZ7 := Lib.hid (heap_alloc_new w5 (.cells #[.int .i64 c.bt, .int .u64 0] 61))
  have HB7 := Lib.hid (HB5.out.alloc HB5.out.size (.cells #[.int .i64 c.bt, .int .u64 0] 61))
  obtain ⟨W, hW⟩ : ∃ W, w5.alloc (.cells #[.int .i64 c.bt, .int .u64 0] 61) = W := ⟨_, rfl⟩
  rw [hW] at HX7 HY7 HZ7 HB7 ⊢
  obtain ⟨g6, hg6⟩ : ∃ g, w4.heap.size = g := ⟨_, rfl⟩
  obtain ⟨g7, hg7⟩ : ∃ g, w5.heap.size = g := ⟨_, rfl⟩
  rw [hg6] at HY7 hlt6 hlt7 ⊢
  rw [hg7] at HZ7 hlt7 ⊢
  rw [HCB.out] at HZ7
  have n67 : g6 ≠ g7 := by omega
  have n76 : g7 ≠ g6 := by omega
  have n46 : w.heap.size ≠ g6 := by omega
  have n47 : w.heap.size ≠ g7 := by omega
  have N := Lib.hid (And.intro n67 (And.intro n76 (And.intro n46 (And.intro n47 (And.intro hlt6 hlt7)))))
  clear hW hg6 hg7 HX HB4 HX5 HY5 HB5 hs4 hlt6 hlt7 n67 n76 n46 n47 f1 f2 hfd
  go_step3
  go_wp2
  go_loopw [1, 8, 23] (fun s1 s8 s23 wr => ∃ (j L i : Nat) (kk : Int) (ff : Bool) (xs : List (Nat × Nat)), s1 = .int .i64 kk ∧ s8 = .bool ff ∧ s23 = .int .i64 (j : Int) ∧ L + j = BB ∧ xs.length = j ∧ i < 2 ^ (BB - L) ∧ -9223372036854775808 ≤ kk ∧ kk ≤ 9223372036854775807 ∧ wr.heap[w.heap.size]? = some (.cells (arrP []) 86 (0, 0)) ∧ wr.heap[g6]? = some (.cells (arrP xs) 86 (0, 0)) ∧ wr.heap[g7]? = some (.cells #[.int .i64 (L : Int), .int .u64 (i : Int)] 61 (0, 0)) ∧ Below w.heap.size w wr ∧ (ff = true → wayQ (fun L i => spV c sts (L : Int) i) BB 0 k = (wayQ (fun L i => spV c sts (L : Int) i) L i kk).map (fun l => xs ++ l)) ∧ (ff = false → wayQ (fun L i => spV c sts (L : Int) i) BB 0 k = none)) (fun _ _ s23 _ => 60 - (intOf s23).toNat)
  case atStart => exact ⟨0, BB, 0, k, true, [], rfl, rfl, rfl, rfl, rfl, Nat.two_pow_pos _, by have := H1.out; omega, K1.out, HX7.out, HY7.out, HZ7.out, HB7.out, (fun _ => by simp), (fun e => by cases e)⟩
  case round =>
    obtain ⟨j, L, i, kk, ff, xs, rfl, rfl, rfl, hLj, hxs, hi, hk0, hk1, hx4, hx6, hx7, hbw, hy, hn⟩ := hrel
    have HY := Lib.hid hy
    have HN := Lib.hid hn
    have HX4 := Lib.hid hx4
    have HX6 := Lib.hid hx6
    have HX8 := Lib.hid hx7
    have HBW := Lib.hid hbw
    have HLJ := Lib.hid hLj
    have HXS := Lib.hid hxs
    have HI := Lib.hid hi
    have HK := Lib.hid (And.intro hk0 hk1)
    have b59 := HB59.out
    have j60 : (j : Int) < 60 := by omega
    have j60n : j < 60 := by omega
    have j0 : (0 : Int) ≤ (j : Int) := by omega
    obtain ⟨n67, n76, n46, n47, hlt6, hlt7⟩ := N.out
    have q0 := box_cell hx7 (i := 0) rfl
    have q1 := box_cell hx7 (i := 1) rfl
    have e0 := box_cell hx6 (i := j * 2) (arrP_get (by omega))
    have e1 := box_cell hx6 (i := j * 2 + 1) (arrP_get (by omega))
    have z0 : wr.frozen? ⟨g6, j * 2, none⟩ = false := blk_frozen hx6 _
    have z1 : wr.frozen? ⟨g6, j * 2 + 1, none⟩ = false := blk_frozen hx6 _
    clear hy hn hx4 hx6 hx7 hbw hLj hxs hi hk0 hk1 b59 hlt6 hlt7 n46 n47
    go_upto_region 9 with fail
    have hx61 := blk_set (blk_set HX6.out (j * 2) (.int .i64 (L : Int))) (j * 2 + 1) (.int .u64 (i : Int))
    rw [arrP_set HXS.out j60n] at hx61
    have HX61 := Lib.hid hx61
    have HX41 := Lib.hid ((blk_set_ne (X := wr.setCell ⟨g6, j * 2, none⟩ (.int .i64 (L : Int))) (b := w.heap.size) (b2 := g6) N.out.2.2.1 (j * 2 + 1) (.int .u64 (i : Int))).trans ((blk_set_ne (X := wr) (b := w.heap.size) (b2 := g6) N.out.2.2.1 (j * 2) (.int .i64 (L : Int))).trans HX4.out))
    have HX71 := Lib.hid ((blk_set_ne (X := wr.setCell ⟨g6, j * 2, none⟩ (.int .i64 (L : Int))) (b := g7) (b2 := g6) N.out.2.1 (j * 2 + 1) (.int .u64 (i : Int))).trans ((blk_set_ne (X := wr) (b := g7) (b2 := g6) N.out.2.1 (j * 2) (.int .i64 (L : Int))).trans HX8.out))
    have HB1 : Hid (Below w.heap.size w ((wr.setCell ⟨g6, j * 2, none⟩ (.int .i64 (L : Int))).setCell ⟨g6, j * 2 + 1, none⟩ (.int .u64 (i : Int)))) := Lib.hid (by refine Below.setCell (Below.setCell HBW.out ?_ _) ?_ _ <;> exact Nat.le_of_lt N.out.2.2.2.2.1)
    obtain ⟨W1, hW1⟩ : ∃ W1, (wr.setCell ⟨g6, j * 2, none⟩ (.int .i64 (L : Int))).setCell ⟨g6, j * 2 + 1, none⟩ (.int .u64 (i : Int)) = W1 := ⟨_, rfl⟩
    rw [hW1] at hx61 HX61 HX41 HX71 HB1 ⊢
    clear hW1 hx61 q0 q1 e0 e1 z0 z1 HX6 HX4 HX8 HBW
    cases ff with
    | false =>
      have hst := way_put [] HX41.out
      have hq := HQN.out (by rw [HBB.out]; exact HN.out rfl)
      have HQ := Lib.hid hq
      clear hq
      go_wp2
      refine bodyPost_ret (v := .tuple #[.agg (arrP []), .int .i64 4]) (results_way rfl rfl (setRow_heap _ _ _ _ _ _ HX41.out)) rfl ?_
      rw [HQ.out.1, HQ.out.2.1]
      exact ⟨rfl, below_setRow HB1.out (Nat.le_refl _) _⟩
    | true =>
      have HY1 := Lib.hid (HY.out rfl)
      have q0 := box_cell HX71.out (i := 0) rfl
      have q1 := box_cell HX71.out (i := 1) rfl
      cases L with
      | zero =>
        have hq := HQY.out (xs ++ [(0, i)]) (by rw [HBB.out]; exact HY1.out)
        have hst := way_put (xs ++ [(0, i)]) HX41.out
        have HQ := Lib.hid hq
        clear hq
        go_upto_region 14 with fail
        apply wp_region_lit
        refine wpList_load_row rfl 86 _ rfl g6 rfl _ (arrP (xs ++ [(0, i)])) (0, 0) _ HX61.out way_und rfl (by rw [arrP_size]; exact way_size) ?_
        go_wp2
        refine bodyPost_ret (v := .tuple #[.agg (arrP (xs ++ [(0, i)])), .int .i64 0]) (results_way rfl rfl (setRow_heap _ _ _ _ _ _ HX41.out)) rfl ?_
        rw [HQ.out.1, HQ.out.2.1]
        exact ⟨rfl, below_setRow HB1.out (Nat.le_refl _) _⟩
      | succ L =>
        have hLj := HLJ.out
        have hi := HI.out
        have hcb := HCB.out
        have hb59 := HB59.out
        have hkb := HK.out
        have hpw : BB - L = (BB - (L + 1)) + 1 := by omega
        have hp2 : 2 ^ (BB - L) = 2 * 2 ^ (BB - (L + 1)) := by rw [hpw, Nat.pow_succ, Nat.mul_comm]
        have hP : isP c.bt ((L : Int) + 1) (i : Int) = true := by
          have e : (c.bt - ((L : Int) + 1)).toNat = BB - (L + 1) := by omega
          refine decide_eq_true ⟨by omega, by omega, by omega, by omega, ?_⟩
          rw [e]
          unfold p2
          omega
        have e1 : ((L : Int) + 1) - 1 = (L : Int) := by omega
        have e2 : 2 * (i : Int) = ((2 * i : Nat) : Int) := by omega
        have hvb := sp_in16 HS0.out (L : Int) ((2 * i : Nat) : Int)
        obtain ⟨VV, hVV⟩ : ∃ v, spV c sts (L : Int) ((2 * i : Nat) : Int) = v := ⟨_, rfl⟩
        rw [hVV] at hvb
        have hV2 : spV c sts (((L : Int) + 1) - 1) (2 * (i : Int)) = VV := by rw [e1, e2]; exact hVV
        have HSW := Lib.hid (HS0.out.up HB1.out)
        obtain ⟨I2, hI2⟩ : ∃ I2, 2 * i = I2 := ⟨_, rfl⟩
        by_cases hle : kk ≤ VV
        · have CH := Lib.hid (qhalf_l p F c sts ((L : Int) + 1) (i : Int) VV kk W1 HSW.out hP (by omega) (by omega) hV2 hle)
          have HW2 := Lib.hid (wayQ_left (pt := (fun L i => spV c sts (L : Int) i)) (L := L) (i := i) (k := kk) (by rw [← hVV] at hle; exact hle))
          rw [e1, e2, hI2] at CH
          rw [hI2] at HW2
          have HI2 : Hid (I2 < 2 ^ (BB - L)) := Lib.hid (by omega)
          have HLJ2 : Hid (L + (j + 1) = BB) := Lib.hid (by omega)
          have hlp : ¬ ((L + 1 : Nat) : Int) = 0 := by omega
          have hlq : (((L + 1 : Nat) : Int) == 0) = false := by simpa using hlp
          clear hLj hi hcb hb59 hkb hpw hp2 hP e1 e2 hvb hVV hV2 hI2 hle
          go_wp2_with (go_at_call 65; (with_reducible refine CH.out.mono ?_); rintro e w6 ⟨rfl, hb⟩; have HC6 := Lib.hid (blk_up HX71.out hb); have HD6 := Lib.hid (blk_up HX61.out hb); have HE6 := Lib.hid (blk_up HX41.out hb); have HB6 := Lib.hid (HB1.out.trans (hb.mono HB1.out.size)); have c6 := box_cell HC6.out (i := 0) rfl; have c7 := box_cell HC6.out (i := 1) rfl; have f6 : w6.frozen? ⟨g7, 0, none⟩ = false := blk_frozen HC6.out 0; have f7 : w6.frozen? ⟨g7, 1, none⟩ = false := blk_frozen HC6.out 1; clear hb)
          go_roundw
          case rel => exact ⟨j + 1, L, I2, kk, true, xs ++ [(L + 1, i)], rfl, rfl, by go_num, HLJ2.out, by rw [List.length_append, HXS.out]; rfl, HI2.out, HK.out.1, HK.out.2, (blk_set_ne N.out.2.2.2.1 _ _).trans ((blk_set_ne N.out.2.2.2.1 _ _).trans HE6.out), (blk_set_ne N.out.1 _ _).trans ((blk_set_ne N.out.1 _ _).trans HD6.out), by have := blk_set (blk_set HC6.out 0 (.int .i64 (L : Int))) 1 (.int .u64 (I2 : Int)); simpa using this, (by refine Below.setCell (Below.setCell HB6.out ?_ _) ?_ _ <;> exact Nat.le_of_lt (Nat.lt_trans N.out.2.2.2.2.1 N.out.2.2.2.2.2)), (fun _ => way_push HY1.out HW2.out), (fun e => by cases e)⟩
          case measure => simp [intOf]; omega
        · have hvm := hvb.1
          have CH := Lib.hid (qhalf_r p F c sts ((L : Int) + 1) (i : Int) VV kk W1 HSW.out hP (by omega) (by omega) hV2 hle hkb.2 hvm)
          have hle2 : ¬ kk ≤ spV c sts (L : Int) ((2 * i : Nat) : Int) := by rw [hVV]; exact hle
          have HW2 := Lib.hid (fun hf => wayQ_right (pt := (fun L i => spV c sts (L : Int) i)) (L := L) (i := i) (k := kk) hle2 hf)
          have HW3 := Lib.hid (fun hf => wayQ_none (pt := (fun L i => spV c sts (L : Int) i)) (L := L) (i := i) (k := kk) hle2 hf)
          rw [hVV] at HW2 HW3
          have e3 : 2 * (i : Int) + 1 = ((2 * i + 1 : Nat) : Int) := by omega
          rw [e1, e3] at CH
          obtain ⟨I3, hI3⟩ : ∃ I3, 2 * i + 1 = I3 := ⟨_, rfl⟩
          rw [hI3] at CH HW2
          have HI2 : Hid (I3 < 2 ^ (BB - L)) := Lib.hid (by omega)
          have HLJ2 : Hid (L + (j + 1) = BB) := Lib.hid (by omega)
          have hlp : ¬ ((L + 1 : Nat) : Int) = 0 := by omega
          have hlq : (((L + 1 : Nat) : Int) == 0) = false := by simpa using hlp
          obtain ⟨FF, hFF⟩ : ∃ v, Wid.fit64 (kk - VV) = v := ⟨_, rfl⟩
          obtain ⟨KN, hKN⟩ : ∃ v, Wid.f64 (kk - VV) = v := ⟨_, rfl⟩
          rw [hFF, hKN] at CH
          have HFT : Hid (FF = true → kk - VV = KN ∧ -9223372036854775808 ≤ KN ∧ KN ≤ 9223372036854775807) := Lib.hid (fun e => by
            rw [e] at hFF
            have h5 := of_decide_eq_true hFF
            have h6 : KN = kk - VV := by rw [← hKN]; unfold Wid.f64; rw [hFF]; rfl
            omega)
          have HFN : Hid (FF = false → KN = 0) := Lib.hid (fun e => by
            rw [e] at hFF
            rw [← hKN]
            unfold Wid.f64
            rw [hFF]
            rfl)
          have HFE := Lib.hid hFF
          clear hLj hi hcb hb59 hkb hpw hp2 hP e1 e2 e3 hvb hvm hVV hV2 hI2 hI3 hle hle2 hFF hKN
          go_wp2_with (go_at_call 65; (with_reducible refine CH.out.mono ?_); rintro e w6 ⟨rfl, hb⟩; have HC6 := Lib.hid (blk_up HX71.out hb); have HD6 := Lib.hid (blk_up HX61.out hb); have HE6 := Lib.hid (blk_up HX41.out hb); have HB6 := Lib.hid (HB1.out.trans (hb.mono HB1.out.size)); have c6 := box_cell HC6.out (i := 0) rfl; have c7 := box_cell HC6.out (i := 1) rfl; have f6 : w6.frozen? ⟨g7, 0, none⟩ = false := blk_frozen HC6.out 0; have f7 : w6.frozen? ⟨g7, 1, none⟩ = false := blk_frozen HC6.out 1; clear hb)
          go_roundw
          case rel =>
            have hkn : -9223372036854775808 ≤ KN ∧ KN ≤ 9223372036854775807 := by
              cases FF with
              | true => exact (HFT.out rfl).2
              | false => rw [HFN.out rfl]; omega
            exact ⟨j + 1, L, I3, KN, FF, xs ++ [(L + 1, i)], rfl, rfl, by go_num, HLJ2.out, by rw [List.length_append, HXS.out]; rfl, HI2.out, hkn.1, hkn.2, (blk_set_ne N.out.2.2.2.1 _ _).trans ((blk_set_ne N.out.2.2.2.1 _ _).trans HE6.out), (blk_set_ne N.out.1 _ _).trans ((blk_set_ne N.out.1 _ _).trans HD6.out), by have := blk_set (blk_set HC6.out 0 (.int .i64 (L : Int))) 1 (.int .u64 (I3 : Int)); simpa using this, (by refine Below.setCell (Below.setCell HB6.out ?_ _) ?_ _ <;> exact Nat.le_of_lt (Nat.lt_trans N.out.2.2.2.2.1 N.out.2.2.2.2.2)), (fun e => by rw [← (HFT.out e).1]; exact way_push HY1.out (HW2.out (by rw [HFE.out]; exact e))), (fun e => by rw [HY1.out, HW3.out (by rw [HFE.out]; exact e)]; rfl)⟩
          case measure => simp [intOf]; omega
theorem qwalk_any (p : Addr) (F : Nat → Prop) (c : Cfg) (sts : List LS) (k : Int) (w : World) (h : ST w p F c sts) (k1 : k ≤ 9223372036854775807) :
    Calls Tryz.prog 39 #[.pointer (some p), .int .i64 k] w fun e w' => e = .returned (.tuple #[.agg (arrP (qnL c (fun L i => spV c sts (L : Int) i) k)), .int .i64 (qnC c (fun L i => spV c sts (L : Int) i) k)]) ∧ Below w.heap.size w w' := by
  have hbt := h.1.1
  have etop : spV c sts ((c.bt.toNat : Nat) : Int) 0 = spV c sts c.bt 0 := by
    rw [show ((c.bt.toNat : Nat) : Int) = c.bt by omega]
  by_cases h1 : k < 1
  · have hq := qn_rank (c := c) (pt := (fun L i => spV c sts (L : Int) i)) (k := k) (.inl h1)
    rw [hq.1, hq.2.1]
    exact qwalk_r1 p F c sts k w h h1
  · by_cases h2 : spV c sts c.bt 0 < k
    · have hq := qn_rank (c := c) (pt := (fun L i => spV c sts (L : Int) i)) (k := k) (.inr (by rw [etop]; exact h2))
      rw [hq.1, hq.2.1]
      exact qwalk_r2 p F c sts k w h h1 h2
    · exact qwalk_y p F c sts k w h (by omega) (by omega) k1
end Go.Proofs.YtiblpdjehknbcaaGreat.Qnt
/- The code's Way and Quantile. By hand. -/
namespace Go.Proofs.YtiblpdjehknbcaaGreat.Qnt
open Go Go.RowKit Lw Grd Lin Con Shp Sk Exa Lev Stk Pcs Spn
set_option linter.unusedVariables false
set_option linter.unusedSimpArgs false
theorem flatP_one : ∀ {us : List (Int × Int)}, ∀ u ∈ flatP us, u.oneCell' = true := by
  intro us u hu
  unfold flatP at hu
  obtain ⟨q, -, h2⟩ := List.mem_flatMap.1 hu
  exact pc_one _ _ u h2
theorem eql_nilq {P : Program} (w : World) (t e : TypeId) (a : Option Addr) (l c : Nat) (h : P.underlying t = some (.slice e)) : (binOp .eql t (.slice a l c) (.slice none 0 0)).run P w = .ok (.bool a.isNone) w := by
  simp only [binOp]
  simp [run_equal_slice_nil w t e a l c h]
set_option maxRecDepth 100000 in
set_option maxHeartbeats 4000000 in
theorem pclone (g n : Nat) (l : List (Nat × Nat)) (w : World) (hl : l.length = n) (h0 : 0 < n) (h60 : n ≤ 60) (h : w.heap[g]? = some (.cells (arrP l) 86 (0, 0))) :
    Calls Tryz.prog 41 #[.slice (some ⟨g, 0, none⟩) n 60] w fun e w' => ∃ (g2 cap2 : Nat), e = .returned (.slice (some ⟨g2, 0, none⟩) n cap2) ∧ w'.ownsRow w.heap.size 61 2 (.slice (some ⟨g2, 0, none⟩) n cap2) n (flatP (ints l)) ∧ Below w.heap.size w w' := by
  obtain ⟨i0, hi, hz0, hz1, hz2⟩ := info_parts pc_info
  have HB := Lib.hid (blk_alloc (p := .cells #[] 61) h)
  have HL := Lib.hid hl
  have hq : ∀ w', (binOp .eql 42 (.slice (some ⟨g, 0, none⟩) n 60) (.slice none 0 0)).run Tryz.prog w' = .ok (.bool false) w' := fun w' => eql_nilq w' _ _ (some ⟨g, 0, none⟩) n 60 pcs_u
  have HN : Hid (∀ (j : Nat) (u : Value), (flatP (ints l))[j]? = some u → (w.alloc (.cells #[] 61)).cell? ((⟨g, 0, none⟩ : Addr).add j) = some u) := Lib.hid (fun j u hu => by
    rw [Addr.add_mid, Nat.zero_add]
    exact box_cell HB.out (flat_arr (by omega) j u hu))
  clear h hl
  go_enter Tryz.func41, Tryz.ntmps41
  go_wp2_with (at_builtin; go_must (refine wpList_append_lies _ rfl _ _ 42 rfl w.heap.size 61 i0 (.agg #[.int .i64 0, .int .u64 0]) 2 16 pcs_u hi hz0 hz1 hz2 rfl (by decide) (.slice (some ⟨w.heap.size, 0, none⟩) 0 0) 0 [] rfl (own_empty w _ _ _ (Nat.le_refl _)) ⟨g, 0, none⟩ n 60 (flatP (ints l)) rfl (by rw [flatP_len, ints_len, HL.out, Nat.mul_comm]) HN.out flatP_one h0 (by unfold maxLen; omega) (by omega) (by simp) _ rfl ?_); intro g7 cap7 w7 hown7 hgrow7 hat7 hlt7; have hb7 : Below w.heap.size w w7 := app_below hgrow7 (Nat.le_refl _); (simp only [Nat.zero_add, List.nil_append] at hown7); (simp only [Nat.zero_add]); clear hgrow7)
  go_ret
  exact ⟨g7, cap7, rfl, hown7, hb7⟩
theorem way_slice (B g : Nat) (h : B + 1 ≤ 60) (w : World) : (Instr.sliceAt 86 (.pointer (some ⟨g, 0, none⟩)) none (some (.int .i64 ((B : Int) + 1))) none).run Tryz.prog w = .ok (.slice (some ⟨g, 0, none⟩) (B + 1) 60) w := by
  have e2 : Tryz.prog.arrayLen 86 = 60 := by kernel_rfl
  have e3 : ((B : Int) + 1).toNat = B + 1 := by omega
  rw [run_sliceAt_array_h w 86 ⟨g, 0, none⟩ (by kernel_rfl) .i64 ((B : Int) + 1) (by omega) (by rw [e2]; omega), e2, e3]
  have e4 : ∃ s, (sizeOf (Tryz.prog.elem 86)).run Tryz.prog w = .ok s w := ⟨2, by kernel_rfl⟩
  obtain ⟨s, e4⟩ := e4
  rw [e4]
  have e5 : slicedAt ⟨g, 0, none⟩ 0 (B + 1) 60 s = .slice (some ⟨g, 0, none⟩) (B + 1) 60 := by
    unfold slicedAt
    rw [if_neg (by omega), Nat.zero_mul, Addr.add_zero', Nat.sub_zero, Nat.sub_zero]
  rw [← e5]
  rfl
theorem qn_at {c : Cfg} (pt : Nat → Int → Int) (k : Int) : celP (qnL c pt k) (c.bt.toNat * 2 + 1) = .int .u64 (qnV c pt k) := by
  by_cases h : qnC c pt k = 0
  · have h2 : k < 1 ∨ pt c.bt.toNat 0 < k → False := fun h3 => by
      have := (qn_rank (c := c) (pt := pt) h3).1
      omega
    have h4 : ¬ (k < 1 ∨ pt c.bt.toNat 0 < k) := h2
    cases hw : wayQ pt c.bt.toNat 0 k with
    | none =>
      have := (qn_over (c := c) (pt := pt) (k := k) (by omega) (by omega) hw).1
      omega
    | some l =>
      obtain ⟨-, e2, e3⟩ := qn_yes (c := c) (pt := pt) (k := k) (by omega) (by omega) hw
      rw [e2, e3, celP_ix (wayQ_path hw).last]
  · have e2 : qnL c pt k = [] := by unfold qnL; rw [if_neg h]
    have e3 : qnV c pt k = 0 := by unfold qnV; rw [e2]; rfl
    rw [e2, e3, celP_nil_ix]
theorem qn_path {c : Cfg} (pt : Nat → Int → Int) (k : Int) (h : qnC c pt k = 0) : Path c.bt.toNat 0 (qnL c pt k) := by
  have h4 : ¬ (k < 1 ∨ pt c.bt.toNat 0 < k) := fun h3 => by
    have := (qn_rank (c := c) (pt := pt) h3).1
    omega
  cases hw : wayQ pt c.bt.toNat 0 k with
  | none =>
    have := (qn_over (c := c) (pt := pt) (k := k) (by omega) (by omega) hw).1
    omega
  | some l =>
    obtain ⟨-, e2, e3⟩ := qn_yes (c := c) (pt := pt) (k := k) (by omega) (by omega) hw
    rw [e2]
    exact wayQ_path hw
set_option maxRecDepth 100000 in
set_option maxHeartbeats 4000000 in
theorem qn_quant (p : Addr) (F : Nat → Prop) (c : Cfg) (sts : List LS) (k : Int) (w : World) (h : ST w p F c sts) (k0 : -9223372036854775808 ≤ k) (k1 : k ≤ 9223372036854775807) :
    Calls Tryz.prog 13 #[.pointer (some p), .int .i64 k] w fun e w' => e = .returned (.tuple #[.int .u64 (qnV c (fun L i => spV c sts (L : Int) i) k), .int .i64 (qnC c (fun L i => spV c sts (L : Int) i) k)]) ∧ Below w.heap.size w w' := by
  have hz := way_zero
  have hb1 := h.1.1
  have hb2 := h.1.2.1
  have HS := Lib.hid h
  have CW := Lib.hid (fun w hs => qwalk_any p F c sts k w hs k1)
  have CC := Lib.hid (fun w hs => cs_config p F c sts w hs)
  have HA := Lib.hid (qn_at (c := c) (fun L i => spV c sts (L : Int) i) k)
  have hfd := fld_btq c
  obtain ⟨QL, hQL⟩ : ∃ l, qnL c (fun L i => spV c sts (L : Int) i) k = l := ⟨_, rfl⟩
  obtain ⟨QC, hQC⟩ : ∃ l, qnC c (fun L i => spV c sts (L : Int) i) k = l := ⟨_, rfl⟩
  obtain ⟨QV, hQV⟩ : ∃ l, qnV c (fun L i => spV c sts (L : Int) i) k = l := ⟨_, rfl⟩
  rw [hQL, hQV] at HA
  rw [hQL, hQC] at CW
  rw [hQC, hQV]
  have i0 : 0 ≤ c.bt := by omega
  have i1 : c.bt < 60 := by omega
  have HJ : Hid (c.bt.toNat * 2 + 1 < 120) := Lib.hid (by omega)
  clear h hQL hQC hQV hb1 hb2 k0 k1
  go_enter Tryz.func13, Tryz.ntmps13
  go_wp2_with (first
    | (go_at_call 39; (with_reducible refine (CW.out _ HS.out).mono ?_); rintro e w1 ⟨rfl, hb⟩; have HB1 := Lib.hid hb; have HB2 := Lib.hid (hb.alloc hb.size (.cells (arrP QL) 86)); have HX2 := Lib.hid (heap_alloc_new w1 (.cells (arrP QL) 86)); have hst := run_storeCells_new (P := Tryz.prog) w1 86 (arrP []) (arrP QL) (by rw [arrP_size]; exact way_size) (by rw [arrP_size, arrP_size]) (arrP_one QL); clear hb)
    | (go_at_call 40; (with_reducible refine (CC.out _ (HS.out.up HB2.out)).mono ?_); rintro e w5 ⟨rfl, hb⟩; have hx5 := box_cell (blk_up HX2.out hb) (i := c.bt.toNat * 2 + 1) (arrP_get HJ.out); rw [HA.out] at hx5; have HB5 := Lib.hid (HB2.out.trans (hb.mono HB2.out.size)); clear hb))
  go_ret2
  exact ⟨rfl, HB5.out⟩
set_option maxRecDepth 100000 in
set_option maxHeartbeats 4000000 in
theorem qn_way (p : Addr) (F : Nat → Prop) (c : Cfg) (sts : List LS) (k : Int) (w : World) (h : ST w p F c sts) (k0 : -9223372036854775808 ≤ k) (k1 : k ≤ 9223372036854775807) :
    Calls Tryz.prog 15 #[.pointer (some p), .int .i64 k] w fun e w' => ∃ (A : Option Addr) (n cap : Nat), e = .returned (.tuple #[.slice A n cap, .int .i64 (qnC c (fun L i => spV c sts (L : Int) i) k)]) ∧ (pcT A n cap (ints (qnL c (fun L i => spV c sts (L : Int) i) k))).I w' ∧ (∀ q, (pcT A n cap (ints (qnL c (fun L i => spV c sts (L : Int) i) k))).F q → w.heap.size ≤ q) ∧ Below w.heap.size w w' := by
  have hz := way_zero
  have hb1 := h.1.1
  have hb2 := h.1.2.1
  have HS := Lib.hid h
  have CW := Lib.hid (fun w hs => qwalk_any p F c sts k w hs k1)
  have CC := Lib.hid (fun w hs => cs_config p F c sts w hs)
  have hfd := fld_btq c
  have HP := Lib.hid (fun e => qn_path (c := c) (fun L i => spV c sts (L : Int) i) k e)
  have HE := Lib.hid (fun (e : qnC c (fun L i => spV c sts (L : Int) i) k ≠ 0) => (show qnL c (fun L i => spV c sts (L : Int) i) k = [] by unfold qnL; rw [if_neg e]))
  obtain ⟨QL, hQL⟩ : ∃ l, qnL c (fun L i => spV c sts (L : Int) i) k = l := ⟨_, rfl⟩
  obtain ⟨QC, hQC⟩ : ∃ l, qnC c (fun L i => spV c sts (L : Int) i) k = l := ⟨_, rfl⟩
  rw [hQL, hQC] at CW HP HE
  rw [hQL, hQC]
  by_cases hc : QC = 0
  · subst hc
    have hp := HP.out rfl
    have hlen := hp.len
    obtain ⟨BB, hBB⟩ : ∃ B, c.bt.toNat = B := ⟨_, rfl⟩
    rw [hBB] at hlen
    have hbe : c.bt = (BB : Int) := by omega
    have HBI := Lib.hid (fun u (hu : u ∈ ints QL) => (show (-9223372036854775808 ≤ u.1 ∧ u.1 ≤ 9223372036854775807) ∧ (0 ≤ u.2 ∧ u.2 ≤ 18446744073709551615) from by
        obtain ⟨q, hq, rfl⟩ := List.mem_map.1 hu
        obtain ⟨j, hj⟩ := List.getElem?_of_mem hq
        obtain ⟨g1, g2, g3⟩ := hp.at j q hj
        have g4 := Nat.pow_le_pow_right (show 0 < 2 by omega) (show j ≤ 59 by omega)
        have g5 : (2 : Nat) ^ 59 = 576460752303423488 := rfl
        refine ⟨⟨?_, ?_⟩, ?_, ?_⟩
        · show -9223372036854775808 ≤ (q.1 : Int); omega
        · show (q.1 : Int) ≤ 9223372036854775807; omega
        · show 0 ≤ (q.2 : Int); omega
        · show (q.2 : Int) ≤ 18446744073709551615; omega))
    have CLN := Lib.hid (fun g w hx => pclone g (BB + 1) QL w hlen (by omega) (by omega) hx)
    have HLN := Lib.hid hlen
    have wr1 : IntKind.i64.wrap (c.bt + 1) = ((BB + 1 : Nat) : Int) := by rw [hbe]; exact (IntWalk.i64_in _ ⟨by omega, by omega⟩).trans (by omega)
    have wr2 : wrap64 (c.bt + 1) = ((BB + 1 : Nat) : Int) := by rw [hbe]; exact (IntWalk.wrap64_in _ ⟨by omega, by omega⟩).trans (by omega)
    have hsl := fun g w => way_slice BB g (by omega) w
    clear h hQL hQC hb1 hb2 k0 k1 hp hlen hbe hBB HP HE
    go_enter Tryz.func15, Tryz.ntmps15
    go_wp2_with (first
      | (go_at_call 39; (with_reducible refine (CW.out _ HS.out).mono ?_); rintro e w1 ⟨rfl, hb⟩; have HB1 := Lib.hid hb; have HB2 := Lib.hid (hb.alloc hb.size (.cells (arrP QL) 86)); have HX2 := Lib.hid (heap_alloc_new w1 (.cells (arrP QL) 86)); have hst := run_storeCells_new (P := Tryz.prog) w1 86 (arrP []) (arrP QL) (by rw [arrP_size]; exact way_size) (by rw [arrP_size, arrP_size]) (arrP_one QL); clear hb)
      | (go_at_call 40; (with_reducible refine (CC.out _ (HS.out.up HB2.out)).mono ?_); rintro e w5 ⟨rfl, hb⟩; have HX5 := Lib.hid (blk_up HX2.out hb); have HB5 := Lib.hid (HB2.out.trans (hb.mono HB2.out.size)); clear hb)
      | (go_at_call 41; (with_reducible refine (CLN.out _ _ HX5.out).mono ?_); rintro e w6 ⟨g2, cap2, rfl, hown, hb⟩; have HOWN := Lib.hid hown; have HB6 := Lib.hid (HB5.out.trans (hb.mono HB5.out.size)); have hs5 := HB5.out.size; clear hown hb))
    go_ret2
    obtain ⟨A2, capx, e9, hI, hF⟩ := pc_own HOWN.out (by rw [ints_len]; exact HLN.out) HBI.out
    injection e9 with e9 e10 e11
    subst e9 e11
    exact ⟨_, _, _, rfl, hI, (fun q hq => Nat.le_trans hs5 (hF q hq)), HB6.out⟩
  · have hE := HE.out hc
    subst hE
    have d1 : (QC == 0) = false := by simpa using hc
    have d2 : decide (QC = 0) = false := decide_eq_false hc
    clear h hQL hQC hb1 hb2 k0 k1 HP HE
    go_enter Tryz.func15, Tryz.ntmps15
    go_wp2_with (go_at_call 39; (with_reducible refine (CW.out _ HS.out).mono ?_); rintro e w1 ⟨rfl, hb⟩; have HB1 := Lib.hid hb; have HB2 := Lib.hid (hb.alloc hb.size (.cells (arrP []) 86)); have HX2 := Lib.hid (heap_alloc_new w1 (.cells (arrP []) 86)); have hst := run_storeCells_new (P := Tryz.prog) w1 86 (arrP []) (arrP []) (by rw [arrP_size]; exact way_size) (by rw [arrP_size]) (arrP_one []); clear hb)
    go_ret2
    exact ⟨none, 0, 0, rfl, pcT_nil _ _ (fun a e => by cases e), (fun q hq => by obtain ⟨a, e, _⟩ := hq; cases e), HB2.out⟩
end Go.Proofs.YtiblpdjehknbcaaGreat.Qnt
/- The code's New of a stack. Printed by wip/gen/stk12.py. -/
namespace Go.Proofs.YtiblpdjehknbcaaGreat.Stk
open Go Go.RowKit Lw Grd Lin Con Shp Sk Exa Lev Go.Shelf
set_option linter.unusedVariables false
set_option linter.unusedSimpArgs false
abbrev cfB (b : Nat) (c : Cfg) : Thing := boxT b 24 #[.int .i64 c.bt, .int .i64 c.rw, .int .i64 c.wd, .int .i64 c.md, .int .u64 c.sd]
theorem cs_none (c : Cfg) (w : World) (h : c.Ok) (hr : ¬ IsRight c) :
    Calls Tryz.prog 9 #[.agg #[.int .i64 c.bt, .int .i64 c.rw, .int .i64 c.wd, .int .i64 c.md, .int .u64 c.sd]] w fun e w' => e = .returned (.tuple #[.pointer none, .int .i64 1]) ∧ Below w.heap.size w w' := by
  have HO := Lib.hid h
  have hm : right c = false := decide_eq_false hr
  clear h hr
  go_enter Tryz.func9, Tryz.ntmps9
  go_wp2_with (go_at_call 29; (with_reducible refine (right_any c _ HO.out).mono ?_); rintro e w' ⟨rfl, hb⟩; obtain ⟨bs, d, rfl⟩ := below_grow hb; clear hb; rw [hm])
  go_ret2
  exact ⟨rfl, (by (repeat' (first | (with_reducible exact Below.refl _ _) | (with_reducible assumption) | (with_reducible refine below_over ?_ _ _) | (with_reducible refine Lw.below_alloc ?_ _) | (with_reducible refine Below.drew ?_) | (with_reducible refine below_drewN ?_ _) | (with_reducible refine Below.setCell ?_ ?_ _) | go_size)))⟩
set_option maxRecDepth 100000 in
set_option maxHeartbeats 2000000 in
theorem cs_new (c : Cfg) (w : World) (h : c.Ok) (hr : IsRight c) :
    Calls Tryz.prog 9 #[.agg #[.int .i64 c.bt, .int .i64 c.rw, .int .i64 c.wd, .int .i64 c.md, .int .u64 c.sd]] w fun e w' => ∃ (p : Addr) (F : Nat → Prop), e = .returned (.tuple #[.pointer (some p), .int .i64 0]) ∧ ST w' p F c (stsOf c []) ∧ (∀ k, F k → w.heap.size ≤ k) ∧ Below w.heap.size w w' := by
  have HO := Lib.hid h
  have HR := Lib.hid hr
  have hm : right c = true := decide_eq_true hr
  have hb1 := hr.1
  have hb2 := hr.2.1
  obtain ⟨j0, hj, hy0, hy1, hy2⟩ := info_parts lvs_info
  have HJ := Lib.hid hj
  have HB1 := Lib.hid ((HoldC.start0 (Below.refl _ w)).push (cfB w.heap.size c) (Lw.below_alloc (Below.refl _ _) _) (heap_alloc_new w _) (fun k hk => Nat.le_of_eq hk.symm) (cel_box (heap_alloc_new w _)))
  clear h hr hj
  go_enter Tryz.func9, Tryz.ntmps9
  go_wp2_with (go_at_call 29; (with_reducible refine (right_any c _ HO.out).mono ?_); rintro e w1 ⟨rfl, hb⟩; rw [hm]; have HV1 := Lib.hid (HB1.out.up hb); clear hb; have g0 := box_cell (HV1.out.i (t := cfB w.heap.size c) (by simp)) (i := 0) rfl; have g1 := box_cell (HV1.out.i (t := cfB w.heap.size c) (by simp)) (i := 1) rfl; have g2 := box_cell (HV1.out.i (t := cfB w.heap.size c) (by simp)) (i := 2) rfl; have g3 := box_cell (HV1.out.i (t := cfB w.heap.size c) (by simp)) (i := 3) rfl; have g4 := box_cell (HV1.out.i (t := cfB w.heap.size c) (by simp)) (i := 4) rfl; have q0 := cell_up g0 (Lw.below_alloc (Below.refl _ w1) (.cells #[.int .i64 c.bt, .int .i64 c.rw, .int .i64 c.wd, .int .i64 c.md, .int .u64 c.sd, .slice none 0 0] 73)))
  have HS := Lib.hid ((HV1.out.push (ownT w.heap.size 75 (.slice none 0 0) []) (Below.refl _ _) (own_nil _ _ _) (fun k hk => own_nilF _ _ hk) (cel_own (own_nil _ _ _))).push (skB w1.heap.size c (.slice none 0 0)) (Lw.below_alloc (Below.refl _ _) _) (heap_alloc_new w1 _) (fun k hk => Nat.le_of_eq hk.symm) (cel_box (heap_alloc_new w1 _)))
  clear g0 g1 g2 g3 g4 q0
  obtain ⟨b, hbq⟩ : ∃ b, w1.heap.size = b := ⟨_, rfl⟩
  rw [hbq] at HS ⊢
  clear hbq
  go_loopw [17] (fun i wr => ∃ (n : Nat) (hdr : Value) (vals : List Value) (ts : List Thing) (sts : List LS), (n : Int) ≤ c.bt + 1 ∧ i = .int .i64 n ∧ LRow elvT c vals ts sts ∧ sts.length = n ∧ (∀ j, j < n → sts[j]? = some (lsZero c j)) ∧ HoldC (fun _ => False) w wr (skB b c hdr :: ownT w.heap.size 75 hdr vals :: cfB w.heap.size c :: ts)) (fun i _ => (c.bt + 1).toNat - (intOf i).toNat)
  case atStart => exact ⟨0, .slice none 0 0, [], [], [], by omega, rfl, LRow.nil _ _, rfl, fun j hj => by omega, HS.out⟩
  case round =>
    obtain ⟨n, hdr, vals, ts, sts, hn, rfl, hrow, hsl, hsj, hv⟩ := hrel
    have HROW := Lib.hid hrow
    have HSL := Lib.hid hsl
    have HSJ := Lib.hid hsj
    have HV := Lib.hid hv
    have LV := Lib.hid (hrow.lv.trans hsl)
    have g0 := box_cell (hv.i (t := cfB w.heap.size c) (by simp)) (i := 0) rfl
    have g1 := box_cell (hv.i (t := cfB w.heap.size c) (by simp)) (i := 1) rfl
    have g2 := box_cell (hv.i (t := cfB w.heap.size c) (by simp)) (i := 2) rfl
    have g3 := box_cell (hv.i (t := cfB w.heap.size c) (by simp)) (i := 3) rfl
    have g4 := box_cell (hv.i (t := cfB w.heap.size c) (by simp)) (i := 4) rfl
    clear hrow hsl hsj hv
    by_cases hlt : (n : Int) < c.bt + 1
    · go_wp2_with (first
        | (go_at_call 30; (with_reducible refine (ev_new c n _ HO.out HR.out (by omega) (by omega)).mono ?_); rintro e w2 ⟨v, Q, rfl, hE, hQ, hb⟩; obtain ⟨ty, pv, rfl⟩ := elv_form hE; have HV2 := Lib.hid (HV.out.snoc (elvT (.iface ty (.pointer (some pv))) Q c n (lsZero c n)) hb hE hQ (cel_elv hE)); have x5 := box_cell (HV2.out.i (t := skB b c hdr) (by simp)) (i := 5) rfl; clear hb hE hQ)
        | (at_builtin; (refine app_val rfl _ _ 71 rfl w.heap.size 75 j0 .nilIface 16 lvs_u HJ.out hy0 hy1 hy2 rfl hdr n vals rfl (by have h7 := (HV2.out.up (Lw.below_alloc (Below.refl _ w2) (.cells #[.iface ty (.pointer (some pv))] 75))).i (t := ownT w.heap.size 75 hdr vals) (by simp); have h8 : World.ownsRow _ _ _ _ hdr vals.length vals := h7; rw [LV.out] at h8; exact h8) (.iface ty (.pointer (some pv))) w2.heap.size rfl (cell_one_new _ _ _) rfl (by unfold maxLen; omega) (by omega) (by have h9 := HV2.out.1.1.size; simp; omega) ?_); intro g6 cap6 w3 own6 grow6 hat6 hl6; have HV3 := Lib.hid (HoldC.app (fs := [skB b c hdr]) (HV2.out.up (Lw.below_alloc (Below.refl _ w2) (.cells #[.iface ty (.pointer (some pv))] 75))) (by rw [LV.out]; exact own6) grow6 hat6); have y5 := box_cell (HV3.out.i (t := skB b c hdr) (by simp)) (i := 5) rfl; have z5 : w3.frozen? ⟨b, 5, none⟩ = false := frozen_of_row w3 b 5 _ _ (HV3.out.i (t := skB b c hdr) (by simp))))
      go_roundw
      case rel =>
        refine ⟨n + 1, .slice (some ⟨g6, 0, none⟩) (n + 1) cap6, vals ++ [.iface ty (.pointer (some pv))], ts ++ [elvT (.iface ty (.pointer (some pv))) Q c n (lsZero c n)], sts ++ [lsZero c n], by omega, by go_num, HROW.out.snoc HSL.out _ Q _, by simp [HSL.out], fun j hj => ?_, ?_⟩
        · by_cases hj2 : j < n
          · rw [List.getElem?_append_left (by rw [HSL.out]; exact hj2)]
            exact HSJ.out j hj2
          · obtain rfl : j = n := by omega
            rw [List.getElem?_append_right (by rw [HSL.out]; exact Nat.le_refl _), HSL.out, Nat.sub_self]
            rfl
        · have h9 := HoldC.store (fs := []) HV3.out (.slice (some ⟨g6, 0, none⟩) (vals.length + 1) cap6)
          rw [LV.out] at h9
          exact h9
      case measure => simp [intOf]; omega
    · go_wp2
      go_ret2
      have he : n = c.bt.toNat + 1 := by omega
      subst he
      obtain ⟨s1, s2, s3⟩ := st_of HR.out HO.out HSL.out HROW.out (HV.out.sub (.cons_cons _ (.cons_cons _ (.cons _ (List.Sublist.refl _)))))
      have e9 : sts = stsOf c [] := List.ext_getElem? (fun j => by
        by_cases hj : j < c.bt.toNat + 1
        · rw [HSJ.out j hj, stsOf_get hj, stOf_nil]
        · rw [List.getElem?_eq_none (by rw [HSL.out]; omega), List.getElem?_eq_none (by rw [stsOf_len]; omega)])
      rw [e9] at s1
      exact ⟨_, rfl, _, s1, fun k hk => (s3 k hk).elim (fun h => h.elim) id, s2.below⟩
end Go.Proofs.YtiblpdjehknbcaaGreat.Stk
/- A region that draws its order, in a round of a range over a function: it may be walked as outside of one. By hand. -/
namespace Go.Proofs.YtiblpdjehknbcaaGreat.Stk
open Go Go.RowKit Lw
set_option linter.unusedVariables false
/-- None of the operations is a defer statement. -/
def noDefer (ops : Array Oper) : Bool := ops.toList.all (fun o => match o.op with
  | .defer _ => false
  | _ => true)
theorem noDefer_spec {ops : Array Oper} (h : noDefer ops = true) {i : Nat} {o : Oper} (hi : ops[i]? = some o) (c : Call) : o.op ≠ .defer c := fun e => by
  have h2 := List.all_eq_true.1 h o (by
    have h3 : ops.toList[i]? = some o := by rw [Array.getElem?_toList]; exact hi
    exact List.mem_of_getElem? h3)
  rw [e] at h2
  cases h2
theorem wpIn_of_wp {P : Program} {l n : Nat} {o : Oper} {a : Act} {w : World} {K K' : Act → World → Prop} {Q : Exit → Act → World → Prop} (hd : ∀ c, o.op ≠ .defer c) (hK : ∀ a w, K a w → K' a w) (h : o.wp P a w K Q) : o.wpIn (Fence.wide.inRound l) n P a w K' Q := by
  refine ⟨fun _ _ => trivial, ?_⟩
  rw [Oper.semAt_eq _ _ _ hd]
  unfold Oper.wp at h
  revert h
  cases (execOp a.eval o).run P w with
  | ok r w' =>
    cases r with
    | value v => exact hK _ _
    | skip => exact hK _ _
    | defer d => exact hK _ _
    | enter f args =>
      intro h
      refine ⟨fun g => (by cases g), CallsIn.inRound l (callsIn_wide.2 (Calls.mono h ?_))⟩
      intro e w'' he
      cases e with
      | returned v => exact hK _ _ he
      | panicked chain => exact he
      | outgrown => exact he
    | row row args =>
      intro h
      refine ⟨fun g => (by cases g), fun c cs _ => ?_⟩
      obtain ⟨v, w'', h1, h2⟩ := h c cs
      exact ⟨v, w'', hK _ _ h1, stepsIn_wide.2 h2⟩
    | _ => exact fun h => h.elim
  | halt s w' =>
    cases s with
    | panic v => exact id
    | _ => exact fun h => h.elim
theorem wpAnyIn_of_any {P : Program} {l n : Nat} {md : Region.Mode} {ops : Array Oper} {Q : Exit → Act → World → Prop} (hd : noDefer ops = true) (hQ : ¬ LetsOut Q) : ∀ (fuel : Nat) (listed : Array Bool) (a : Act) (w : World), wpAny P md ops Q fuel listed a w → wpAnyIn (Fence.wide.inRound l) n P md ops Q fuel listed a w
  | 0, _, _, _, h => h
  | fuel + 1, listed, a, w, h => ⟨h.1, fun i hi => by
    have h2 := h.2 i hi
    unfold wpOp at h2
    unfold wpOpIn
    revert h2
    cases ho : ops[i]? with
    | none => exact wpAnyIn_of_any hd hQ fuel _ a w
    | some o =>
      by_cases hw : Region.wanted o (yielded ops a.tmps) = true
      · simp only [hw, if_true]
        rintro (h3 | h3)
        · exact wpIn_of_wp (noDefer_spec hd ho) (fun a w => wpAnyIn_of_any hd hQ fuel _ a w) h3
        · exact absurd h3.2 hQ
      · simp only [hw]
        exact fun h => ⟨fun _ _ => trivial, wpAnyIn_of_any hd hQ fuel _ _ w h⟩⟩
/-- The beginning. -/
theorem region_round {P : Program} {l n id : Nat} {ops : Array Oper} {Q : Exit → Act → World → Prop} {S : World → Prop} {a : Act} {w : World} (hm : P.follows .mixedOrders = true) (hd : noDefer ops = true) (hQ : ¬ LetsOut Q) (hS : S w.drew) (h : S w.drew → wpAnyH P .any ops Q S ops.size (Array.replicate ops.size false) a w.drew) : (Code.region id ops true).wpIn (Fence.wide.inRound l) n P Q a w :=
  wpIn_region_any hm (wpAnyIn_of_any hd hQ _ _ _ _ (wpAny_of_held _ _ _ _ (h hS)))
/-- One value appended, in a region that draws its order: the row lies where it lay, or in a new block. -/
theorem appat_step {P : Program} {w : World} {ops : Array Oper} {o : Oper} {a : Act} {K : Act → World → Prop} {Q : Exit → Act → World → Prop} {E : Prop} (hgd : o.guard = none) (s x : Operand) (t : TypeId)
    (ho : o.op = .call { callee := .builtin .append, args := #[s, x], argTypes := #[t, t] })
    (base : Nat) (e : TypeId) (i : TypeInfo) (z : Value) (bytes : Nat) (ht : P.underlying t = some (.slice e)) (hi : P.info? e = some i) (hz : i.zero = some z) (hsize : i.size = 1) (hby : i.bytes = bytes) (hzs : z.cells.size = 1)
    (v : Value) (n : Nat) (xs : List Value) (hs : a.eval s = v) (hown : w.ownsRow base e 1 v n xs)
    (X : Value) (B : Nat) (hx : a.eval x = .slice (some ⟨B, 0, none⟩) 1 1) (hc : ∀ j u, ([X] : List Value)[j]? = some u → w.cell? ((⟨B, 0, none⟩ : Addr).add j) = some u) (hX : X.oneCell' = true) (h63 : n + 1 ≤ maxLen) (hbytes : (n + 1) * bytes ≤ 140737488355328) (hbase : base ≤ w.heap.size)
    (h : ∀ g cap w', w'.ownsRow base e 1 (.slice (some ⟨g, 0, none⟩) (n + 1) cap) (n + 1) (xs ++ [X]) → w.grownBy w' v.ownBlock → (v.ownBlock = some g ∨ g = w.heap.size) → K (a.put o.dst (.slice (some ⟨g, 0, none⟩) (n + 1) cap)) w') :
    if Region.wanted o (yielded ops a.tmps) = true then Oper.wp P o a w K Q else E := by
  rw [if_pos (by simp [Region.wanted, hgd])]
  obtain ⟨v', w', hr, h2, h3, h4, h5⟩ := run_append_own_at (P := P) w base t o.type e i z 1 bytes ht hi hz hsize hby hzs (by decide) v n xs hown ⟨B, 0, none⟩ 1 1 [X] rfl hc (by intro u hu; simp at hu; subst hu; exact hX) h63 hbytes hbase
  rcases h2.2 with ⟨h6, h7⟩ | ⟨g, cap, cur, rfl, h6⟩
  · simp at h7
  · unfold Oper.wp
    simp [execOp, ho, resolve, invoke, builtin, hs, hx, hr, Result.andThen]
    refine h g cap w' h2 h3 ?_
    rcases h5 with h8 | h8
    · exact .inl (show v.ownBlock = some g from h8.symm.trans rfl)
    · have h9 : some g = some w.heap.size := h8
      injection h9 with h9
      exact .inr h9
end Go.Proofs.YtiblpdjehknbcaaGreat.Stk
/- The code's Copy of a stack. Printed by wip/gen/stk15.py. -/
namespace Go.Proofs.YtiblpdjehknbcaaGreat.Stk
open Go Go.RowKit Lw Grd Lin Con Shp Sk Exa Lev Go.Shelf
set_option linter.unusedVariables false
set_option linter.unusedSimpArgs false
attribute [local go_sem] Oper.semAt_some
def encV (vals : List Value) (x : Lof vals.length) : Array Value := #[vals[x.1]'x.2]
/-- New levels as they came. -/
structure NRow (c : Cfg) (sts : List LS) (N : Nat) (pre : List (Lof N)) (vs : List Value) (ts : List Thing) : Prop where
  lv : vs.length = pre.length
  lt : ts.length = pre.length
  each : ∀ (j : Nat) (x : Lof N), pre[j]? = some x → ∃ st v Q, sts[x.1]? = some st ∧ vs[j]? = some v ∧ ts[j]? = some (elvT v Q c (x.1 : Int) st)
theorem NRow.nil (c : Cfg) (sts : List LS) (N : Nat) : NRow c sts N [] [] [] := ⟨rfl, rfl, fun j x h => by simp at h⟩
theorem NRow.snoc {c : Cfg} {sts : List LS} {N : Nat} {pre : List (Lof N)} {vs : List Value} {ts : List Thing} (h : NRow c sts N pre vs ts) (x : Lof N) (st : LS) (v : Value) (Q : Nat → Prop) (hs : sts[x.1]? = some st) : NRow c sts N (pre ++ [x]) (vs ++ [v]) (ts ++ [elvT v Q c (x.1 : Int) st]) := by
  refine ⟨by simp [h.lv], by simp [h.lt], fun j y hy => ?_⟩
  by_cases hj : j < pre.length
  · rw [List.getElem?_append_left hj] at hy
    rw [List.getElem?_append_left (by rw [h.lv]; exact hj), List.getElem?_append_left (by rw [h.lt]; exact hj)]
    exact h.each j y hy
  · rw [List.getElem?_append_right (by omega)] at hy
    rw [List.getElem?_append_right (by rw [h.lv]; omega), List.getElem?_append_right (by rw [h.lt]; omega), h.lv, h.lt]
    have hj2 : j - pre.length = 0 := by
      have := (List.getElem?_eq_some_iff.1 hy).1
      simp at this
      omega
    rw [hj2] at hy ⊢
    simp at hy
    subst hy
    exact ⟨st, v, Q, hs, rfl, rfl⟩
theorem NRow.row {c : Cfg} {sts : List LS} {N : Nat} {pre : List (Lof N)} {vs : List Value} {ts : List Thing} (h : NRow c sts N pre vs ts) (hup : UpTo pre) (hl : pre.length = sts.length) : LRow elvT c vs ts sts := by
  refine ⟨h.lv.trans hl, h.lt.trans hl, fun j st hj => ?_⟩
  have hj2 := (List.getElem?_eq_some_iff.1 hj).1
  obtain ⟨x, hx⟩ : ∃ x, pre[j]? = some x := ⟨_, List.getElem?_eq_getElem (by omega)⟩
  have hx2 : x.1 = j := by
    have h3 : (pre.map (fun x => x.1))[j]? = some x.1 := by rw [List.getElem?_map, hx]; rfl
    rw [hup, List.getElem?_range (by omega)] at h3
    injection h3 with h3
    exact h3.symm
  obtain ⟨st2, v, Q, e1, e2, e3⟩ := h.each j x hx
  rw [hx2, hj] at e1
  injection e1 with e1
  subst e1
  rw [hx2] at e3
  exact ⟨v, Q, e2, e3⟩
end Go.Proofs.YtiblpdjehknbcaaGreat.Stk
/- The code's stack: its Update; with New, Copy, and what it tells, all contracts of its calls. Printed by wip/gen/stk14.py. -/
namespace Go.Proofs.YtiblpdjehknbcaaGreat.Stk
open Go Go.RowKit Lw Grd Lin Con Shp Sk Exa Lev Go.Shelf
set_option linter.unusedVariables false
set_option linter.unusedSimpArgs false
theorem cs_upd (p : Addr) (F : Nat → Prop) (c : Cfg) (sts : List LS) (k d : Int) (w : World) (h : ST w p F c sts) (k0 : 0 ≤ k) (k1 : k ≤ 18446744073709551615) (d0 : -9223372036854775808 ≤ d) (d1 : d ≤ 9223372036854775807) :
    Calls Tryz.prog 11 #[.pointer (some p), .int .u64 k, .int .i64 d] w fun e w' => e = .returned (.int .i64 (sucode c sts k d)) ∧ ∃ F', ST w' p F' c (sures c sts k d) ∧ Kept F w w' ∧ (∀ q, F' q → F q ∨ w.heap.size ≤ q) := by
  have HS := Lib.hid h
  obtain ⟨hr, hc, hl, b, B0, hdr, vals, ts, rfl, hrow, hI, rfl⟩ := h
  have HH := Lib.hid (st_hold hrow hI)
  have HO := Lib.hid hc
  have HR := Lib.hid hr
  have HL := Lib.hid hl
  have HROW := Lib.hid hrow
  have K0 := Lib.hid k0
  have K1 := Lib.hid k1
  have D0 := Lib.hid d0
  have D1 := Lib.hid d1
  have HB := Lib.hid (HH.out.push (boxT w.heap.size 2 #[.int .i64 d]) (Lw.below_alloc (Below.refl _ _) _) (heap_alloc_new w _) (fun k hk => Nat.le_of_eq hk.symm) (cel_box (heap_alloc_new w _)))
  have c0 := box_cell (HB.out.i (t := skB b c hdr) (by simp)) (i := 0) rfl
  have c1 := box_cell (HB.out.i (t := skB b c hdr) (by simp)) (i := 1) rfl
  have c2 := box_cell (HB.out.i (t := skB b c hdr) (by simp)) (i := 2) rfl
  have c3 := box_cell (HB.out.i (t := skB b c hdr) (by simp)) (i := 3) rfl
  have c4 := box_cell (HB.out.i (t := skB b c hdr) (by simp)) (i := 4) rfl
  by_cases hk : keys c 0 ≤ k
  · have e1 : sucode c sts k d = 2 := if_pos hk
    have e2 : sures c sts k d = sts := by unfold sures; rw [e1]; exact if_neg (by decide)
    rw [e1, e2]
    clear e1 e2 hI hrow hl hr hc k0 k1 d0 d1
    go_enter Tryz.func11, Tryz.ntmps11
    go_wp2_with (go_at_call 32; (with_reducible refine (keys_any c 0 _ HO.out (by omega) (by omega)).mono ?_); rintro e w1 ⟨rfl, hb⟩)
    go_ret
    have hb3 : Below w.heap.size w w1 := (Lw.below_alloc (Below.refl _ w) (.cells #[.int .i64 d] 2)).trans (hb.mono (by simp))
    exact ⟨rfl, _, HS.out.up hb3, Kept.of_below hb3, fun q hq => .inl hq⟩
  · have hk2 : k < keys c 0 := by omega
    have HK := Lib.hid hk2
    have hm0 : ¬ (c.md = 2 ∧ d < 0) ∨ ers c k d 0 sts = 3 := by
      by_cases hm : c.md = 2 ∧ d < 0
      · obtain ⟨st, v, Q, e1, e2, e3⟩ := hrow.at (j := 0) (by omega)
        exact .inr (ers_mode hr k0 hk2 hm e1 (show ELV w v Q c ((0 : Nat) : Int) st from HH.out.i (t := elvT v Q c ((0 : Nat) : Int) st) (List.mem_cons_of_mem _ (List.mem_cons_of_mem _ (List.mem_of_getElem? e3)))))
      · exact .inl hm
    have e1 : sucode c sts k d = ers c k d 0 sts := by
      unfold sucode
      rw [if_neg hk]
      by_cases hm : c.md = 2 ∧ d < 0
      · rw [if_pos hm]
        exact (hm0.resolve_left (fun g => g hm)).symm
      · rw [if_neg hm]
    clear hm0
    by_cases hz : ers c k d 0 sts = 0
    · have e2 : sures c sts k d = rss c k d 0 sts := by unfold sures; rw [e1, if_pos hz]
      rw [e1, e2, hz]
      have HZ := Lib.hid hz
      clear e1 e2 hI hrow hl hr hc k0 k1 d0 d1 hz hk2
      go_enter Tryz.func11, Tryz.ntmps11
      go_wp2_with (first
        | (go_at_call 32; (with_reducible refine (keys_any c 0 _ HO.out (by omega) (by omega)).mono ?_); rintro e w1 ⟨rfl, hb⟩; have HV1 := Lib.hid (HB.out.up hb); clear hb)
        | (go_at_call 34; (with_reducible refine (sabove_any ⟨b, 0, none⟩ k _).mono ?_); rintro e w2 ⟨rfl, rfl⟩)
        | (go_at_call 33; (with_reducible refine (chk_first c HR.out HO.out k d K0.out K1.out HK.out D0.out D1.out sts HL.out w.heap.size b B0 hdr vals ts HROW.out _ _ _ HV1.out).mono ?_); rintro e w3 ⟨rfl, hv3⟩; have HV3 := Lib.hid hv3; clear hv3; rw [HZ.out])
        | (go_at_call 33; (with_reducible refine (upd_first c HR.out HO.out k d K0.out K1.out HK.out D0.out D1.out sts HL.out HZ.out w.heap.size b B0 hdr vals ts HROW.out _ _ _ HV3.out).mono ?_); rintro e w4 ⟨rfl, ts4, hrow4, hv4⟩; have HV4 := Lib.hid hv4; have HR4 := Lib.hid hrow4; clear hv4 hrow4))
      go_ret
      obtain ⟨s1, s2, s3⟩ := st_of HR.out HO.out (by rw [rss_len]; exact HL.out) HR4.out HV4.out.drop
      exact ⟨rfl, _, s1, s2, s3⟩
    · have e2 : sures c sts k d = sts := by unfold sures; rw [e1]; exact if_neg hz
      rw [e1, e2]
      obtain ⟨E, hE⟩ : ∃ E, ers c k d 0 sts = E := ⟨_, rfl⟩
      have HE := Lib.hid hE
      rw [hE] at hz ⊢
      clear e1 e2 hI hrow hl hr hc k0 k1 d0 d1 hE hk2
      go_enter Tryz.func11, Tryz.ntmps11
      go_wp2_with (first
        | (go_at_call 32; (with_reducible refine (keys_any c 0 _ HO.out (by omega) (by omega)).mono ?_); rintro e w1 ⟨rfl, hb⟩; have HV1 := Lib.hid (HB.out.up hb); clear hb)
        | (go_at_call 34; (with_reducible refine (sabove_any ⟨b, 0, none⟩ k _).mono ?_); rintro e w2 ⟨rfl, rfl⟩)
        | (go_at_call 33; (with_reducible refine (chk_first c HR.out HO.out k d K0.out K1.out HK.out D0.out D1.out sts HL.out w.heap.size b B0 hdr vals ts HROW.out _ _ _ HV1.out).mono ?_); rintro e w3 ⟨rfl, hv3⟩; have HV3 := Lib.hid hv3; clear hv3; rw [HE.out]))
      go_ret
      obtain ⟨s1, s2, s3⟩ := st_of HR.out HO.out HL.out HROW.out HV3.out.drop
      exact ⟨rfl, _, s1, s2, s3⟩
end Go.Proofs.YtiblpdjehknbcaaGreat.Stk
/- fed of layer 15's laws. Printed by wip/gen/stk.py. -/
namespace Go.Proofs.YtiblpdjehknbcaaGreat.Stk
open Go Go.RowKit Lw Grd Lin Con Shp Sk Exa Lev
set_option linter.unusedVariables false
set_option linter.unusedSimpArgs false
theorem box6 {w : World} {b : Nat} {e : TypeId} {v0 v1 v2 v3 v4 v5 : Value} (h : (boxT b e #[v0, v1, v2, v3, v4, v5]).I w) : w.cell? ⟨b, 0, none⟩ = some v0 ∧ w.cell? ⟨b, 1, none⟩ = some v1 ∧ w.cell? ⟨b, 2, none⟩ = some v2 ∧ w.cell? ⟨b, 3, none⟩ = some v3 ∧ w.cell? ⟨b, 4, none⟩ = some v4 ∧ w.cell? ⟨b, 5, none⟩ = some v5 :=
  ⟨box_cell h rfl, box_cell h rfl, box_cell h rfl, box_cell h rfl, box_cell h rfl, box_cell h rfl⟩
end Go.Proofs.YtiblpdjehknbcaaGreat.Stk
/- fed of layer 17's laws. Printed by wip/gen/qnt2.py. -/
namespace Go.Proofs.YtiblpdjehknbcaaGreat.Qnt
open Go Go.RowKit Lw Grd Lin Con Shp Sk Exa Lev Stk
set_option linter.unusedVariables false
set_option linter.unusedSimpArgs false
set_option maxRecDepth 100000 in
set_option maxHeartbeats 8000000 in
theorem fed_z (x : Cfg) (A : Option Addr) (n0 k0 : Nat) (qs : Ups) (c : Cfg) (w : World) (hx : x.Ok) (hq : UpdV w A n0 k0 qs) (hC : anyC x 10 9 = c) :
    Calls Tryz.prog 21 #[.agg #[.int .i64 x.bt, .int .i64 x.rw, .int .i64 x.wd, .int .i64 x.md, .int .u64 x.sd, .slice A n0 k0], .int .i64 10, .int .i64 0] w fun e w' => ∃ (p : Addr) (F : Nat → Prop), e = .returned (.tuple #[.pointer (some p), .agg #[.int .i64 c.bt, .int .i64 c.rw, .int .i64 c.wd, .int .i64 c.md, .int .u64 c.sd]]) ∧ Have w w' [stT p F c (stsOf c (upsR c 0 qs 0 60))] := by
  have hr0 := any_right x 10 9 (by omega) (by omega) (by omega) (by omega)
  have hco0 := any_ok x hx 10 9 (by omega) (by omega) (by omega) (by omega)
  rw [hC] at hr0 hco0
  have hr := hr0
  have hco := hco0
  have CA := Lib.hid (fun w => rany_at x 10 9 c w hx (by omega) (by omega) (by omega) (by omega) hC)
  have hbt := hr.1
  have hkeys : 1 ≤ keys c 0 := keys_pos.2 ⟨hr, by omega, by omega⟩
  have CNW := Lib.hid (fun w => cs_new c w hco hr)
  obtain ⟨Z, hZ⟩ : ∃ Z, stsOf c [] = Z := ⟨_, rfl⟩
  rw [hZ] at CNW
  have hst0 : stsOf c (upsR c 0 qs 0 0) = Z := by rw [upsR_zero]; exact hZ
  have HQ := Lib.hid hq
  have HL := Lib.hid hq.len
  have hnc := hq.nc
  have hcm := hq.cm
  unfold maxLen at hcm
  have HR := Lib.hid hr
  have HKY := Lib.hid hkeys
  have CC0 := Lib.hid (fun w k d h0 h1 h2 h3 => rcut15_any c k d w hco h0 h1 h2 h3 hkeys)
  have HBX : Hid (Have w ((w.alloc (.cells #[.int .i64 x.bt, .int .i64 x.rw, .int .i64 x.wd, .int .i64 x.md, .int .u64 x.sd, .slice A n0 k0] 27)).alloc (.cells #[.int .i64 0, .int .i64 0, .int .i64 0, .int .i64 0, .int .u64 0] 24)) [boxT (w.heap.size + 1) 24 #[.int .i64 0, .int .i64 0, .int .i64 0, .int .i64 0, .int .u64 0], boxT w.heap.size 27 #[.int .i64 x.bt, .int .i64 x.rw, .int .i64 x.wd, .int .i64 x.md, .int .u64 x.sd, .slice A n0 k0]]) := Lib.hid (two_boxs w _ _ _ _)
  clear hC hq hr hkeys hco hx hZ hr0 hco0
  go_enter Tryz.func21, Tryz.ntmps21
  go_wp2_with (first
    | (go_at_call 9; (with_reducible refine (CNW.out _).mono ?_); rintro e w4 ⟨p, F, rfl, hsk, hfr, hb⟩; have HV4 := Lib.hid (HV2.out.push (stT p F c Z) hb hsk hfr); clear hsk hfr hb)
    | (go_at_call 8; (with_reducible refine (CA.out _).mono ?_); rintro e w1 ⟨rfl, hb⟩; have HV1 := Lib.hid (HBX.out.up hb); obtain ⟨x0, x1, x2, x3, x4, x5⟩ := box6 HV1.out.i1; have hl0 := box_lt HV1.out.i1; have hl1 := box_lt HV1.out.i0; have HV2 := Lib.hid (HV1.out.push (boxT w1.heap.size 24 #[.int .i64 c.bt, .int .i64 c.rw, .int .i64 c.wd, .int .i64 c.md, .int .u64 c.sd]) (Lw.below_alloc (Below.refl _ _) _) (heap_alloc_new w1 _) (fun k hk => Nat.le_of_eq hk.symm)); clear hb))
  obtain ⟨g1, hg1⟩ : ∃ g1, w1.heap.size = g1 := ⟨_, rfl⟩
  rw [hg1] at HV4 ⊢
  clear hg1 hl0 hl1 x0 x1 x2 x3 x4 x5
  go_loopw [11] (fun iv wr => ∃ (k : Nat) (F : Nat → Prop), k ≤ 60 ∧ (k ≤ n0 ∨ k = 0) ∧ iv = .int .i64 k ∧ Have w wr [stT p F c (stsOf c (upsR c 0 qs 0 k)), boxT g1 24 #[.int .i64 c.bt, .int .i64 c.rw, .int .i64 c.wd, .int .i64 c.md, .int .u64 c.sd], boxT (w.heap.size + 1) 24 #[.int .i64 0, .int .i64 0, .int .i64 0, .int .i64 0, .int .u64 0], boxT w.heap.size 27 #[.int .i64 x.bt, .int .i64 x.rw, .int .i64 x.wd, .int .i64 x.md, .int .u64 x.sd, .slice A n0 k0]]) (fun iv _ => 60 - (intOf iv).toNat)
  case atStart => exact ⟨0, F, Nat.zero_le _, .inr rfl, rfl, by rw [hst0]; exact HV4.out⟩
  case round =>
    obtain ⟨k, F, hk1, hk2, rfl, hv⟩ := hrel
    have HVr := Lib.hid hv
    have hwb := hv.below
    clear hv hst0
    obtain ⟨x0, x1, x2, x3, x4, c0⟩ := box6 HVr.out.i3
    by_cases hlt : k < n0 ∧ k < 60
    · obtain ⟨hj1, hj2⟩ := hlt
      obtain ⟨q, hq1⟩ : ∃ q, qs[k]? = some q := ⟨_, List.getElem?_eq_getElem (by rw [HL.out]; omega)⟩
      have hnx := upsR_next (c := c) (l := 0) hq1 (Nat.zero_le k)
      have hst := stsOf_step HR.out (upsR_in HKY.out qs 0 k) (by have := upsR_len c 0 qs 0 k; omega) (upsIn_cut HKY.out [q])
      have hcu := cutU_ok HKY.out q
      obtain ⟨aa, g, o, rfl, hadd, d1w, d2w, kb, db⟩ := HQ.out.at hq1
      obtain ⟨qk, qd⟩ := q
      simp only at d1w d2w kb db
      have d1 := cell_up d1w hwb
      have d2 := cell_up d2w hwb
      obtain ⟨e1, e2, e3, e4, e5⟩ := box5 HVr.out.i1
      have CC := Lib.hid (fun w => CC0.out w qk qd kb.1 kb.2 db.1 db.2)
      obtain ⟨us, hus⟩ : ∃ us, stsOf c (upsR c 0 qs 0 k) = us := ⟨_, rfl⟩
      obtain ⟨us2, hus2⟩ : ∃ us2, stsOf c (upsR c 0 qs 0 (k + 1)) = us2 := ⟨_, rfl⟩
      rw [hus] at HVr hst
      rw [hnx] at hus2
      rw [hus2] at hst
      have HNX : Hid (stsOf c (upsR c 0 qs 0 (k + 1)) = us2) := Lib.hid (by rw [hnx]; exact hus2)
      obtain ⟨U, hU⟩ : ∃ U, (cutU c 0 (qk, qd)).1 = U := ⟨_, rfl⟩
      obtain ⟨D, hD⟩ : ∃ D, (cutU c 0 (qk, qd)).2 = D := ⟨_, rfl⟩
      rw [hU, hD] at CC hst hcu
      have HST := Lib.hid hst
      have hkk := keys_bd c 0
      have hub : 0 ≤ U ∧ U ≤ 18446744073709551615 := ⟨hcu.1, by have := hcu.2.1; omega⟩
      have hdb : -9223372036854775808 ≤ D ∧ D ≤ 9223372036854775807 := ⟨by have := hcu.2.2.1; omega, by have := hcu.2.2.2.1; omega⟩
      clear hq1 hnx hst hcu hus hus2 hU hD d1w d2w hwb
      go_upto_region 10 with fail
      go_region_held3 (fun w' => w'.cell? ⟨g1, 0, none⟩ = some (.int .i64 c.bt) ∧ w'.cell? ⟨g1, 1, none⟩ = some (.int .i64 c.rw) ∧ w'.cell? ⟨g1, 2, none⟩ = some (.int .i64 c.wd) ∧ w'.cell? ⟨g1, 3, none⟩ = some (.int .i64 c.md) ∧ w'.cell? ⟨g1, 4, none⟩ = some (.int .u64 c.sd) ∧ w'.cell? ⟨w.heap.size, 5, none⟩ = some (.slice (some aa) n0 k0) ∧ w'.cell? ⟨g, o, none⟩ = some (.int .u64 qk) ∧ w'.cell? ⟨g, o + 1, none⟩ = some (.int .i64 qd)) (first | (refine ⟨?_, ?_, ?_, ?_, ?_, ?_, ?_, ?_⟩ <;> (first | (with_reducible assumption) | (with_reducible refine cell_up e1 ?_) | (with_reducible refine cell_up e2 ?_) | (with_reducible refine cell_up e3 ?_) | (with_reducible refine cell_up e4 ?_) | (with_reducible refine cell_up e5 ?_) | (with_reducible refine cell_up c0 ?_) | (with_reducible refine cell_up d1 ?_) | (with_reducible refine cell_up d2 ?_)) <;> repeat' (first | (with_reducible exact Below.refl _ _) | (with_reducible assumption) | (with_reducible refine below_over ?_ _ _) | (with_reducible refine Lw.below_alloc ?_ _) | (with_reducible refine Below.drew ?_) | (with_reducible refine below_drewN ?_ _) | (with_reducible refine Below.setCell ?_ ?_ _) | go_size))) (first | (go_at_call 27; (with_reducible refine (CC.out _).mono ?_); rintro e w' ⟨rfl, hb⟩; obtain ⟨bs, dd, rfl⟩ := below_grow hb; clear hb))
      all_goals go_wp2_with (go_at_call 11; (with_reducible refine (cs_upd p F c us U D _ (stI (HVr.out.up (by repeat' (first | (with_reducible exact Below.refl _ _) | (with_reducible assumption) | (with_reducible refine below_over ?_ _ _) | (with_reducible refine Lw.below_alloc ?_ _) | (with_reducible refine Below.drew ?_) | (with_reducible refine below_drewN ?_ _) | (with_reducible refine Below.setCell ?_ ?_ _) | go_size))).i0) hub.1 hub.2 hdb.1 hdb.2).mono ?_); rintro e w8 ⟨he, F8, hnp, hnk, hnf⟩; rw [HST.out.1] at he; subst he; rw [HST.out.2] at hnp; have HV8 := Lib.hid ((HVr.out.up (by repeat' (first | (with_reducible exact Below.refl _ _) | (with_reducible assumption) | (with_reducible refine below_over ?_ _ _) | (with_reducible refine Lw.below_alloc ?_ _) | (with_reducible refine Below.drew ?_) | (with_reducible refine below_drewN ?_ _) | (with_reducible refine Below.setCell ?_ ?_ _) | go_size))).turn_0 (stT p F8 c us2) hnp hnk hnf); clear hnp hnk hnf)
      all_goals go_roundw
      all_goals first
        | exact ⟨k + 1, F8, by omega, .inl (by omega), by go_num, by rw [HNX.out]; exact HV8.out⟩
        | (simp [intOf]; omega)
    · have hend : upsR c 0 qs 0 k = upsR c 0 qs 0 60 := upsR_end hk1 (by rw [HL.out]; omega)
      rw [hend] at HVr
      have HVE := Lib.hid HVr.out
      obtain ⟨e1, e2, e3, e4, e5⟩ := box5 HVr.out.i1
      obtain ⟨y1, y2, y3, y4, y5⟩ := box5 HVr.out.i2
      have z1 := boxs_frozen HVr.out.i2 0
      have z2 := boxs_frozen HVr.out.i2 1
      have z3 := boxs_frozen HVr.out.i2 2
      have z4 := boxs_frozen HVr.out.i2 3
      have z5 := boxs_frozen HVr.out.i2 4
      clear hend hk2
      by_cases hkn : k < n0
      · have hkt : 60 ≤ k := by omega
        clear hlt
        go_wp2
        have h5 := box5 (store5 HVE.out.i2 (.int .i64 c.bt) (.int .i64 c.rw) (.int .i64 c.wd) (.int .i64 c.md) (.int .u64 c.sd))
        have hkp := store_have (w' := (((((wr.setCell ⟨w.heap.size + 1, 0, none⟩ (.int .i64 c.bt)).setCell ⟨w.heap.size + 1, 1, none⟩ (.int .i64 c.rw)).setCell ⟨w.heap.size + 1, 2, none⟩ (.int .i64 c.wd)).setCell ⟨w.heap.size + 1, 3, none⟩ (.int .i64 c.md)).setCell ⟨w.heap.size + 1, 4, none⟩ (.int .u64 c.sd)).drew) HVE.out (by repeat' (first | (with_reducible exact Kept.refl _ _) | (with_reducible refine Kept.drew ?_) | (refine Kept.set (F := fun k => k = w.heap.size + 1) ?_ (.inl rfl) _ _)))
        go_region
        all_goals (
          obtain ⟨wz, hwz⟩ : ∃ wz, wz = (((((wr.setCell ⟨w.heap.size + 1, 0, none⟩ (.int .i64 c.bt)).setCell ⟨w.heap.size + 1, 1, none⟩ (.int .i64 c.rw)).setCell ⟨w.heap.size + 1, 2, none⟩ (.int .i64 c.wd)).setCell ⟨w.heap.size + 1, 3, none⟩ (.int .i64 c.md)).setCell ⟨w.heap.size + 1, 4, none⟩ (.int .u64 c.sd)).drew := ⟨_, rfl⟩
          rw [← hwz] at h5 hkp ⊢
          have HKP := Lib.hid hkp
          obtain ⟨r1, r2, r3, r4, r5⟩ := h5
          clear hwz hkp e1 e2 e3 e4 e5 y1 y2 y3 y4 y5 z1 z2 z3 z4 z5
          go_wp2
          all_goals refine bodyPost_ret (v := .tuple #[.pointer (some p), .agg #[.int .i64 c.bt, .int .i64 c.rw, .int .i64 c.wd, .int .i64 c.md, .int .u64 c.sd]]) (by simp [results, Tryz.results21, go_sem, r1, r2, r3, r4, r5]) rfl ?_
          all_goals exact ⟨p, F, rfl, HKP.out⟩)
      · have hkn2 : n0 ≤ k := by omega
        clear hlt hkn
        go_wp2
        have h5 := box5 (store5 HVE.out.i2 (.int .i64 c.bt) (.int .i64 c.rw) (.int .i64 c.wd) (.int .i64 c.md) (.int .u64 c.sd))
        have hkp := store_have (w' := (((((wr.setCell ⟨w.heap.size + 1, 0, none⟩ (.int .i64 c.bt)).setCell ⟨w.heap.size + 1, 1, none⟩ (.int .i64 c.rw)).setCell ⟨w.heap.size + 1, 2, none⟩ (.int .i64 c.wd)).setCell ⟨w.heap.size + 1, 3, none⟩ (.int .i64 c.md)).setCell ⟨w.heap.size + 1, 4, none⟩ (.int .u64 c.sd)).drew) HVE.out (by repeat' (first | (with_reducible exact Kept.refl _ _) | (with_reducible refine Kept.drew ?_) | (refine Kept.set (F := fun k => k = w.heap.size + 1) ?_ (.inl rfl) _ _)))
        go_region
        all_goals (
          obtain ⟨wz, hwz⟩ : ∃ wz, wz = (((((wr.setCell ⟨w.heap.size + 1, 0, none⟩ (.int .i64 c.bt)).setCell ⟨w.heap.size + 1, 1, none⟩ (.int .i64 c.rw)).setCell ⟨w.heap.size + 1, 2, none⟩ (.int .i64 c.wd)).setCell ⟨w.heap.size + 1, 3, none⟩ (.int .i64 c.md)).setCell ⟨w.heap.size + 1, 4, none⟩ (.int .u64 c.sd)).drew := ⟨_, rfl⟩
          rw [← hwz] at h5 hkp ⊢
          have HKP := Lib.hid hkp
          obtain ⟨r1, r2, r3, r4, r5⟩ := h5
          clear hwz hkp e1 e2 e3 e4 e5 y1 y2 y3 y4 y5 z1 z2 z3 z4 z5
          go_wp2
          all_goals refine bodyPost_ret (v := .tuple #[.pointer (some p), .agg #[.int .i64 c.bt, .int .i64 c.rw, .int .i64 c.wd, .int .i64 c.md, .int .u64 c.sd]]) (by simp [results, Tryz.results21, go_sem, r1, r2, r3, r4, r5]) rfl ?_
          all_goals exact ⟨p, F, rfl, HKP.out⟩)
end Go.Proofs.YtiblpdjehknbcaaGreat.Qnt
/- fed of layer 17's laws. Printed by wip/gen/qnt2.py. -/
namespace Go.Proofs.YtiblpdjehknbcaaGreat.Qnt
open Go Go.RowKit Lw Grd Lin Con Shp Sk Exa Lev Stk
set_option linter.unusedVariables false
set_option linter.unusedSimpArgs false
set_option maxRecDepth 100000 in
set_option maxHeartbeats 8000000 in
theorem fed_m (x : Cfg) (A : Option Addr) (n0 k0 : Nat) (qs : Ups) (md : Int) (hm0 : 1 ≤ md) (hm1 : md ≤ 3) (c : Cfg) (w : World) (hx : x.Ok) (hq : UpdV w A n0 k0 qs) (hC : { anyC x 10 9 with md := md } = c) :
    Calls Tryz.prog 21 #[.agg #[.int .i64 x.bt, .int .i64 x.rw, .int .i64 x.wd, .int .i64 x.md, .int .u64 x.sd, .slice A n0 k0], .int .i64 10, .int .i64 md] w fun e w' => ∃ (p : Addr) (F : Nat → Prop), e = .returned (.tuple #[.pointer (some p), .agg #[.int .i64 c.bt, .int .i64 c.rw, .int .i64 c.wd, .int .i64 c.md, .int .u64 c.sd]]) ∧ Have w w' [stT p F c (stsOf c (upsR c 0 qs 0 60))] := by
  have hr0 := any_right x 10 9 (by omega) (by omega) (by omega) (by omega)
  have hco0 := any_ok x hx 10 9 (by omega) (by omega) (by omega) (by omega)
  have hr : IsRight c := by rw [← hC]; exact ⟨hr0.1, hr0.2.1, hr0.2.2.1, hr0.2.2.2.1, hr0.2.2.2.2.1, hr0.2.2.2.2.2.1, hm0, hm1⟩
  have hco : c.Ok := by rw [← hC]; exact ⟨hco0.b0, hco0.b1, hco0.r0, hco0.r1, hco0.w0, hco0.w1, by show -9223372036854775808 ≤ md; omega, by show md ≤ 9223372036854775807; omega, hco0.s0, hco0.s1⟩
  obtain ⟨C, hCC⟩ : ∃ C, anyC x 10 9 = C := ⟨_, rfl⟩
  have h1 : C.bt = c.bt ∧ C.rw = c.rw ∧ C.wd = c.wd ∧ C.sd = c.sd ∧ c.md = md := by rw [← hC, ← hCC]; exact ⟨rfl, rfl, rfl, rfl, rfl⟩
  have CA := Lib.hid (fun w => rany_at x 10 9 C w hx (by omega) (by omega) (by omega) (by omega) hCC)
  rw [h1.1, h1.2.1, h1.2.2.1, h1.2.2.2.1] at CA
  have hmd := h1.2.2.2.2
  have hm9 : (0 : Int) < md := by omega
  have hbt := hr.1
  have hkeys : 1 ≤ keys c 0 := keys_pos.2 ⟨hr, by omega, by omega⟩
  have CNW := Lib.hid (fun w => cs_new c w hco hr)
  obtain ⟨Z, hZ⟩ : ∃ Z, stsOf c [] = Z := ⟨_, rfl⟩
  rw [hZ] at CNW
  have hst0 : stsOf c (upsR c 0 qs 0 0) = Z := by rw [upsR_zero]; exact hZ
  have HQ := Lib.hid hq
  have HL := Lib.hid hq.len
  have hnc := hq.nc
  have hcm := hq.cm
  unfold maxLen at hcm
  have HR := Lib.hid hr
  have HKY := Lib.hid hkeys
  have CC0 := Lib.hid (fun w k d h0 h1 h2 h3 => rcut15_any c k d w hco h0 h1 h2 h3 hkeys)
  have HBX : Hid (Have w ((w.alloc (.cells #[.int .i64 x.bt, .int .i64 x.rw, .int .i64 x.wd, .int .i64 x.md, .int .u64 x.sd, .slice A n0 k0] 27)).alloc (.cells #[.int .i64 0, .int .i64 0, .int .i64 0, .int .i64 0, .int .u64 0] 24)) [boxT (w.heap.size + 1) 24 #[.int .i64 0, .int .i64 0, .int .i64 0, .int .i64 0, .int .u64 0], boxT w.heap.size 27 #[.int .i64 x.bt, .int .i64 x.rw, .int .i64 x.wd, .int .i64 x.md, .int .u64 x.sd, .slice A n0 k0]]) := Lib.hid (two_boxs w _ _ _ _)
  rw [hmd] at CNW CC0 ⊢
  clear hC hq hr hkeys hco hx hZ hr0 hco0 h1 hCC hmd
  go_enter Tryz.func21, Tryz.ntmps21
  go_wp2_with (first
    | (go_at_call 9; (with_reducible refine (CNW.out _).mono ?_); rintro e w4 ⟨p, F, rfl, hsk, hfr, hb⟩; have HV4 := Lib.hid (HV2.out.push (stT p F c Z) hb hsk hfr); clear hsk hfr hb)
    | (go_at_call 8; (with_reducible refine (CA.out _).mono ?_); rintro e w1 ⟨rfl, hb⟩; have HV1 := Lib.hid (HBX.out.up hb); obtain ⟨x0, x1, x2, x3, x4, x5⟩ := box6 HV1.out.i1; have hl0 := box_lt HV1.out.i1; have hl1 := box_lt HV1.out.i0; have HV2 := Lib.hid (HV1.out.push (boxT w1.heap.size 24 #[.int .i64 c.bt, .int .i64 c.rw, .int .i64 c.wd, .int .i64 md, .int .u64 c.sd]) (Lw.below_alloc (Below.refl _ _) _) (heap_alloc_new w1 _) (fun k hk => Nat.le_of_eq hk.symm)); clear hb))
  obtain ⟨g1, hg1⟩ : ∃ g1, w1.heap.size = g1 := ⟨_, rfl⟩
  rw [hg1] at HV4 ⊢
  clear hg1 hl0 hl1 x0 x1 x2 x3 x4 x5
  go_loopw [11] (fun iv wr => ∃ (k : Nat) (F : Nat → Prop), k ≤ 60 ∧ (k ≤ n0 ∨ k = 0) ∧ iv = .int .i64 k ∧ Have w wr [stT p F c (stsOf c (upsR c 0 qs 0 k)), boxT g1 24 #[.int .i64 c.bt, .int .i64 c.rw, .int .i64 c.wd, .int .i64 md, .int .u64 c.sd], boxT (w.heap.size + 1) 24 #[.int .i64 0, .int .i64 0, .int .i64 0, .int .i64 0, .int .u64 0], boxT w.heap.size 27 #[.int .i64 x.bt, .int .i64 x.rw, .int .i64 x.wd, .int .i64 x.md, .int .u64 x.sd, .slice A n0 k0]]) (fun iv _ => 60 - (intOf iv).toNat)
  case atStart => exact ⟨0, F, Nat.zero_le _, .inr rfl, rfl, by rw [hst0]; exact HV4.out⟩
  case round =>
    obtain ⟨k, F, hk1, hk2, rfl, hv⟩ := hrel
    have HVr := Lib.hid hv
    have hwb := hv.below
    clear hv hst0
    obtain ⟨x0, x1, x2, x3, x4, c0⟩ := box6 HVr.out.i3
    by_cases hlt : k < n0 ∧ k < 60
    · obtain ⟨hj1, hj2⟩ := hlt
      obtain ⟨q, hq1⟩ : ∃ q, qs[k]? = some q := ⟨_, List.getElem?_eq_getElem (by rw [HL.out]; omega)⟩
      have hnx := upsR_next (c := c) (l := 0) hq1 (Nat.zero_le k)
      have hst := stsOf_step HR.out (upsR_in HKY.out qs 0 k) (by have := upsR_len c 0 qs 0 k; omega) (upsIn_cut HKY.out [q])
      have hcu := cutU_ok HKY.out q
      obtain ⟨aa, g, o, rfl, hadd, d1w, d2w, kb, db⟩ := HQ.out.at hq1
      obtain ⟨qk, qd⟩ := q
      simp only at d1w d2w kb db
      have d1 := cell_up d1w hwb
      have d2 := cell_up d2w hwb
      obtain ⟨e1, e2, e3, e4, e5⟩ := box5 HVr.out.i1
      have CC := Lib.hid (fun w => CC0.out w qk qd kb.1 kb.2 db.1 db.2)
      obtain ⟨us, hus⟩ : ∃ us, stsOf c (upsR c 0 qs 0 k) = us := ⟨_, rfl⟩
      obtain ⟨us2, hus2⟩ : ∃ us2, stsOf c (upsR c 0 qs 0 (k + 1)) = us2 := ⟨_, rfl⟩
      rw [hus] at HVr hst
      rw [hnx] at hus2
      rw [hus2] at hst
      have HNX : Hid (stsOf c (upsR c 0 qs 0 (k + 1)) = us2) := Lib.hid (by rw [hnx]; exact hus2)
      obtain ⟨U, hU⟩ : ∃ U, (cutU c 0 (qk, qd)).1 = U := ⟨_, rfl⟩
      obtain ⟨D, hD⟩ : ∃ D, (cutU c 0 (qk, qd)).2 = D := ⟨_, rfl⟩
      rw [hU, hD] at CC hst hcu
      have HST := Lib.hid hst
      have hkk := keys_bd c 0
      have hub : 0 ≤ U ∧ U ≤ 18446744073709551615 := ⟨hcu.1, by have := hcu.2.1; omega⟩
      have hdb : -9223372036854775808 ≤ D ∧ D ≤ 9223372036854775807 := ⟨by have := hcu.2.2.1; omega, by have := hcu.2.2.2.1; omega⟩
      clear hq1 hnx hst hcu hus hus2 hU hD d1w d2w hwb
      go_upto_region 10 with fail
      go_region_held3 (fun w' => w'.cell? ⟨g1, 0, none⟩ = some (.int .i64 c.bt) ∧ w'.cell? ⟨g1, 1, none⟩ = some (.int .i64 c.rw) ∧ w'.cell? ⟨g1, 2, none⟩ = some (.int .i64 c.wd) ∧ w'.cell? ⟨g1, 3, none⟩ = some (.int .i64 md) ∧ w'.cell? ⟨g1, 4, none⟩ = some (.int .u64 c.sd) ∧ w'.cell? ⟨w.heap.size, 5, none⟩ = some (.slice (some aa) n0 k0) ∧ w'.cell? ⟨g, o, none⟩ = some (.int .u64 qk) ∧ w'.cell? ⟨g, o + 1, none⟩ = some (.int .i64 qd)) (first | (refine ⟨?_, ?_, ?_, ?_, ?_, ?_, ?_, ?_⟩ <;> (first | (with_reducible assumption) | (with_reducible refine cell_up e1 ?_) | (with_reducible refine cell_up e2 ?_) | (with_reducible refine cell_up e3 ?_) | (with_reducible refine cell_up e4 ?_) | (with_reducible refine cell_up e5 ?_) | (with_reducible refine cell_up c0 ?_) | (with_reducible refine cell_up d1 ?_) | (with_reducible refine cell_up d2 ?_)) <;> repeat' (first | (with_reducible exact Below.refl _ _) | (with_reducible assumption) | (with_reducible refine below_over ?_ _ _) | (with_reducible refine Lw.below_alloc ?_ _) | (with_reducible refine Below.drew ?_) | (with_reducible refine below_drewN ?_ _) | (with_reducible refine Below.setCell ?_ ?_ _) | go_size))) (first | (go_at_call 27; (with_reducible refine (CC.out _).mono ?_); rintro e w' ⟨rfl, hb⟩; obtain ⟨bs, dd, rfl⟩ := below_grow hb; clear hb))
      all_goals go_wp2_with (go_at_call 11; (with_reducible refine (cs_upd p F c us U D _ (stI (HVr.out.up (by repeat' (first | (with_reducible exact Below.refl _ _) | (with_reducible assumption) | (with_reducible refine below_over ?_ _ _) | (with_reducible refine Lw.below_alloc ?_ _) | (with_reducible refine Below.drew ?_) | (with_reducible refine below_drewN ?_ _) | (with_reducible refine Below.setCell ?_ ?_ _) | go_size))).i0) hub.1 hub.2 hdb.1 hdb.2).mono ?_); rintro e w8 ⟨he, F8, hnp, hnk, hnf⟩; rw [HST.out.1] at he; subst he; rw [HST.out.2] at hnp; have HV8 := Lib.hid ((HVr.out.up (by repeat' (first | (with_reducible exact Below.refl _ _) | (with_reducible assumption) | (with_reducible refine below_over ?_ _ _) | (with_reducible refine Lw.below_alloc ?_ _) | (with_reducible refine Below.drew ?_) | (with_reducible refine below_drewN ?_ _) | (with_reducible refine Below.setCell ?_ ?_ _) | go_size))).turn_0 (stT p F8 c us2) hnp hnk hnf); clear hnp hnk hnf)
      all_goals go_roundw
      all_goals first
        | exact ⟨k + 1, F8, by omega, .inl (by omega), by go_num, by rw [HNX.out]; exact HV8.out⟩
        | (simp [intOf]; omega)
    · have hend : upsR c 0 qs 0 k = upsR c 0 qs 0 60 := upsR_end hk1 (by rw [HL.out]; omega)
      rw [hend] at HVr
      have HVE := Lib.hid HVr.out
      obtain ⟨e1, e2, e3, e4, e5⟩ := box5 HVr.out.i1
      obtain ⟨y1, y2, y3, y4, y5⟩ := box5 HVr.out.i2
      have z1 := boxs_frozen HVr.out.i2 0
      have z2 := boxs_frozen HVr.out.i2 1
      have z3 := boxs_frozen HVr.out.i2 2
      have z4 := boxs_frozen HVr.out.i2 3
      have z5 := boxs_frozen HVr.out.i2 4
      clear hend hk2
      by_cases hkn : k < n0
      · have hkt : 60 ≤ k := by omega
        clear hlt
        go_wp2
        have h5 := box5 (store5 HVE.out.i2 (.int .i64 c.bt) (.int .i64 c.rw) (.int .i64 c.wd) (.int .i64 md) (.int .u64 c.sd))
        have hkp := store_have (w' := (((((wr.setCell ⟨w.heap.size + 1, 0, none⟩ (.int .i64 c.bt)).setCell ⟨w.heap.size + 1, 1, none⟩ (.int .i64 c.rw)).setCell ⟨w.heap.size + 1, 2, none⟩ (.int .i64 c.wd)).setCell ⟨w.heap.size + 1, 3, none⟩ (.int .i64 md)).setCell ⟨w.heap.size + 1, 4, none⟩ (.int .u64 c.sd)).drew) HVE.out (by repeat' (first | (with_reducible exact Kept.refl _ _) | (with_reducible refine Kept.drew ?_) | (refine Kept.set (F := fun k => k = w.heap.size + 1) ?_ (.inl rfl) _ _)))
        go_region
        all_goals (
          obtain ⟨wz, hwz⟩ : ∃ wz, wz = (((((wr.setCell ⟨w.heap.size + 1, 0, none⟩ (.int .i64 c.bt)).setCell ⟨w.heap.size + 1, 1, none⟩ (.int .i64 c.rw)).setCell ⟨w.heap.size + 1, 2, none⟩ (.int .i64 c.wd)).setCell ⟨w.heap.size + 1, 3, none⟩ (.int .i64 md)).setCell ⟨w.heap.size + 1, 4, none⟩ (.int .u64 c.sd)).drew := ⟨_, rfl⟩
          rw [← hwz] at h5 hkp ⊢
          have HKP := Lib.hid hkp
          obtain ⟨r1, r2, r3, r4, r5⟩ := h5
          clear hwz hkp e1 e2 e3 e4 e5 y1 y2 y3 y4 y5 z1 z2 z3 z4 z5
          go_wp2
          all_goals refine bodyPost_ret (v := .tuple #[.pointer (some p), .agg #[.int .i64 c.bt, .int .i64 c.rw, .int .i64 c.wd, .int .i64 md, .int .u64 c.sd]]) (by simp [results, Tryz.results21, go_sem, r1, r2, r3, r4, r5]) rfl ?_
          all_goals exact ⟨p, F, rfl, HKP.out⟩)
      · have hkn2 : n0 ≤ k := by omega
        clear hlt hkn
        go_wp2
        have h5 := box5 (store5 HVE.out.i2 (.int .i64 c.bt) (.int .i64 c.rw) (.int .i64 c.wd) (.int .i64 md) (.int .u64 c.sd))
        have hkp := store_have (w' := (((((wr.setCell ⟨w.heap.size + 1, 0, none⟩ (.int .i64 c.bt)).setCell ⟨w.heap.size + 1, 1, none⟩ (.int .i64 c.rw)).setCell ⟨w.heap.size + 1, 2, none⟩ (.int .i64 c.wd)).setCell ⟨w.heap.size + 1, 3, none⟩ (.int .i64 md)).setCell ⟨w.heap.size + 1, 4, none⟩ (.int .u64 c.sd)).drew) HVE.out (by repeat' (first | (with_reducible exact Kept.refl _ _) | (with_reducible refine Kept.drew ?_) | (refine Kept.set (F := fun k => k = w.heap.size + 1) ?_ (.inl rfl) _ _)))
        go_region
        all_goals (
          obtain ⟨wz, hwz⟩ : ∃ wz, wz = (((((wr.setCell ⟨w.heap.size + 1, 0, none⟩ (.int .i64 c.bt)).setCell ⟨w.heap.size + 1, 1, none⟩ (.int .i64 c.rw)).setCell ⟨w.heap.size + 1, 2, none⟩ (.int .i64 c.wd)).setCell ⟨w.heap.size + 1, 3, none⟩ (.int .i64 md)).setCell ⟨w.heap.size + 1, 4, none⟩ (.int .u64 c.sd)).drew := ⟨_, rfl⟩
          rw [← hwz] at h5 hkp ⊢
          have HKP := Lib.hid hkp
          obtain ⟨r1, r2, r3, r4, r5⟩ := h5
          clear hwz hkp e1 e2 e3 e4 e5 y1 y2 y3 y4 y5 z1 z2 z3 z4 z5
          go_wp2
          all_goals refine bodyPost_ret (v := .tuple #[.pointer (some p), .agg #[.int .i64 c.bt, .int .i64 c.rw, .int .i64 c.wd, .int .i64 md, .int .u64 c.sd]]) (by simp [results, Tryz.results21, go_sem, r1, r2, r3, r4, r5]) rfl ?_
          all_goals exact ⟨p, F, rfl, HKP.out⟩)
end Go.Proofs.YtiblpdjehknbcaaGreat.Qnt
/- shown of layer 15's laws. Printed by wip/gen/stk2.py. -/
namespace Go.Proofs.YtiblpdjehknbcaaGreat.Stk
open Go Go.RowKit Lw Grd Lin Con Shp Sk Exa Lev
set_option linter.unusedVariables false
set_option linter.unusedSimpArgs false
def lS : Cfg := ⟨2, 2, 2, 1, 0⟩
theorem lS_ok : lS.Ok := by constructor <;> decide
theorem lS_r : IsRight lS := by decide
theorem lS_k : keys lS 0 = 4 := by decide
theorem lS_in {us : Ups} (h : ∀ u ∈ us, (0 ≤ u.1 ∧ u.1 < 4) ∧ (-1099511627776 ≤ u.2 ∧ u.2 ≤ 1099511627776)) : UpsIn lS 0 us :=
  ⟨fun u hu => ⟨(h u hu).1.1, by rw [lS_k]; exact (h u hu).1.2, (h u hu).2⟩, fun hm => by simp [lS] at hm⟩
theorem sS_1 : sucode lS (stsOf lS []) 3 5 = 0 ∧ sures lS (stsOf lS []) 3 5 = stsOf lS [(3, 5)] :=
  stsOf_step lS_r (lS_in (fun u hu => by simp at hu)) (by decide) (u := (3, 5)) (lS_in (fun u hu => by rw [List.mem_singleton.1 hu]; decide))
theorem sS_2 : sucode lS (stsOf lS [(3, 5)]) 0 (-2) = 0 ∧ sures lS (stsOf lS [(3, 5)]) 0 (-2) = stsOf lS [(3, 5), (0, -2)] :=
  stsOf_step lS_r (lS_in (fun u hu => by rw [List.mem_singleton.1 hu]; decide)) (by decide) (u := (0, -2)) (lS_in (fun u hu => by rw [List.mem_singleton.1 hu]; decide))
theorem sS_3 (sts : List LS) : sucode lS sts 4 1 = 2 ∧ sures lS sts 4 1 = sts := by
  have e : sucode lS sts 4 1 = 2 := if_pos (by rw [lS_k]; decide)
  exact ⟨e, if_neg (by rw [e]; decide)⟩
theorem sz_flat2 {m n : Nat} {L : List (List Int)} (h : Sz m n L) : L.flatten.length = m * n := by
  have h2 : ∀ {L : List (List Int)}, (∀ r ∈ L, r.length = n) → L.flatten.length = L.length * n := by
    intro L
    induction L with
    | nil => intro _; simp
    | cons r L ih =>
      intro hr
      rw [List.flatten_cons, List.length_append, ih (fun q hq => hr q (by simp [hq])), hr r (by simp), List.length_cons, Nat.succ_mul]
      omega
  rw [h2 h.2, h.1]
theorem sS_c0 : (lvFl (stsOf lS [(3, 5), (0, -2)]) 0).length = 4 := by
  have h1 : UpsIn lS 0 [(3, 5), (0, -2)] := lS_in (fun u hu => by
    rcases List.mem_cons.1 hu with rfl | hu
    · decide
    · rw [List.mem_singleton.1 hu]; decide)
  have h2 := upN_in lS_r h1 (n := 0) (by decide)
  have h3 := sz_flat2 (cells_sz h2)
  have e : lvFl (stsOf lS [(3, 5), (0, -2)]) 0 = (cells lS 0 (upN [(3, 5), (0, -2)] 0)).flatten := rfl
  rw [e]
  exact h3
theorem sS_c1 : lvFl (stsOf lS [(3, 5), (0, -2)]) 1 = [-2, 5] := by decide
theorem sS_p1 : spV lS (stsOf lS [(3, 5), (0, -2)]) 1 1 = 5 ∧ spC lS (stsOf lS [(3, 5), (0, -2)]) 1 1 = 0 := by decide
theorem sS_p3 : spC lS (stsOf lS [(3, 5), (0, -2)]) 3 0 = 2 := by decide
theorem sS_t : spV lS (stsOf lS [(3, 5), (0, -2)]) lS.bt 0 = 3 := by decide
theorem sS_a : (stsOf lS [(3, 5), (0, -2)])[1]? = some (.A [-2, 5]) := by
  have h := stsOf_get (c := lS) (us := [(3, 5), (0, -2)]) (n := 1) (by decide)
  have e : stOf lS [(3, 5), (0, -2)] 1 = .A (sums (keys lS 1).toNat (upN [(3, 5), (0, -2)] 1)) := if_pos (by decide)
  have e2 : sums (keys lS 1).toNat (upN [(3, 5), (0, -2)] 1) = [-2, 5] := by decide
  rw [h, e, e2]
theorem sn_1 (w : World) : Calls Tryz.prog 9 #[.agg #[.int .i64 2, .int .i64 2, .int .i64 2, .int .i64 1, .int .u64 0]] w fun e w' => ∃ (p : Addr) (F : Nat → Prop), e = .returned (.tuple #[.pointer (some p), .int .i64 0]) ∧ ST w' p F lS (stsOf lS []) ∧ (∀ k, F k → w.heap.size ≤ k) ∧ Below w.heap.size w w' := cs_new lS w lS_ok lS_r
theorem sn_0 (w : World) : Calls Tryz.prog 9 #[.agg #[.int .i64 0, .int .i64 0, .int .i64 0, .int .i64 0, .int .u64 0]] w fun e w' => e = .returned (.tuple #[.pointer none, .int .i64 1]) ∧ Below w.heap.size w w' := cs_none ⟨0, 0, 0, 0, 0⟩ w (by constructor <;> decide) (by decide)
theorem su_any (p : Addr) (F : Nat → Prop) (sts sts2 : List LS) (k d x : Int) (w : World) (h : ST w p F lS sts) (k0 : 0 ≤ k) (k1 : k ≤ 18446744073709551615) (d0 : -9223372036854775808 ≤ d) (d1 : d ≤ 9223372036854775807) (hu : sucode lS sts k d = x ∧ sures lS sts k d = sts2) :
    Calls Tryz.prog 11 #[.pointer (some p), .int .u64 k, .int .i64 d] w fun e w' => e = .returned (.int .i64 x) ∧ ∃ F', ST w' p F' lS sts2 ∧ Kept F w w' ∧ (∀ q, F' q → F q ∨ w.heap.size ≤ q) := by
  have h1 := cs_upd p F lS sts k d w h k0 k1 d0 d1
  rw [hu.1, hu.2] at h1
  exact h1
theorem sp_1 (p : Addr) (F : Nat → Prop) (w : World) (h : ST w p F lS (stsOf lS [(3, 5), (0, -2)])) : Calls Tryz.prog 25 #[.pointer (some p), .agg #[.int .i64 1, .int .u64 1]] w fun e w' => e = .returned (.tuple #[.int .i64 5, .int .i64 0]) ∧ Below w.heap.size w w' := by
  have h1 := cs_point p F lS _ 1 1 w h (by decide) (by decide) (by decide) (by decide)
  rw [sS_p1.1, sS_p1.2] at h1
  exact h1
theorem sp_3 (p : Addr) (F : Nat → Prop) (w : World) (h : ST w p F lS (stsOf lS [(3, 5), (0, -2)])) : Calls Tryz.prog 25 #[.pointer (some p), .agg #[.int .i64 3, .int .u64 0]] w fun e w' => ∃ z, e = .returned (.tuple #[.int .i64 z, .int .i64 2]) ∧ Below w.heap.size w w' := by
  have h1 := cs_point p F lS _ 3 0 w h (by decide) (by decide) (by decide) (by decide)
  rw [sS_p3] at h1
  exact h1.mono (fun e w' h => ⟨_, h⟩)
theorem st_3 (p : Addr) (F : Nat → Prop) (w : World) (h : ST w p F lS (stsOf lS [(3, 5), (0, -2)])) : Calls Tryz.prog 28 #[.pointer (some p)] w fun e w' => e = .returned (.int .i64 3) ∧ Below w.heap.size w w' := by
  have h1 := cs_total p F lS _ w h
  rw [sS_t] at h1
  exact h1
theorem lit_m2 (X : World) : Rd .i64 (X.alloc (.cells #[.int .i64 (-2), .int .i64 5] 2)) (some ⟨X.heap.size, 0, none⟩) [-2, 5] := by
  have hb := heap_alloc_new X (.cells #[.int .i64 (-2), .int .i64 5] 2)
  exact lit2 (box_cell hb rfl) (box_cell hb rfl)
end Go.Proofs.YtiblpdjehknbcaaGreat.Stk
/- A Play of layer 17, opened. Printed by wip/gen/qnt2.py. -/
namespace Go.Proofs.YtiblpdjehknbcaaGreat.Qnt
open Go Go.RowKit Lw Grd Lin Con Shp Sk Exa Lev Stk
set_option linter.unusedVariables false
set_option linter.unusedSimpArgs false
theorem open_playX_c : Tryz.prog.cellsOf 27 = 6 := by kernel_rfl
set_option maxRecDepth 100000 in
theorem open_playX {H : Type} {enc : TypeId × Value → H} {w : World} {v : Value} {d : DataW H} {p : List MemPlace} {base : Nat} (hv : Value.okWide Tryz.prog w .any base 27 v)
    (h : DataW.Trod enc Tryz.prog w 0 (fun _ => true) true 27 v d p) :
    ∃ (c : Cfg) (A : Option Addr) (n k : Nat) (qs : Ups), v = .agg #[.int .i64 c.bt, .int .i64 c.rw, .int .i64 c.wd, .int .i64 c.md, .int .u64 c.sd, .slice A n k] ∧ c.Ok ∧ UpdV w A n k qs := by
  have hcs : ∃ cs : Array Value, v = .agg cs ∧ cs.size = Tryz.prog.cellsOf 27 := by
    simp only [Value.okWide, Tryz.underlying27] at hv
    obtain ⟨cs, h1, h2, _⟩ := hv
    exact ⟨cs, h1, h2⟩
  obtain ⟨⟨l⟩, rfl, hsz⟩ := hcs
  rw [open_playX_c] at hsz
  obtain ⟨fuel, hf0⟩ := h
  obtain ⟨xs, k, _, _, _, hxl, hf⟩ := DataW.trod_struct Tryz.underlying27 hf0
  match xs, hxl, l, hsz with
  | [y0, y1], _, [v0, v1, v2, v3, v4, v5], _ =>
    have g0 := hf 0 _ rfl
    have g1 := hf 1 _ rfl
    simp [Value.cells, show Tryz.prog.cellsOf 24 = 5 from by kernel_rfl, show Tryz.prog.cellsOf 25 = 1 from by kernel_rfl] at g0 g1
    obtain ⟨zs, k2, _, _, _, hzl, hz⟩ := DataW.trod_struct Tryz.underlying24 g0
    match zs, hzl with
    | [z0, z1, z2, z3, z4], _ =>
      have c0 := hz 0 _ rfl
      have c1 := hz 1 _ rfl
      have c2 := hz 2 _ rfl
      have c3 := hz 3 _ rfl
      have c4 := hz 4 _ rfl
      simp [show Tryz.prog.cellsOf 3 = 1 from by kernel_rfl, show Tryz.prog.cellsOf 22 = 1 from by kernel_rfl] at c0 c1 c2 c3 c4
      obtain ⟨x0, f0, _, w0⟩ := DataW.trod_int (show Tryz.prog.underlying 3 = some (.int .i64) by kernel_rfl) c0
      simp at f0
      subst f0
      obtain ⟨x1, f1, _, w1⟩ := DataW.trod_int (show Tryz.prog.underlying 3 = some (.int .i64) by kernel_rfl) c1
      simp at f1
      subst f1
      obtain ⟨x2, f2, _, w2⟩ := DataW.trod_int (show Tryz.prog.underlying 3 = some (.int .i64) by kernel_rfl) c2
      simp at f2
      subst f2
      obtain ⟨x3, f3, _, w3⟩ := DataW.trod_int (show Tryz.prog.underlying 3 = some (.int .i64) by kernel_rfl) c3
      simp at f3
      subst f3
      obtain ⟨x4, f4, _, w4⟩ := DataW.trod_int (show Tryz.prog.underlying 22 = some (.int .u64) by kernel_rfl) c4
      simp at f4
      subst f4
      obtain ⟨A, n, cp, qs, f6, h0, h1, h2, h3, h4⟩ := open_upds g1
      simp at f6
      subst f6
      have b0 := Lw.wf_i64 w0
      have b1 := Lw.wf_i64 w1
      have b2 := Lw.wf_i64 w2
      have b3 := Lw.wf_i64 w3
      have b4 := Lw.wf_u64 w4
      exact ⟨⟨x0, x1, x2, x3, x4⟩, A, n, cp, qs, rfl, ⟨b0.1, b0.2, b1.1, b1.2, b2.1, b2.2, b3.1, b3.2, b4.1, b4.2⟩, ⟨h0, h1, h2, h3, h4⟩⟩
end Go.Proofs.YtiblpdjehknbcaaGreat.Qnt
/- The small stack that shown of layers 16 and 17 try. Taken out of XSpnShown by wip/gen/qnt3.py lt. -/
namespace Go.Proofs.YtiblpdjehknbcaaGreat.Qnt
open Go Go.RowKit Lw Grd Lin Con Shp Sk Exa Lev Stk Pcs Spn
set_option linter.unusedVariables false
set_option linter.unusedSimpArgs false
def lT : Cfg := ⟨3, 1, 8, 1, 0⟩
theorem lT_ok : lT.Ok := by constructor <;> decide
theorem lT_r : IsRight lT := by decide
theorem lT_k : keys lT 0 = 8 := by decide
theorem lT_in {us : Ups} (h : ∀ u ∈ us, (0 ≤ u.1 ∧ u.1 < 8) ∧ (-1099511627776 ≤ u.2 ∧ u.2 ≤ 1099511627776)) : UpsIn lT 0 us :=
  ⟨fun u hu => ⟨(h u hu).1.1, by rw [lT_k]; exact (h u hu).1.2, (h u hu).2⟩, fun hm => by simp [lT] at hm⟩
theorem sT_1 : sucode lT (stsOf lT []) 1 5 = 0 ∧ sures lT (stsOf lT []) 1 5 = stsOf lT [(1, 5)] :=
  stsOf_step lT_r (lT_in (fun u hu => by simp at hu)) (by decide) (u := (1, 5)) (lT_in (fun u hu => by rw [List.mem_singleton.1 hu]; decide))
theorem sT_2 : sucode lT (stsOf lT [(1, 5)]) 6 7 = 0 ∧ sures lT (stsOf lT [(1, 5)]) 6 7 = stsOf lT [(1, 5), (6, 7)] :=
  stsOf_step lT_r (lT_in (fun u hu => by rw [List.mem_singleton.1 hu]; decide)) (by decide) (u := (6, 7)) (lT_in (fun u hu => by rw [List.mem_singleton.1 hu]; decide))
theorem tn_1 (w : World) : Calls Tryz.prog 9 #[.agg #[.int .i64 3, .int .i64 1, .int .i64 8, .int .i64 1, .int .u64 0]] w fun e w' => ∃ (p : Addr) (F : Nat → Prop), e = .returned (.tuple #[.pointer (some p), .int .i64 0]) ∧ ST w' p F lT (stsOf lT []) ∧ (∀ k, F k → w.heap.size ≤ k) ∧ Below w.heap.size w w' := cs_new lT w lT_ok lT_r
theorem tu_any (p : Addr) (F : Nat → Prop) (sts sts2 : List LS) (k d x : Int) (w : World) (h : ST w p F lT sts) (k0 : 0 ≤ k) (k1 : k ≤ 18446744073709551615) (d0 : -9223372036854775808 ≤ d) (d1 : d ≤ 9223372036854775807) (hu : sucode lT sts k d = x ∧ sures lT sts k d = sts2) :
    Calls Tryz.prog 11 #[.pointer (some p), .int .u64 k, .int .i64 d] w fun e w' => e = .returned (.int .i64 x) ∧ ∃ F', ST w' p F' lT sts2 ∧ Kept F w w' ∧ (∀ q, F' q → F q ∨ w.heap.size ≤ q) := by
  have h1 := cs_upd p F lT sts k d w h k0 k1 d0 d1
  rw [hu.1, hu.2] at h1
  exact h1
end Go.Proofs.YtiblpdjehknbcaaGreat.Qnt
/- shown of layer 17's laws. Printed by wip/gen/qnt3.py. -/
namespace Go.Proofs.YtiblpdjehknbcaaGreat.Qnt
open Go Go.RowKit Lw Grd Lin Con Shp Sk Exa Lev Stk Pcs Spn
set_option linter.unusedVariables false
set_option linter.unusedSimpArgs false
theorem w_5 : wayQ (fun L i => spV lT (stsOf lT [(1, 5), (6, 7)]) (L : Int) i) 3 0 5 = some [(3, 0), (2, 0), (1, 0), (0, 1)] := by decide
theorem w_6 : wayQ (fun L i => spV lT (stsOf lT [(1, 5), (6, 7)]) (L : Int) i) 3 0 6 = some [(3, 0), (2, 1), (1, 3), (0, 6)] := by decide
theorem w_t : spV lT (stsOf lT [(1, 5), (6, 7)]) ((lT.bt.toNat : Nat) : Int) 0 = 12 := by decide
theorem q_5 : qnC lT (fun L i => spV lT (stsOf lT [(1, 5), (6, 7)]) (L : Int) i) 5 = 0 ∧ qnV lT (fun L i => spV lT (stsOf lT [(1, 5), (6, 7)]) (L : Int) i) 5 = 1 := by
  have h := qn_yes (c := lT) (pt := (fun L i => spV lT (stsOf lT [(1, 5), (6, 7)]) (L : Int) i)) (k := 5) (by decide) (by rw [w_t]; decide) w_5
  exact ⟨h.1, h.2.2.trans (by decide)⟩
theorem q_6 : qnC lT (fun L i => spV lT (stsOf lT [(1, 5), (6, 7)]) (L : Int) i) 6 = 0 ∧ qnV lT (fun L i => spV lT (stsOf lT [(1, 5), (6, 7)]) (L : Int) i) 6 = 6 ∧ qnL lT (fun L i => spV lT (stsOf lT [(1, 5), (6, 7)]) (L : Int) i) 6 = [(3, 0), (2, 1), (1, 3), (0, 6)] := by
  have h := qn_yes (c := lT) (pt := (fun L i => spV lT (stsOf lT [(1, 5), (6, 7)]) (L : Int) i)) (k := 6) (by decide) (by rw [w_t]; decide) w_6
  exact ⟨h.1, h.2.2.trans (by decide), h.2.1⟩
theorem q_13 : qnC lT (fun L i => spV lT (stsOf lT [(1, 5), (6, 7)]) (L : Int) i) 13 = 6 ∧ qnV lT (fun L i => spV lT (stsOf lT [(1, 5), (6, 7)]) (L : Int) i) 13 = 0 := by
  have h := qn_rank (c := lT) (pt := (fun L i => spV lT (stsOf lT [(1, 5), (6, 7)]) (L : Int) i)) (k := 13) (.inr (by rw [w_t]; decide))
  exact ⟨h.1, h.2.2⟩
theorem q_0 : qnC lT (fun L i => spV lT (stsOf lT [(1, 5), (6, 7)]) (L : Int) i) 0 = 6 ∧ qnV lT (fun L i => spV lT (stsOf lT [(1, 5), (6, 7)]) (L : Int) i) 0 = 0 := by
  have h := qn_rank (c := lT) (pt := (fun L i => spV lT (stsOf lT [(1, 5), (6, 7)]) (L : Int) i)) (k := 0) (.inl (by decide))
  exact ⟨h.1, h.2.2⟩
theorem tq_any (p : Addr) (F : Nat → Prop) (k v x : Int) (w : World) (h : ST w p F lT (stsOf lT [(1, 5), (6, 7)])) (k0 : -9223372036854775808 ≤ k) (k1 : k ≤ 9223372036854775807) (hv : qnC lT (fun L i => spV lT (stsOf lT [(1, 5), (6, 7)]) (L : Int) i) k = x ∧ qnV lT (fun L i => spV lT (stsOf lT [(1, 5), (6, 7)]) (L : Int) i) k = v) :
    Calls Tryz.prog 13 #[.pointer (some p), .int .i64 k] w fun e w' => e = .returned (.tuple #[.int .u64 v, .int .i64 x]) ∧ Below w.heap.size w w' := by
  have h1 := qn_quant p F lT (stsOf lT [(1, 5), (6, 7)]) k w h k0 k1
  rw [hv.1, hv.2] at h1
  exact h1
theorem tw_6 (p : Addr) (F : Nat → Prop) (w : World) (h : ST w p F lT (stsOf lT [(1, 5), (6, 7)])) :
    Calls Tryz.prog 15 #[.pointer (some p), .int .i64 6] w fun e w' => ∃ (A : Option Addr) (cap : Nat), e = .returned (.tuple #[.slice A 4 cap, .int .i64 0]) ∧ PcV w' A 4 cap [((3 : Int), (0 : Int)), (2, 1), (1, 3), (0, 6)] ∧ Below w.heap.size w w' := by
  refine (qn_way p F lT (stsOf lT [(1, 5), (6, 7)]) 6 w h (by decide) (by decide)).mono ?_
  rintro e w' ⟨A, n, cap, rfl, h1, h2, hb⟩
  rw [q_6.2.2] at h1
  rw [q_6.1]
  obtain rfl : n = 4 := (pcI h1).len.symm
  exact ⟨A, cap, rfl, pcI h1, hb⟩
theorem lit6 (X : World) : PcV (X.alloc (.cells #[.int .i64 3, .int .u64 0, .int .i64 2, .int .u64 1, .int .i64 1, .int .u64 3, .int .i64 0, .int .u64 6] 61)) (some ⟨X.heap.size, 0, none⟩) 4 4 [((3 : Int), (0 : Int)), (2, 1), (1, 3), (0, 6)] := by
  have hb := heap_alloc_new X (.cells #[.int .i64 3, .int .u64 0, .int .i64 2, .int .u64 1, .int .i64 1, .int .u64 3, .int .i64 0, .int .u64 6] 61)
  have c : ∀ (i : Nat) (v : Value), (#[.int .i64 3, .int .u64 0, .int .i64 2, .int .u64 1, .int .i64 1, .int .u64 3, .int .i64 0, .int .u64 6] : Array Value)[i]? = some v → (X.alloc (.cells #[.int .i64 3, .int .u64 0, .int .i64 2, .int .u64 1, .int .i64 1, .int .u64 3, .int .i64 0, .int .u64 6] 61)).cell? ((⟨X.heap.size, 0, none⟩ : Addr).add i) = some v := fun i v hv => by
    rw [Ord.add_at, Nat.zero_add]
    exact box_cell hb hv
  refine ⟨fun h => by (cases h), Nat.le_refl _, by decide, rfl, fun i q hq => ?_⟩
  match i, hq with
  | 0, hq => cases hq; exact ⟨_, rfl, c 0 _ rfl, c 1 _ rfl, by decide, by decide⟩
  | 1, hq => cases hq; exact ⟨_, rfl, c 2 _ rfl, c 3 _ rfl, by decide, by decide⟩
  | 2, hq => cases hq; exact ⟨_, rfl, c 4 _ rfl, c 5 _ rfl, by decide, by decide⟩
  | 3, hq => cases hq; exact ⟨_, rfl, c 6 _ rfl, c 7 _ rfl, by decide, by decide⟩
set_option maxRecDepth 100000 in
set_option maxHeartbeats 8000000 in
theorem shown_any (w : World) : Calls Tryz.prog 7 #[] w fun e w' => e = .returned (.bool true) ∧ Below w.heap.size w w' := by
  have HV0 : Hid (Have w w []) := Lib.hid (Below.refl _ _)
  have eq4 : decide ([((3 : Int), (0 : Int)), (2, 1), (1, 3), (0, 6)] = [((3 : Int), (0 : Int)), (2, 1), (1, 3), (0, 6)]) = true := decide_eq_true rfl
  go_enter Tryz.func7, Tryz.ntmps7
  go_wp2_with (first
    | (go_at_call 17; (with_reducible refine (psame_any _ _ _ _ _ _ [((3 : Int), (0 : Int)), (2, 1), (1, 3), (0, 6)] [((3 : Int), (0 : Int)), (2, 1), (1, 3), (0, 6)] _ (RD.out.up (by repeat' (first | (with_reducible exact Below.refl _ _) | (with_reducible assumption) | (with_reducible refine below_over ?_ _ _) | (with_reducible refine Lw.below_alloc ?_ _) | (with_reducible refine Below.drew ?_) | (with_reducible refine below_drewN ?_ _) | (with_reducible refine Below.setCell ?_ ?_ _) | go_size))) (lit6 _)).mono ?_); rintro e w9 ⟨rfl, hb⟩; have HV9 := Lib.hid ((HV8.out.up (by repeat' (first | (with_reducible exact Below.refl _ _) | (with_reducible assumption) | (with_reducible refine below_over ?_ _ _) | (with_reducible refine Lw.below_alloc ?_ _) | (with_reducible refine Below.drew ?_) | (with_reducible refine below_drewN ?_ _) | (with_reducible refine Below.setCell ?_ ?_ _) | go_size))).up hb); clear hb)
    | (go_at_call 15; (with_reducible refine (tw_6 p F2 _ (stI HV7.out.i0)).mono ?_); rintro e w8 ⟨A, cap, rfl, hr, hb⟩; have RD := Lib.hid hr; have HV8 := Lib.hid (HV7.out.up hb); clear hb hr)
    | (go_at_call 13; (with_reducible refine (tq_any p F2 _ _ _ _ (stI HV6.out.i0) (by decide) (by decide) q_0).mono ?_); rintro e w7 ⟨rfl, hb⟩; have HV7 := Lib.hid (HV6.out.up hb); clear hb)
    | (go_at_call 13; (with_reducible refine (tq_any p F2 _ _ _ _ (stI HV5.out.i0) (by decide) (by decide) q_13).mono ?_); rintro e w6 ⟨rfl, hb⟩; have HV6 := Lib.hid (HV5.out.up hb); clear hb)
    | (go_at_call 13; (with_reducible refine (tq_any p F2 _ _ _ _ (stI HV4.out.i0) (by decide) (by decide) ⟨q_6.1, q_6.2.1⟩).mono ?_); rintro e w5 ⟨rfl, hb⟩; have HV5 := Lib.hid (HV4.out.up hb); clear hb)
    | (go_at_call 13; (with_reducible refine (tq_any p F2 _ _ _ _ (stI HV3.out.i0) (by decide) (by decide) q_5).mono ?_); rintro e w4 ⟨rfl, hb⟩; have HV4 := Lib.hid (HV3.out.up hb); clear hb)
    | (go_at_call 11; (with_reducible refine (tu_any p F1 _ _ _ _ _ _ (stI HV2.out.i0) (by decide) (by decide) (by decide) (by decide) sT_2).mono ?_); rintro e w3 ⟨rfl, F2, h1, h2, h3⟩; have HV3 := Lib.hid (HV2.out.turn_0 (stT p F2 lT (stsOf lT [(1, 5), (6, 7)])) h1 h2 h3); clear h1 h2 h3)
    | (go_at_call 11; (with_reducible refine (tu_any p F _ _ _ _ _ _ (stI HV1.out.i0) (by decide) (by decide) (by decide) (by decide) sT_1).mono ?_); rintro e w2 ⟨rfl, F1, h1, h2, h3⟩; have HV2 := Lib.hid (HV1.out.turn_0 (stT p F1 lT (stsOf lT [(1, 5)])) h1 h2 h3); clear h1 h2 h3)
    | (go_at_call 9; (with_reducible refine (tn_1 _).mono ?_); rintro e w1 ⟨p, F, rfl, h1, h2, hb⟩; have HV1 := Lib.hid (HV0.out.push (stT p F lT (stsOf lT [])) hb h1 h2); clear h1 h2 hb))
  go_ret
  exact ⟨ret_bs (by first | rfl | (simp [*]; done)), HV9.out.below⟩
end Go.Proofs.YtiblpdjehknbcaaGreat.Qnt
