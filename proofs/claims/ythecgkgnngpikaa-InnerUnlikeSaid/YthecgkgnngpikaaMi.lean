/- Texts that the statements of this seat lean on, put together: InnRef, InnShr, InnFed. -/
import Derived.Test.YthecgkgnngpikaaMa
import Derived.Test.YthecgkgnngpikaaMb
import Derived.Test.YthecgkgnngpikaaMc
import Derived.Test.YthecgkgnngpikaaMg
import Derived.Test.YthecgkgnngpikaaMh
import Derived.Deep.RegionWith
import Derived.Deep.DeepCutAuto
import Derived.Deep.CutRange
import Derived.Deep.LoopGhost
import Derived.Deep.RegionHeld3
import Derived.Deep.QuietTactic
import Derived.BigQuiet
/- The walk of the document's sums of products: gaugerref11.Dot. Printed by wip/gen/inn.py. -/
namespace Go.Proofs.Ythecgkgnngpikaa.Inn
open Go Go.RowKit Lw
set_option linter.unusedVariables false
set_option linter.unusedSimpArgs false
theorem rdot_ne (A B : Option Addr) (n m ca cb : Nat) (xs ys : List Int) (w : World) (hlx : xs.length = n) (hly : ys.length = m) (hne : n ≠ m) :
    Calls Try.prog 12 #[.slice A n ca, .slice B m cb] w fun e w' => e = .returned (.tuple #[.agg #[.int .i64 (dhi xs ys), .int .u64 (dlo xs ys)], .bool (dok xs ys)]) ∧ Below w.heap.size w w' := by
  have h := dok_ne (xs := xs) (ys := ys) (by omega)
  have hb : ((n : Int) != (m : Int)) = true := by simp; omega
  rw [h.1, h.2.1, h.2.2]
  clear h
  go_enter Try.func12, Try.ntmps12
  go_wp2
  go_returns
  exact ⟨rfl, by (repeat' (first | (with_reducible exact Below.refl _ _) | (with_reducible assumption) | (with_reducible refine below_over ?_ _ _) | (with_reducible refine Lw.below_alloc ?_ _) | (with_reducible refine Below.drew ?_) | (with_reducible refine below_drewN ?_ _) | (with_reducible refine Below.setCell ?_ ?_ _) | go_size))⟩
theorem long_info : (Try.prog.info? 58).map (·.size) = some 10 := by kernel_rfl
set_option maxRecDepth 100000 in
set_option maxHeartbeats 8000000 in
theorem rdot_eq (A B : Option Addr) (n ca cb : Nat) (xs ys : List Int) (w : World) (hx : Rd .i64 w A xs) (hy : Rd .i64 w B ys) (hlx : xs.length = n) (hly : ys.length = n) (hn : n ≤ 1000) (hzx : In64 xs) (hzy : In64 ys) :
    Calls Try.prog 12 #[.slice A n ca, .slice B n cb] w fun e w' => e = .returned (.tuple #[.agg #[.int .i64 (dhi xs ys), .int .u64 (dlo xs ys)], .bool (dok xs ys)]) ∧ Below w.heap.size w w' := by
  have HX := Lib.hid hx
  have HY := Lib.hid hy
  have HLX := Lib.hid hlx
  have HLY := Lib.hid hly
  have HZX := Lib.hid hzx
  have HZY := Lib.hid hzy
  clear hx hy hlx hly hzx hzy
  go_enter Try.func12, Try.ntmps12
  go_wp2
  go_loopw [7] (fun i wr => ∃ k : Nat, k ≤ n ∧ i = .int .i64 k ∧ Below w.heap.size w wr ∧ (∀ j, j ≤ k → Wid.fit (dp xs ys j) = true) ∧ wr.cell? ⟨w.heap.size, 0, none⟩ = some (.int .i64 0) ∧ wr.cell? ⟨w.heap.size, 1, none⟩ = some (.int .u64 0) ∧ wr.frozen? ⟨w.heap.size, 0, none⟩ = false ∧ wr.frozen? ⟨w.heap.size, 1, none⟩ = false ∧ Wid.LBlk wr (w.heap.size + 1) (dp xs ys k)) (fun i _ => n - (intOf i).toNat)
  case atStart =>
    refine ⟨0, Nat.zero_le _, rfl, by (repeat' (first | (with_reducible exact Below.refl _ _) | (with_reducible assumption) | (with_reducible refine below_over ?_ _ _) | (with_reducible refine Lw.below_alloc ?_ _) | (with_reducible refine Below.drew ?_) | (with_reducible refine below_drewN ?_ _) | (with_reducible refine Below.setCell ?_ ?_ _) | go_size)), ?_, ?_, ?_, ?_, ?_, ?_⟩
    · intro j hj
      obtain rfl : j = 0 := by omega
      rw [dp_0]
      decide
    all_goals (try rw [dp_0])
    all_goals first
      | (simp [go_sem]; done)
      | (have h := heap_alloc_new (w.alloc (.cells #[.int .i64 0, .int .u64 0] 26)) (.cells #[.int .i64 0, .int .i64 0, .int .i64 0, .int .i64 0, .int .i64 0, .int .i64 0, .int .i64 0, .int .i64 0, .int .i64 0, .int .i64 0] 58); rw [World.size_alloc] at h; simpa [Wid.LBlk, Wid.dcells, Wid.dg] using h)
  case round =>
    obtain ⟨k, hk, rfl, hbel, hfit, r0, r1, q0, q1, hblk⟩ := hrel
    have hfk := hfit k (Nat.le_refl _)
    obtain ⟨s, hs⟩ : ∃ s, dp xs ys k = s := ⟨_, rfl⟩
    rw [hs] at hblk hfk
    have hsb := fit_bd hfk
    have HF := Lib.hid hfit
    have hz1 := Lw.cell_lt r0
    have hzlt := Wid.blk_lt hblk
    simp only at hz1
    have lz1 : ∀ x : Nat, w.heap.size < wr.heap.size + x := fun x => by omega
    have HBK := Lib.hid hblk
    have hR : wr.rangeAt (w.heap.size + 1) 0 [.int .i64 (Wid.dg s 0), .int .i64 (Wid.dg s 1), .int .i64 (Wid.dg s 2), .int .i64 (Wid.dg s 3), .int .i64 (Wid.dg s 4), .int .i64 (Wid.dg s 5), .int .i64 (Wid.dg s 6), .int .i64 (Wid.dg s 7), .int .i64 (Wid.dg s 8), .int .i64 (Wid.dg s 9)] := box_range (e := 58) (vs := [.int .i64 (Wid.dg s 0), .int .i64 (Wid.dg s 1), .int .i64 (Wid.dg s 2), .int .i64 (Wid.dg s 3), .int .i64 (Wid.dg s 4), .int .i64 (Wid.dg s 5), .int .i64 (Wid.dg s 6), .int .i64 (Wid.dg s 7), .int .i64 (Wid.dg s 8), .int .i64 (Wid.dg s 9)]) hblk
    have f0 := Wid.blk_frozen hblk 0
    have k0 : wr.cell? ⟨w.heap.size + 1, 0, none⟩ = some (.int .i64 (Wid.dg s 0)) := cell_of_row _ _ _ _ _ _ hblk
    have f1 := Wid.blk_frozen hblk 1
    have k1 : wr.cell? ⟨w.heap.size + 1, 1, none⟩ = some (.int .i64 (Wid.dg s 1)) := cell_of_row _ _ _ _ _ _ hblk
    have f2 := Wid.blk_frozen hblk 2
    have k2 : wr.cell? ⟨w.heap.size + 1, 2, none⟩ = some (.int .i64 (Wid.dg s 2)) := cell_of_row _ _ _ _ _ _ hblk
    have f3 := Wid.blk_frozen hblk 3
    have k3 : wr.cell? ⟨w.heap.size + 1, 3, none⟩ = some (.int .i64 (Wid.dg s 3)) := cell_of_row _ _ _ _ _ _ hblk
    have f4 := Wid.blk_frozen hblk 4
    have k4 : wr.cell? ⟨w.heap.size + 1, 4, none⟩ = some (.int .i64 (Wid.dg s 4)) := cell_of_row _ _ _ _ _ _ hblk
    have f5 := Wid.blk_frozen hblk 5
    have k5 : wr.cell? ⟨w.heap.size + 1, 5, none⟩ = some (.int .i64 (Wid.dg s 5)) := cell_of_row _ _ _ _ _ _ hblk
    have f6 := Wid.blk_frozen hblk 6
    have k6 : wr.cell? ⟨w.heap.size + 1, 6, none⟩ = some (.int .i64 (Wid.dg s 6)) := cell_of_row _ _ _ _ _ _ hblk
    have f7 := Wid.blk_frozen hblk 7
    have k7 : wr.cell? ⟨w.heap.size + 1, 7, none⟩ = some (.int .i64 (Wid.dg s 7)) := cell_of_row _ _ _ _ _ _ hblk
    have f8 := Wid.blk_frozen hblk 8
    have k8 : wr.cell? ⟨w.heap.size + 1, 8, none⟩ = some (.int .i64 (Wid.dg s 8)) := cell_of_row _ _ _ _ _ _ hblk
    have f9 := Wid.blk_frozen hblk 9
    have k9 : wr.cell? ⟨w.heap.size + 1, 9, none⟩ = some (.int .i64 (Wid.dg s 9)) := cell_of_row _ _ _ _ _ _ hblk
    clear hblk
    by_cases hlt : k < n
    · skip
      have hk1 : k < xs.length := by have := HLX.out; omega
      have hk2 : k < ys.length := by have := HLY.out; omega
      obtain ⟨x, hvx⟩ : ∃ x, xs[k]? = some x := ⟨_, List.getElem?_eq_getElem hk1⟩
      obtain ⟨y, hvy⟩ : ∃ y, ys[k]? = some y := ⟨_, List.getElem?_eq_getElem hk2⟩
      have hbx := HZX.out.at hvx
      have hby := HZY.out.at hvy
      have hnext := dp_next hvx hvy
      obtain ⟨ad, rfl, hcx⟩ := HX.out k x hvx
      obtain ⟨bd, rfl, hcy⟩ := HY.out k y hvy
      have cx : wr.cell? (ad.add k) = some (.int .i64 x) := by rw [hbel.cell (Lw.cell_lt hcx)]; exact hcx
      have cy : wr.cell? (bd.add k) = some (.int .i64 y) := by rw [hbel.cell (Lw.cell_lt hcy)]; exact hcy
      have hpb := prod_bd hbx hby
      rw [hs] at hnext
      obtain ⟨p, hp⟩ : ∃ p, x * y = p := ⟨_, rfl⟩
      rw [hp] at hnext hpb
      obtain ⟨z, hz⟩ : ∃ z, s + p = z := ⟨_, rfl⟩
      have hzb : -730750818665451459101842416358141509827966271488 ≤ z ∧ z < 730750818665451459101842416358141509827966271488 := by omega
      rw [hz] at hnext
      have HN := Lib.hid hnext
      have CX := Lib.hid (fun w => Wid.rofint_any x w hbx.1 hbx.2)
      have CY := Lib.hid (fun w => Wid.rofint_any y w hby.1 hby.2)
      have CM := Lib.hid (fun w => Wid.rmul_any x y _ _ _ _ _ _ _ _ _ _ _ _ _ _ _ _ _ _ _ _ w rfl rfl)
      have CP := Lib.hid (fun w => Wid.rplus_any s p _ _ _ _ _ _ _ _ _ _ _ _ _ _ _ _ _ _ _ _ w rfl rfl)
      have CW := Lib.hid (fun w => Wid.rwide_any z _ _ _ _ _ _ _ _ _ _ w rfl hzb.1 hzb.2)
      rw [hp] at CM
      rw [hz] at CP
      obtain ⟨fhz, hfhz⟩ : ∃ v, Wid.fh z = v := ⟨_, rfl⟩
      obtain ⟨flz, hflz⟩ : ∃ v, Wid.fl z = v := ⟨_, rfl⟩
      obtain ⟨b, hb⟩ : ∃ v, Wid.fit z = v := ⟨_, rfl⟩
      rw [hfhz, hflz, hb] at CW
      have HB := Lib.hid hb
      have HNO : Hid (Wid.fit z = false → dok xs ys = false ∧ dhi xs ys = 0 ∧ dlo xs ys = 0) := Lib.hid (fun hb2 => dok_no (xs := xs) (ys := ys) (k := k + 1) hk1 (by rw [HN.out, hb2]))
      clear hfhz hflz hb hz hzb hnext hp hpb hbx hby hvx hvy hk1 hk2 hfit hfk hsb hs hcx hcy
      have gx : ∀ bs d, (grow wr bs d).cell? (ad.add k) = some (.int .i64 x) := fun bs d => cell_up cx (grow_below wr bs d)
      have gy : ∀ bs d, (grow wr bs d).cell? (bd.add k) = some (.int .i64 y) := fun bs d => cell_up cy (grow_below wr bs d)
      go_upto_region 7 with fail
      go_cut [34] from 16 to 42 (fun s34 wx => Below w.heap.size w wx ∧ wx.cell? ⟨w.heap.size, 0, none⟩ = some (.int .i64 0) ∧ wx.cell? ⟨w.heap.size, 1, none⟩ = some (.int .u64 0) ∧ wx.frozen? ⟨w.heap.size, 0, none⟩ = false ∧ wx.frozen? ⟨w.heap.size, 1, none⟩ = false ∧ Wid.LBlk wx (w.heap.size + 1) z)
      case first =>
        clear CW HF HN HB
        go_region_with (first
          | (go_at_call_of 37 (Value.int .i64 x); (with_reducible refine (CX.out _).mono ?_); rintro e w' ⟨rfl, hb⟩; obtain ⟨bs, d, rfl⟩ := below_grow hb; clear hb)
          | (go_at_call_of 37 (Value.int .i64 y); (with_reducible refine (CY.out _).mono ?_); rintro e w' ⟨rfl, hb⟩; obtain ⟨bs2, d2, rfl⟩ := below_grow hb; clear hb)
          | (go_at_call 36; (with_reducible refine (CM.out _).mono ?_); rintro e w' ⟨rfl, hb⟩; obtain ⟨bs3, d3, rfl⟩ := below_grow hb; clear hb)
          | (go_at_call 35; (with_reducible refine (CP.out _).mono ?_); rintro e w' ⟨rfl, hb⟩; obtain ⟨bs4, d4, rfl⟩ := below_grow hb; clear hb))
        all_goals go_wp2_with fail
        all_goals go_meet
        all_goals refine ⟨by (repeat' (first | (with_reducible exact Below.refl _ _) | (with_reducible assumption) | (with_reducible refine below_over ?_ _ _) | (with_reducible refine Lw.below_alloc ?_ _) | (with_reducible refine Below.drew ?_) | (with_reducible refine below_drewN ?_ _) | (with_reducible refine Below.setCell ?_ ?_ _) | go_size)), by simp [go_sem, r0, hz1, lz1], by simp [go_sem, r1, hz1, lz1], by simp [go_sem, q0, hz1, lz1], by simp [go_sem, q1, hz1, lz1], ?_⟩
        all_goals exact Wid.blk_grow (Wid.LBlk.set HBK.out z) _ _
      case rest =>
        obtain ⟨hbel2, g0, g1, h0, h1, hblk2⟩ := hcut
        clear k0 k1 k2 k3 k4 k5 k6 k7 k8 k9 f0 f1 f2 f3 f4 f5 f6 f7 f8 f9 r0 r1 q0 q1 gx gy cx cy hR HBK CX CY CM CP hzlt hz1 lz1 hbel
        have hz1 := Lw.cell_lt g0
        have hzlt := Wid.blk_lt hblk2
        simp only at hz1
        have HBK := Lib.hid hblk2
        have k0 : wc.cell? ⟨w.heap.size + 1, 0, none⟩ = some (.int .i64 (Wid.dg z 0)) := cell_of_row _ _ _ _ _ _ hblk2
        have k1 : wc.cell? ⟨w.heap.size + 1, 1, none⟩ = some (.int .i64 (Wid.dg z 1)) := cell_of_row _ _ _ _ _ _ hblk2
        have k2 : wc.cell? ⟨w.heap.size + 1, 2, none⟩ = some (.int .i64 (Wid.dg z 2)) := cell_of_row _ _ _ _ _ _ hblk2
        have k3 : wc.cell? ⟨w.heap.size + 1, 3, none⟩ = some (.int .i64 (Wid.dg z 3)) := cell_of_row _ _ _ _ _ _ hblk2
        have k4 : wc.cell? ⟨w.heap.size + 1, 4, none⟩ = some (.int .i64 (Wid.dg z 4)) := cell_of_row _ _ _ _ _ _ hblk2
        have k5 : wc.cell? ⟨w.heap.size + 1, 5, none⟩ = some (.int .i64 (Wid.dg z 5)) := cell_of_row _ _ _ _ _ _ hblk2
        have k6 : wc.cell? ⟨w.heap.size + 1, 6, none⟩ = some (.int .i64 (Wid.dg z 6)) := cell_of_row _ _ _ _ _ _ hblk2
        have k7 : wc.cell? ⟨w.heap.size + 1, 7, none⟩ = some (.int .i64 (Wid.dg z 7)) := cell_of_row _ _ _ _ _ _ hblk2
        have k8 : wc.cell? ⟨w.heap.size + 1, 8, none⟩ = some (.int .i64 (Wid.dg z 8)) := cell_of_row _ _ _ _ _ _ hblk2
        have k9 : wc.cell? ⟨w.heap.size + 1, 9, none⟩ = some (.int .i64 (Wid.dg z 9)) := cell_of_row _ _ _ _ _ _ hblk2
        clear hblk2
        have lz1 : ∀ x : Nat, w.heap.size < wc.heap.size + x := fun x => by omega
        cases b with
        | true =>
          go_wp2_with (go_at_call 38; (with_reducible refine (CW.out _).mono ?_); rintro e w' ⟨rfl, hb⟩; obtain ⟨bs, d, rfl⟩ := below_grow hb; clear hb)
          go_roundw
          case rel =>
            refine ⟨k + 1, by omega, by go_num, by (repeat' (first | (with_reducible exact Below.refl _ _) | (with_reducible assumption) | (with_reducible refine below_over ?_ _ _) | (with_reducible refine Lw.below_alloc ?_ _) | (with_reducible refine Below.drew ?_) | (with_reducible refine below_drewN ?_ _) | (with_reducible refine Below.setCell ?_ ?_ _) | go_size)), ?_, by simp [go_sem, g0, hz1, lz1], by simp [go_sem, g1, hz1, lz1], by simp [go_sem, h0, hz1, lz1], by simp [go_sem, h1, hz1, lz1], ?_⟩
            · intro j hj
              rcases Nat.lt_or_ge k j with h1 | h1
              · obtain rfl : j = k + 1 := by omega
                rw [HN.out]
                exact HB.out
              · exact HF.out j h1
            · rw [HN.out]
              exact Kept.heap (F := fun _ => False) (Kept.of_below (by (repeat' (first | (with_reducible exact Below.refl _ _) | (with_reducible assumption) | (with_reducible refine below_over ?_ _ _) | (with_reducible refine Lw.below_alloc ?_ _) | (with_reducible refine Below.drew ?_) | (with_reducible refine below_drewN ?_ _) | (with_reducible refine Below.setCell ?_ ?_ _) | go_size)))) HBK.out (fun h => h)
          case measure => simp [intOf]; omega
        | false =>
          have HN2 := Lib.hid (HNO.out HB.out)
          clear HNO
          go_wp2_with (go_at_call 38; (with_reducible refine (CW.out _).mono ?_); rintro e w' ⟨rfl, hb⟩; obtain ⟨bs, d, rfl⟩ := below_grow hb; clear hb)
          refine bodyPost_ret (v := .tuple #[.agg #[.int .i64 0, .int .u64 0], .bool false]) (by simp [results, Try.results12, go_sem, g0, g1, h0, h1, lz1, hz1]) rfl ?_
          exact ⟨by rw [HN2.out.1, HN2.out.2.1, HN2.out.2.2], by (repeat' (first | (with_reducible exact Below.refl _ _) | (with_reducible assumption) | (with_reducible refine below_over ?_ _ _) | (with_reducible refine Lw.below_alloc ?_ _) | (with_reducible refine Below.drew ?_) | (with_reducible refine below_drewN ?_ _) | (with_reducible refine Below.setCell ?_ ?_ _) | go_size))⟩
    · have e : k = n := by omega
      subst e
      have h1 := dok_yes (xs := xs) (ys := ys) (by rw [HLX.out, HLY.out]) (by rw [HLX.out]; exact hfit)
      rw [← dp_all (xs := xs) (ys := ys) (k := k) (by rw [HLX.out]; omega) (by rw [HLY.out]; omega), hs] at h1
      have CW := Lib.hid (fun w => Wid.rwide_any s _ _ _ _ _ _ _ _ _ _ w rfl (by omega) (by omega))
      rw [hfk] at CW
      obtain ⟨fhs, hfhs⟩ : ∃ v, Wid.fh s = v := ⟨_, rfl⟩
      obtain ⟨fls, hfls⟩ : ∃ v, Wid.fl s = v := ⟨_, rfl⟩
      rw [hfhs, hfls] at h1 CW
      have H1 := Lib.hid h1
      clear h1 hfhs hfls hsb hs hfk hfit hR f0 f1 f2 f3 f4 f5 f6 f7 f8 f9
      go_wp2_with (go_at_call 38; (with_reducible refine (CW.out _).mono ?_); rintro e w' ⟨rfl, hb⟩; obtain ⟨bs, d, rfl⟩ := below_grow hb; clear hb)
      refine bodyPost_ret (v := .tuple #[.agg #[.int .i64 fhs, .int .u64 fls], .bool true]) (by simp [results, Try.results12, go_sem, r0, r1, q0, q1, lz1, hz1]) rfl ?_
      exact ⟨by rw [H1.out.1, H1.out.2.1, H1.out.2.2], by (repeat' (first | (with_reducible exact Below.refl _ _) | (with_reducible assumption) | (with_reducible refine below_over ?_ _ _) | (with_reducible refine Lw.below_alloc ?_ _) | (with_reducible refine Below.drew ?_) | (with_reducible refine below_drewN ?_ _) | (with_reducible refine Below.setCell ?_ ?_ _) | go_size))⟩
theorem rdot_any (A B : Option Addr) (n m ca cb : Nat) (xs ys : List Int) (w : World) (hx : Rd .i64 w A xs) (hy : Rd .i64 w B ys) (hlx : xs.length = n) (hly : ys.length = m) (hn : n ≤ 1000) (hzx : In64 xs) (hzy : In64 ys) :
    Calls Try.prog 12 #[.slice A n ca, .slice B m cb] w fun e w' => e = .returned (.tuple #[.agg #[.int .i64 (dhi xs ys), .int .u64 (dlo xs ys)], .bool (dok xs ys)]) ∧ Below w.heap.size w w' := by
  by_cases h : n = m
  · subst h
    exact rdot_eq A B n ca cb xs ys w hx hy hlx hly hn hzx hzy
  · exact rdot_ne A B n m ca cb xs ys w hlx hly h
end Go.Proofs.Ythecgkgnngpikaa.Inn
/- What several laws of layer 11 share. Printed by wip/gen/innlaws.py. -/
namespace Go.Proofs.Ythecgkgnngpikaa.Inn
open Go Go.RowKit Lw Grd Lin Con Shp Sk
set_option linter.unusedVariables false
set_option linter.unusedSimpArgs false
theorem lst_int64_c : Try.prog.cellsOf 2 = 1 := by kernel_rfl
set_option maxRecDepth 100000 in
theorem open_list_int64 {H : Type} {enc : TypeId × Value → H} {W : World} {v : Value} {d : DataW H} {p : List MemPlace} {base : Nat} (hv : Value.okWide Try.prog W .any base 22 v)
    (h : DataW.Trod enc Try.prog W 0 (fun _ => true) true 22 v d p) :
    ∃ (A : Option Addr) (n cap : Nat) (zs : List Int), v = .slice A n cap ∧ (A = none → n = 0 ∧ cap = 0) ∧ n ≤ cap ∧ cap ≤ maxLen ∧ Rd .i64 W A zs ∧ zs.length = n ∧ (∀ v ∈ zs, -9223372036854775808 ≤ v ∧ v ≤ 9223372036854775807) := by
  obtain ⟨a0, len, cap, rfl⟩ := Go.WideShapes.okWide_slice Try.underlying22 hv
  obtain ⟨fuel, hf⟩ := h
  rcases Go.ChangeShapes.open_ints Try.underlying22 Try.underlying2 lst_int64_c hf with ⟨hcs, _⟩ | ⟨a, len', cap', zs, hcs, _, hl, hm, hz, _, hcell, hwz⟩
  · simp [Value.cells] at hcs
    obtain ⟨rfl, rfl, rfl⟩ := hcs
    exact ⟨none, 0, 0, [], rfl, fun _ => ⟨rfl, rfl⟩, Nat.le_refl _, by simp, rd_nil _ _ _, rfl, fun v h => by simp at h⟩
  · simp [Value.cells] at hcs
    obtain ⟨rfl, rfl, rfl⟩ := hcs
    have hz2 : zs.length = cap := by simpa using hz
    refine ⟨some a, len, cap, zs.take len, rfl, (fun h => by cases h), hl, hm, ?_, by simp; omega, ?_⟩
    · intro k v hk
      rw [List.getElem?_take] at hk
      split at hk
      · refine ⟨a, rfl, ?_⟩
        rw [hcell k (by omega)]
        simp [hk]
      · cases hk
    · intro v hv
      exact Lw.wf_i64 (hwz v (List.mem_of_mem_take hv))
theorem i64_info : (Try.prog.info? 2).map (fun i => (i.zero, i.size, i.bytes)) = some (some (.int .i64 0), 1, 8) := by kernel_rfl
theorem i64s_u : Try.prog.underlying 22 = some (.slice 2) := by kernel_rfl
theorem arr2_int_u : Try.prog.underlying 61 = some (.array 2 3) := by kernel_rfl
theorem arr2_int_c : Try.prog.cellsOf 61 = 2 := by kernel_rfl
theorem arr2_int_e : Try.prog.cellsOf 3 = 1 := by kernel_rfl
theorem arr2_int_k : Try.prog.underlying 3 = some (.int .i64) := by kernel_rfl
theorem arr2_int_l {α : Type} (T : Array α) (h : T.size = 2) : ∃ x0 x1 : α, T = #[x0, x1] := by
  obtain ⟨l⟩ := T
  match l, h with
  | [x0, x1], _ => exact ⟨x0, x1, rfl⟩
set_option maxRecDepth 100000 in
theorem open_arr2_int {H : Type} {enc : TypeId × Value → H} {W : World} {v : Value} {d : DataW H} {p : List MemPlace} {base : Nat} (hv : Value.okWide Try.prog W .any base 61 v)
    (h : DataW.Trod enc Try.prog W 0 (fun _ => true) true 61 v d p) :
    ∃ x0 x1 : Int, v = .agg #[.int .i64 x0, .int .i64 x1] ∧ (-9223372036854775808 ≤ x0 ∧ x0 ≤ 9223372036854775807) ∧ (-9223372036854775808 ≤ x1 ∧ x1 ≤ 9223372036854775807) := by
  have hcs : ∃ cs : Array Value, v = .agg cs ∧ cs.size = Try.prog.cellsOf 61 := by
    simp only [Value.okWide, arr2_int_u] at hv
    obtain ⟨cs, h1, h2, _⟩ := hv
    exact ⟨cs, h1, h2⟩
  obtain ⟨cs, rfl, hsz⟩ := hcs
  obtain ⟨c0, c1, rfl⟩ := arr2_int_l _ (hsz.trans arr2_int_c)
  obtain ⟨fuel, hf⟩ := h
  obtain ⟨xs, m, _, _, _, hlen, hg⟩ := DataW.trod_array arr2_int_u hf
  have g0 := hg 0 (by omega)
  have g1 := hg 1 (by omega)
  rw [arr2_int_e] at g0 g1
  match xs, hlen with
  | [y0, y1], _ =>
    simp [Value.cells] at g0 g1
    obtain ⟨x0, e0, _, w0⟩ := DataW.trod_int arr2_int_k g0
    obtain ⟨x1, e1, _, w1⟩ := DataW.trod_int arr2_int_k g1
    simp at e0 e1
    subst e0 e1
    exact ⟨x0, x1, rfl, Lw.wf_i64 w0, Lw.wf_i64 w1⟩
theorem three_boxs (w : World) (e1 e2 e3 : TypeId) (v1 v2 v3 : Array Value) : Have w (((w.alloc (.cells v1 e1)).alloc (.cells v2 e2)).alloc (.cells v3 e3)) [boxT (w.heap.size + 1 + 1) e3 v3, boxT (w.heap.size + 1) e2 v2, boxT w.heap.size e1 v1] := by
  refine (two_boxs w e1 e2 v1 v2).push (boxT (w.heap.size + 1 + 1) e3 v3) (Lw.below_alloc (Below.refl _ _) _) ?_ (fun k hk => ?_)
  · have h := heap_alloc_new ((w.alloc (.cells v1 e1)).alloc (.cells v2 e2)) (.cells v3 e3)
    rw [World.size_alloc, World.size_alloc] at h
    exact h
  · rw [World.size_alloc, World.size_alloc]
    exact Nat.le_of_eq hk.symm
theorem dsum_zero (n : Nat) : ∀ xs : List Int, dsum xs (List.replicate n 0) = 0 := by
  induction n with
  | zero => intro xs; rw [List.replicate_zero, dsum_r]
  | succ n ih =>
    intro xs
    match xs with
    | [] => rw [dsum_l]
    | x :: xs => rw [List.replicate_succ]; simp only [dsum, ih xs]; omega
theorem dok_zero {xs : List Int} {n : Nat} (h : xs.length = n) : dok xs (List.replicate n 0) = true := by
  refine (dok_yes (by simp [h]) fun k hk => ?_).1
  unfold dp
  rw [List.take_replicate, dsum_zero]
  decide
theorem zeros_get {m n k : Nat} {r : List Int} (h : (zerosL m n)[k]? = some r) : r = List.replicate n 0 := by
  have := List.mem_of_getElem? h
  unfold zerosL at this
  exact (List.mem_replicate.1 this).2
theorem lmin_zero : ∀ (zs : List Int), (∀ z ∈ zs, z = 0) → lmin zs = 0
  | [], _ => rfl
  | x :: zs, h => by
    have h1 := lmin_mem (zs := x :: zs) (by simp)
    exact h _ h1
/-- Of a sketch that has nothing the product is 0. -/
theorem in_zero {c : Cfg} {l : Int} (hr : IsRight c) (hm : c.md = 1) {L : List (List Int)} (h : Sz (rws c) (wds c) L) : inCode c c l l L (zerosL (rws c) (wds c)) = 0 ∧ inVal c c l l L (zerosL (rws c) (wds c)) = 0 := by
  have hz := sz_zeros (rws c) (wds c)
  have ho : oks L (zerosL (rws c) (wds c)) = true := oks_yes (by rw [h.1, hz.1]) (fun k xs ys h1 h2 => by
    rw [zeros_get h2]
    exact dok_zero (h.2 xs (List.mem_of_getElem? h1)))
  have hy := in_yes (l := l) hm ho
  refine ⟨hy.1, ?_⟩
  rw [hy.2]
  refine lmin_zero _ fun z hzz => ?_
  unfold dots at hzz
  obtain ⟨x, _, y, hy2, rfl⟩ := mem_zip hzz
  unfold zerosL at hy2
  rw [(List.mem_replicate.1 hy2).2]
  exact dsum_zero _ _
end Go.Proofs.Ythecgkgnngpikaa.Inn
/- The parameter of layer 11 opened; updates that are cut; the products of two such sketches. Printed by wip/gen/innfed.py. -/
namespace Go.Proofs.Ythecgkgnngpikaa.Inn
open Go Go.RowKit Lw Grd Lin Con Shp Sk
set_option linter.unusedVariables false
set_option linter.unusedSimpArgs false
theorem open_two_c : Try.prog.cellsOf 34 = 8 := by kernel_rfl
set_option maxRecDepth 100000 in
theorem open_two {H : Type} {enc : TypeId × Value → H} {w : World} {v : Value} {d : DataW H} {p : List MemPlace} {base : Nat} (hv : Value.okWide Try.prog w .any base 34 v)
    (h : DataW.Trod enc Try.prog w 0 (fun _ => true) true 34 v d p) :
    ∃ (c : Cfg) (lv : Int) (A : Option Addr) (n k : Nat) (qs : Ups) (B : Option Addr) (n2 k2 : Nat) (ps : Ups), v = .agg #[.int .i64 c.bt, .int .i64 c.rw, .int .i64 c.wd, .int .i64 c.md, .int .u64 c.sd, .int .i64 lv, .slice A n k, .slice B n2 k2] ∧ c.Ok ∧ (-9223372036854775808 ≤ lv ∧ lv ≤ 9223372036854775807) ∧ UpdV w A n k qs ∧ UpdV w B n2 k2 ps := by
  have hcs : ∃ cs : Array Value, v = .agg cs ∧ cs.size = Try.prog.cellsOf 34 := by
    simp only [Value.okWide, Try.underlying34] at hv
    obtain ⟨cs, h1, h2, _⟩ := hv
    exact ⟨cs, h1, h2⟩
  obtain ⟨⟨l⟩, rfl, hsz⟩ := hcs
  rw [open_two_c] at hsz
  obtain ⟨fuel, hf0⟩ := h
  obtain ⟨xs, k, _, _, _, hxl, hf⟩ := DataW.trod_struct Try.underlying34 hf0
  match xs, hxl, l, hsz with
  | [y0, y1, y2, y3], _, [v0, v1, v2, v3, v4, v5, v6, v7], _ =>
    have g0 := hf 0 _ rfl
    have g1 := hf 1 _ rfl
    have g2 := hf 2 _ rfl
    have g3 := hf 3 _ rfl
    simp [Value.cells, show Try.prog.cellsOf 3 = 1 from by kernel_rfl, show Try.prog.cellsOf 31 = 5 from by kernel_rfl, show Try.prog.cellsOf 32 = 1 from by kernel_rfl] at g0 g1 g2 g3
    obtain ⟨zs, k2, _, _, _, hzl, hz⟩ := DataW.trod_struct Try.underlying31 g0
    match zs, hzl with
    | [z0, z1, z2, z3, z4], _ =>
      have c0 := hz 0 _ rfl
      have c1 := hz 1 _ rfl
      have c2 := hz 2 _ rfl
      have c3 := hz 3 _ rfl
      have c4 := hz 4 _ rfl
      simp [show Try.prog.cellsOf 3 = 1 from by kernel_rfl, show Try.prog.cellsOf 24 = 1 from by kernel_rfl] at c0 c1 c2 c3 c4
      obtain ⟨x0, f0, _, w0⟩ := DataW.trod_int (show Try.prog.underlying 3 = some (.int .i64) by kernel_rfl) c0
      simp at f0
      subst f0
      obtain ⟨x1, f1, _, w1⟩ := DataW.trod_int (show Try.prog.underlying 3 = some (.int .i64) by kernel_rfl) c1
      simp at f1
      subst f1
      obtain ⟨x2, f2, _, w2⟩ := DataW.trod_int (show Try.prog.underlying 3 = some (.int .i64) by kernel_rfl) c2
      simp at f2
      subst f2
      obtain ⟨x3, f3, _, w3⟩ := DataW.trod_int (show Try.prog.underlying 3 = some (.int .i64) by kernel_rfl) c3
      simp at f3
      subst f3
      obtain ⟨x4, f4, _, w4⟩ := DataW.trod_int (show Try.prog.underlying 24 = some (.int .u64) by kernel_rfl) c4
      simp at f4
      subst f4
      obtain ⟨x5, f5, _, w5⟩ := DataW.trod_int (show Try.prog.underlying 3 = some (.int .i64) by kernel_rfl) g1
      simp at f5
      subst f5
      obtain ⟨A, n, cp, qs, f6, h0, h1, h2, h3, h4⟩ := open_upds g2
      simp at f6
      subst f6
      obtain ⟨B, n2, cp2, ps, f7, i0, i1, i2, i3, i4⟩ := open_upds g3
      simp at f7
      subst f7
      have b0 := Lw.wf_i64 w0
      have b1 := Lw.wf_i64 w1
      have b2 := Lw.wf_i64 w2
      have b3 := Lw.wf_i64 w3
      have b4 := Lw.wf_u64 w4
      exact ⟨⟨x0, x1, x2, x3, x4⟩, x5, A, n, cp, qs, B, n2, cp2, ps, rfl, ⟨b0.1, b0.2, b1.1, b1.2, b2.1, b2.2, b3.1, b3.2, b4.1, b4.2⟩, Lw.wf_i64 w5, ⟨h0, h1, h2, h3, h4⟩, ⟨i0, i1, i2, i3, i4⟩⟩
theorem box8 {w : World} {b : Nat} {e : TypeId} {v0 v1 v2 v3 v4 v5 v6 v7 : Value} (h : (boxT b e #[v0, v1, v2, v3, v4, v5, v6, v7]).I w) : w.cell? ⟨b, 5, none⟩ = some v5 ∧ w.cell? ⟨b, 6, none⟩ = some v6 ∧ w.cell? ⟨b, 7, none⟩ = some v7 ∧ w.cell? ⟨b, 0, none⟩ = some v0 ∧ w.cell? ⟨b, 1, none⟩ = some v1 ∧ w.cell? ⟨b, 2, none⟩ = some v2 ∧ w.cell? ⟨b, 3, none⟩ = some v3 ∧ w.cell? ⟨b, 4, none⟩ = some v4 :=
  ⟨box_cell h rfl, box_cell h rfl, box_cell h rfl, box_cell h rfl, box_cell h rfl, box_cell h rfl, box_cell h rfl, box_cell h rfl⟩
/-- The config that is tried, of one mode. -/
def cfgM (x : Cfg) (b md : Int) : Cfg := { anyC x b 9 with md := md }
theorem cfgM_right (x : Cfg) (b md : Int) (hb0 : 1 ≤ b) (hb1 : b ≤ 59) (h0 : 1 ≤ md) (h1 : md ≤ 3) : IsRight (cfgM x b md) ∧ (cfgM x b md).bt ≤ b := by
  have h := any_right x b 9 (by omega) (by omega) (by omega) (by omega)
  refine ⟨⟨h.1, h.2.1, h.2.2.1, h.2.2.2.1, h.2.2.2.2.1, h.2.2.2.2.2.1, h0, h1⟩, ?_⟩
  show 1 + x.bt % 65536 % b ≤ b
  have := Int.emod_lt_of_pos (x.bt % 65536) (show 0 < b by omega)
  omega
theorem cfgM_ok (x : Cfg) (hx : x.Ok) (b md : Int) (hb0 : 1 ≤ b) (hb1 : b ≤ 59) (h0 : 1 ≤ md) (h1 : md ≤ 3) : (cfgM x b md).Ok := by
  have h := any_ok x hx b 9 (by omega) (by omega) (by omega) (by omega)
  exact ⟨h.b0, h.b1, h.r0, h.r1, h.w0, h.w1, by show -9223372036854775808 ≤ md; omega, by show md ≤ 9223372036854775807; omega, h.s0, h.s1⟩
def cutT (c : Cfg) (l : Int) (u : Int × Int) : Int × Int := (u.1 % keys c l, Int.tmod u.2 1048576)
theorem tmod20 (d : Int) : -1048576 < Int.tmod d 1048576 ∧ Int.tmod d 1048576 < 1048576 := by
  have h1 := Int.tmod_lt_of_pos d (show (0 : Int) < 1048576 by omega)
  have h3 := Int.tmod_lt_of_pos (-d) (show (0 : Int) < 1048576 by omega)
  rw [Int.neg_tmod] at h3
  omega
def tk (f : Int × Int → Int × Int) (qs : Ups) (k : Nat) : Ups := (qs.take k).map f
theorem tk_zero (f : Int × Int → Int × Int) (qs : Ups) : tk f qs 0 = [] := by unfold tk; simp
theorem tk_next {f : Int × Int → Int × Int} {qs : Ups} {k : Nat} {q : Int × Int} (h : qs[k]? = some q) : tk f qs (k + 1) = tk f qs k ++ [f q] := by
  obtain ⟨h1, h2⟩ := List.getElem?_eq_some_iff.1 h
  unfold tk
  rw [List.take_succ_eq_append_getElem h1, h2, List.map_append]
  rfl
theorem tk_len (f : Int × Int → Int × Int) (qs : Ups) (k : Nat) : (tk f qs k).length ≤ k := by
  unfold tk
  rw [List.length_map, List.length_take]
  omega
theorem tk_end {f : Int × Int → Int × Int} {qs : Ups} {k t : Nat} (h : k = t ∨ (qs.length ≤ k ∧ k ≤ t)) : tk f qs k = tk f qs t := by
  unfold tk
  rcases h with rfl | h
  · rfl
  · rw [List.take_of_length_le h.1, List.take_of_length_le (by omega)]
theorem cutT_ok {c : Cfg} {l : Int} (hk : 1 ≤ keys c l) (u : Int × Int) : 0 ≤ (cutT c l u).1 ∧ (cutT c l u).1 < keys c l ∧ -1048576 ≤ (cutT c l u).2 ∧ (cutT c l u).2 ≤ 1048576 := by
  have h := tmod20 u.2
  exact ⟨Int.emod_nonneg _ (by omega), Int.emod_lt_of_pos _ (by omega), by unfold cutT; simp only; omega, by unfold cutT; simp only; omega⟩
theorem tk_ok {c : Cfg} {l : Int} (hk : 1 ≤ keys c l) (qs : Ups) (k : Nat) : UpsOk c l 1048576 (tk (cutT c l) qs k) := by
  intro u hu
  unfold tk at hu
  obtain ⟨v, _, rfl⟩ := List.mem_map.1 hu
  exact cutT_ok hk v
theorem in_of_ok {c : Cfg} {l : Int} (hm : c.md = 1) {us : Ups} (h : UpsOk c l 1048576 us) : UpsIn c l us :=
  ⟨fun u hu => by have := h u hu; omega, fun h2 => by omega⟩
theorem cells_in {c : Cfg} {l : Int} (hm : c.md = 1) {us : Ups} (h : UpsOk c l 1048576 us) (hl : us.length ≤ 30) : Sz (rws c) (wds c) (cells c l us) ∧ Within 31457280 (cells c l us) := by
  refine ⟨cells_sz (in_of_ok hm h), ?_⟩
  have hw := within_mono (chAll_within (c := 1048576) (by omega) (b := 0) (Int.le_refl _) (within_zeros (rws c) (wds c)) (opsU_ok h)) (c := 31457280) (by rw [opsU_len]; omega)
  rwa [← cells_lin (by omega)] at hw
theorem dots_comm (L M : List (List Int)) : dots L M = dots M L := by
  unfold dots
  exact List.zipWith_comm_of_comm dsum_comm
theorem oks_small {c : Cfg} (hr : IsRight c) {L M : List (List Int)} (h1 : Sz (rws c) (wds c) L ∧ Within 31457280 L) (h2 : Sz (rws c) (wds c) M ∧ Within 31457280 M) : oks L M = true := by
  refine oks_yes (by rw [h1.1.1, h2.1.1]) (fun k xs ys hx hy => ?_)
  have e1 := List.mem_of_getElem? hx
  have e2 := List.mem_of_getElem? hy
  have l1 := h1.1.2 xs e1
  have l2 := h2.1.2 ys e2
  have hw := (wds_bd hr).2.1
  refine (dok_small (a := 31457280) (b := 31457280) (by omega) (by omega) (by omega) (fun v hv => h1.2 xs e1 v hv) (fun v hv => h2.2 ys e2 v hv) ?_).1
  have h3 : (xs.length : Int) * (31457280 * 31457280) ≤ 128 * (31457280 * 31457280) := Int.mul_le_mul_of_nonneg_right (by omega) (by omega)
  omega
end Go.Proofs.Ythecgkgnngpikaa.Inn
