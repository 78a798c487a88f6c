/- Texts that the statements of this seat lean on, put together: InnRef, InnShr, InnFed, ColOwn, SkRef, InnDoc. -/
import Derived.Test.YthecgkgnngpikaaMa
import Derived.Test.YthecgkgnngpikaaMb
import Derived.Test.YthecgkgnngpikaaMc
import Derived.Test.YthecgkgnngpikaaMd
import Derived.Test.YthecgkgnngpikaaMe
import Derived.Test.YthecgkgnngpikaaMf
import Derived.Test.YthecgkgnngpikaaMg
import Derived.Test.YthecgkgnngpikaaMh
import Derived.Deep.RegionWith
import Derived.Deep.DeepCutAuto
import Derived.Deep.CutRange
import Derived.Deep.LoopGhost
import Derived.Deep.RegionHeld3
import Derived.Deep.QuietTactic
import Derived.BigQuiet
import Derived.WalkSpells
/- The walk of the document's sums of products: gaugerref11.Dot. Printed by wip/gen/inn.py. -/
namespace Go.Proofs.Ythecgkgnngpikaa.Inn
open Go Go.RowKit Lw
set_option linter.unusedVariables false
set_option linter.unusedSimpArgs false
theorem rdot_ne (A B : Option Addr) (n m ca cb : Nat) (xs ys : List Int) (w : World) (hlx : xs.length = n) (hly : ys.length = m) (hne : n ≠ m) :
    Calls Try.prog 12 #[.slice A n ca, .slice B m cb] w fun e w' => e = .returned (.tuple #[.agg #[.int .i64 (dhi xs ys), .int .u64 (dlo xs ys)], .bool (dok xs ys)]) ∧ Below w.heap.size w w' := by
  have h := dok_ne (xs := xs) (ys := ys) (by omega)
  have hb : ((n : Int) != (m : Int)) = true := by simp; omega
  rw [h.1, h.2.1, h.2.2]
  clear h
  go_enter Try.func12, Try.ntmps12
  go_wp2
  go_returns
  exact ⟨rfl, by (repeat' (first | (with_reducible exact Below.refl _ _) | (with_reducible assumption) | (with_reducible refine below_over ?_ _ _) | (with_reducible refine Lw.below_alloc ?_ _) | (with_reducible refine Below.drew ?_) | (with_reducible refine below_drewN ?_ _) | (with_reducible refine Below.setCell ?_ ?_ _) | go_size))⟩
theorem long_info : (Try.prog.info? 58).map (·.size) = some 10 := by kernel_rfl
set_option maxRecDepth 100000 in
set_option maxHeartbeats 8000000 in
theorem rdot_eq (A B : Option Addr) (n ca cb : Nat) (xs ys : List Int) (w : World) (hx : Rd .i64 w A xs) (hy : Rd .i64 w B ys) (hlx : xs.length = n) (hly : ys.length = n) (hn : n ≤ 1000) (hzx : In64 xs) (hzy : In64 ys) :
    Calls Try.prog 12 #[.slice A n ca, .slice B n cb] w fun e w' => e = .returned (.tuple #[.agg #[.int .i64 (dhi xs ys), .int .u64 (dlo xs ys)], .bool (dok xs ys)]) ∧ Below w.heap.size w w' := by
  have HX := Lib.hid hx
  have HY := Lib.hid hy
  have HLX := Lib.hid hlx
  have HLY := Lib.hid hly
  have HZX := Lib.hid hzx
  have HZY := Lib.hid hzy
  clear hx hy hlx hly hzx hzy
  go_enter Try.func12, Try.ntmps12
  go_wp2
  go_loopw [7] (fun i wr => ∃ k : Nat, k ≤ n ∧ i = .int .i64 k ∧ Below w.heap.size w wr ∧ (∀ j, j ≤ k → Wid.fit (dp xs ys j) = true) ∧ wr.cell? ⟨w.heap.size, 0, none⟩ = some (.int .i64 0) ∧ wr.cell? ⟨w.heap.size, 1, none⟩ = some (.int .u64 0) ∧ wr.frozen? ⟨w.heap.size, 0, none⟩ = false ∧ wr.frozen? ⟨w.heap.size, 1, none⟩ = false ∧ Wid.LBlk wr (w.heap.size + 1) (dp xs ys k)) (fun i _ => n - (intOf i).toNat)
  case atStart =>
    refine ⟨0, Nat.zero_le _, rfl, by (repeat' (first | (with_reducible exact Below.refl _ _) | (with_reducible assumption) | (with_reducible refine below_over ?_ _ _) | (with_reducible refine Lw.below_alloc ?_ _) | (with_reducible refine Below.drew ?_) | (with_reducible refine below_drewN ?_ _) | (with_reducible refine Below.setCell ?_ ?_ _) | go_size)), ?_, ?_, ?_, ?_, ?_, ?_⟩
    · intro j hj
      obtain rfl : j = 0 := by omega
      rw [dp_0]
      decide
    all_goals (try rw [dp_0])
    all_goals first
      | (simp [go_sem]; done)
      | (have h := heap_alloc_new (w.alloc (.cells #[.int .i64 0, .int .u64 0] 26)) (.cells #[.int .i64 0, .int .i64 0, .int .i64 0, .int .i64 0, .int .i64 0, .int .i64 0, .int .i64 0, .int .i64 0, .int .i64 0, .int .i64 0] 58); rw [World.size_alloc] at h; simpa [Wid.LBlk, Wid.dcells, Wid.dg] using h)
  case round =>
    obtain ⟨k, hk, rfl, hbel, hfit, r0, r1, q0, q1, hblk⟩ := hrel
    have hfk := hfit k (Nat.le_refl _)
    obtain ⟨s, hs⟩ : ∃ s, dp xs ys k = s := ⟨_, rfl⟩
    rw [hs] at hblk hfk
    have hsb := fit_bd hfk
    have HF := Lib.hid hfit
    have hz1 := Lw.cell_lt r0
    have hzlt := Wid.blk_lt hblk
    simp only at hz1
    have lz1 : ∀ x : Nat, w.heap.size < wr.heap.size + x := fun x => by omega
    have HBK := Lib.hid hblk
    have hR : wr.rangeAt (w.heap.size + 1) 0 [.int .i64 (Wid.dg s 0), .int .i64 (Wid.dg s 1), .int .i64 (Wid.dg s 2), .int .i64 (Wid.dg s 3), .int .i64 (Wid.dg s 4), .int .i64 (Wid.dg s 5), .int .i64 (Wid.dg s 6), .int .i64 (Wid.dg s 7), .int .i64 (Wid.dg s 8), .int .i64 (Wid.dg s 9)] := box_range (e := 58) (vs := [.int .i64 (Wid.dg s 0), .int .i64 (Wid.dg s 1), .int .i64 (Wid.dg s 2), .int .i64 (Wid.dg s 3), .int .i64 (Wid.dg s 4), .int .i64 (Wid.dg s 5), .int .i64 (Wid.dg s 6), .int .i64 (Wid.dg s 7), .int .i64 (Wid.dg s 8), .int .i64 (Wid.dg s 9)]) hblk
    have f0 := Wid.blk_frozen hblk 0
    have k0 : wr.cell? ⟨w.heap.size + 1, 0, none⟩ = some (.int .i64 (Wid.dg s 0)) := cell_of_row _ _ _ _ _ _ hblk
    have f1 := Wid.blk_frozen hblk 1
    have k1 : wr.cell? ⟨w.heap.size + 1, 1, none⟩ = some (.int .i64 (Wid.dg s 1)) := cell_of_row _ _ _ _ _ _ hblk
    have f2 := Wid.blk_frozen hblk 2
    have k2 : wr.cell? ⟨w.heap.size + 1, 2, none⟩ = some (.int .i64 (Wid.dg s 2)) := cell_of_row _ _ _ _ _ _ hblk
    have f3 := Wid.blk_frozen hblk 3
    have k3 : wr.cell? ⟨w.heap.size + 1, 3, none⟩ = some (.int .i64 (Wid.dg s 3)) := cell_of_row _ _ _ _ _ _ hblk
    have f4 := Wid.blk_frozen hblk 4
    have k4 : wr.cell? ⟨w.heap.size + 1, 4, none⟩ = some (.int .i64 (Wid.dg s 4)) := cell_of_row _ _ _ _ _ _ hblk
    have f5 := Wid.blk_frozen hblk 5
    have k5 : wr.cell? ⟨w.heap.size + 1, 5, none⟩ = some (.int .i64 (Wid.dg s 5)) := cell_of_row _ _ _ _ _ _ hblk
    have f6 := Wid.blk_frozen hblk 6
    have k6 : wr.cell? ⟨w.heap.size + 1, 6, none⟩ = some (.int .i64 (Wid.dg s 6)) := cell_of_row _ _ _ _ _ _ hblk
    have f7 := Wid.blk_frozen hblk 7
    have k7 : wr.cell? ⟨w.heap.size + 1, 7, none⟩ = some (.int .i64 (Wid.dg s 7)) := cell_of_row _ _ _ _ _ _ hblk
    have f8 := Wid.blk_frozen hblk 8
    have k8 : wr.cell? ⟨w.heap.size + 1, 8, none⟩ = some (.int .i64 (Wid.dg s 8)) := cell_of_row _ _ _ _ _ _ hblk
    have f9 := Wid.blk_frozen hblk 9
    have k9 : wr.cell? ⟨w.heap.size + 1, 9, none⟩ = some (.int .i64 (Wid.dg s 9)) := cell_of_row _ _ _ _ _ _ hblk
    clear hblk
    by_cases hlt : k < n
    · skip
      have hk1 : k < xs.length := by have := HLX.out; omega
      have hk2 : k < ys.length := by have := HLY.out; omega
      obtain ⟨x, hvx⟩ : ∃ x, xs[k]? = some x := ⟨_, List.getElem?_eq_getElem hk1⟩
      obtain ⟨y, hvy⟩ : ∃ y, ys[k]? = some y := ⟨_, List.getElem?_eq_getElem hk2⟩
      have hbx := HZX.out.at hvx
      have hby := HZY.out.at hvy
      have hnext := dp_next hvx hvy
      obtain ⟨ad, rfl, hcx⟩ := HX.out k x hvx
      obtain ⟨bd, rfl, hcy⟩ := HY.out k y hvy
      have cx : wr.cell? (ad.add k) = some (.int .i64 x) := by rw [hbel.cell (Lw.cell_lt hcx)]; exact hcx
      have cy : wr.cell? (bd.add k) = some (.int .i64 y) := by rw [hbel.cell (Lw.cell_lt hcy)]; exact hcy
      have hpb := prod_bd hbx hby
      rw [hs] at hnext
      obtain ⟨p, hp⟩ : ∃ p, x * y = p := ⟨_, rfl⟩
      rw [hp] at hnext hpb
      obtain ⟨z, hz⟩ : ∃ z, s + p = z := ⟨_, rfl⟩
      have hzb : -730750818665451459101842416358141509827966271488 ≤ z ∧ z < 730750818665451459101842416358141509827966271488 := by omega
      rw [hz] at hnext
      have HN := Lib.hid hnext
      have CX := Lib.hid (fun w => Wid.rofint_any x w hbx.1 hbx.2)
      have CY := Lib.hid (fun w => Wid.rofint_any y w hby.1 hby.2)
      have CM := Lib.hid (fun w => Wid.rmul_any x y _ _ _ _ _ _ _ _ _ _ _ _ _ _ _ _ _ _ _ _ w rfl rfl)
      have CP := Lib.hid (fun w => Wid.rplus_any s p _ _ _ _ _ _ _ _ _ _ _ _ _ _ _ _ _ _ _ _ w rfl rfl)
      have CW := Lib.hid (fun w => Wid.rwide_any z _ _ _ _ _ _ _ _ _ _ w rfl hzb.1 hzb.2)
      rw [hp] at CM
      rw [hz] at CP
      obtain ⟨fhz, hfhz⟩ : ∃ v, Wid.fh z = v := ⟨_, rfl⟩
      obtain ⟨flz, hflz⟩ : ∃ v, Wid.fl z = v := ⟨_, rfl⟩
      obtain ⟨b, hb⟩ : ∃ v, Wid.fit z = v := ⟨_, rfl⟩
      rw [hfhz, hflz, hb] at CW
      have HB := Lib.hid hb
      have HNO : Hid (Wid.fit z = false → dok xs ys = false ∧ dhi xs ys = 0 ∧ dlo xs ys = 0) := Lib.hid (fun hb2 => dok_no (xs := xs) (ys := ys) (k := k + 1) hk1 (by rw [HN.out, hb2]))
      clear hfhz hflz hb hz hzb hnext hp hpb hbx hby hvx hvy hk1 hk2 hfit hfk hsb hs hcx hcy
      have gx : ∀ bs d, (grow wr bs d).cell? (ad.add k) = some (.int .i64 x) := fun bs d => cell_up cx (grow_below wr bs d)
      have gy : ∀ bs d, (grow wr bs d).cell? (bd.add k) = some (.int .i64 y) := fun bs d => cell_up cy (grow_below wr bs d)
      go_upto_region 7 with fail
      go_cut [34] from 16 to 42 (fun s34 wx => Below w.heap.size w wx ∧ wx.cell? ⟨w.heap.size, 0, none⟩ = some (.int .i64 0) ∧ wx.cell? ⟨w.heap.size, 1, none⟩ = some (.int .u64 0) ∧ wx.frozen? ⟨w.heap.size, 0, none⟩ = false ∧ wx.frozen? ⟨w.heap.size, 1, none⟩ = false ∧ Wid.LBlk wx (w.heap.size + 1) z)
      case first =>
        clear CW HF HN HB
        go_region_with (first
          | (go_at_call_of 37 (Value.int .i64 x); (with_reducible refine (CX.out _).mono ?_); rintro e w' ⟨rfl, hb⟩; obtain ⟨bs, d, rfl⟩ := below_grow hb; clear hb)
          | (go_at_call_of 37 (Value.int .i64 y); (with_reducible refine (CY.out _).mono ?_); rintro e w' ⟨rfl, hb⟩; obtain ⟨bs2, d2, rfl⟩ := below_grow hb; clear hb)
          | (go_at_call 36; (with_reducible refine (CM.out _).mono ?_); rintro e w' ⟨rfl, hb⟩; obtain ⟨bs3, d3, rfl⟩ := below_grow hb; clear hb)
          | (go_at_call 35; (with_reducible refine (CP.out _).mono ?_); rintro e w' ⟨rfl, hb⟩; obtain ⟨bs4, d4, rfl⟩ := below_grow hb; clear hb))
        all_goals go_wp2_with fail
        all_goals go_meet
        all_goals refine ⟨by (repeat' (first | (with_reducible exact Below.refl _ _) | (with_reducible assumption) | (with_reducible refine below_over ?_ _ _) | (with_reducible refine Lw.below_alloc ?_ _) | (with_reducible refine Below.drew ?_) | (with_reducible refine below_drewN ?_ _) | (with_reducible refine Below.setCell ?_ ?_ _) | go_size)), by simp [go_sem, r0, hz1, lz1], by simp [go_sem, r1, hz1, lz1], by simp [go_sem, q0, hz1, lz1], by simp [go_sem, q1, hz1, lz1], ?_⟩
        all_goals exact Wid.blk_grow (Wid.LBlk.set HBK.out z) _ _
      case rest =>
        obtain ⟨hbel2, g0, g1, h0, h1, hblk2⟩ := hcut
        clear k0 k1 k2 k3 k4 k5 k6 k7 k8 k9 f0 f1 f2 f3 f4 f5 f6 f7 f8 f9 r0 r1 q0 q1 gx gy cx cy hR HBK CX CY CM CP hzlt hz1 lz1 hbel
        have hz1 := Lw.cell_lt g0
        have hzlt := Wid.blk_lt hblk2
        simp only at hz1
        have HBK := Lib.hid hblk2
        have k0 : wc.cell? ⟨w.heap.size + 1, 0, none⟩ = some (.int .i64 (Wid.dg z 0)) := cell_of_row _ _ _ _ _ _ hblk2
        have k1 : wc.cell? ⟨w.heap.size + 1, 1, none⟩ = some (.int .i64 (Wid.dg z 1)) := cell_of_row _ _ _ _ _ _ hblk2
        have k2 : wc.cell? ⟨w.heap.size + 1, 2, none⟩ = some (.int .i64 (Wid.dg z 2)) := cell_of_row _ _ _ _ _ _ hblk2
        have k3 : wc.cell? ⟨w.heap.size + 1, 3, none⟩ = some (.int .i64 (Wid.dg z 3)) := cell_of_row _ _ _ _ _ _ hblk2
        have k4 : wc.cell? ⟨w.heap.size + 1, 4, none⟩ = some (.int .i64 (Wid.dg z 4)) := cell_of_row _ _ _ _ _ _ hblk2
        have k5 : wc.cell? ⟨w.heap.size + 1, 5, none⟩ = some (.int .i64 (Wid.dg z 5)) := cell_of_row _ _ _ _ _ _ hblk2
        have k6 : wc.cell? ⟨w.heap.size + 1, 6, none⟩ = some (.int .i64 (Wid.dg z 6)) := cell_of_row _ _ _ _ _ _ hblk2
        have k7 : wc.cell? ⟨w.heap.size + 1, 7, none⟩ = some (.int .i64 (Wid.dg z 7)) := cell_of_row _ _ _ _ _ _ hblk2
        have k8 : wc.cell? ⟨w.heap.size + 1, 8, none⟩ = some (.int .i64 (Wid.dg z 8)) := cell_of_row _ _ _ _ _ _ hblk2
        have k9 : wc.cell? ⟨w.heap.size + 1, 9, none⟩ = some (.int .i64 (Wid.dg z 9)) := cell_of_row _ _ _ _ _ _ hblk2
        clear hblk2
        have lz1 : ∀ x : Nat, w.heap.size < wc.heap.size + x := fun x => by omega
        cases b with
        | true =>
          go_wp2_with (go_at_call 38; (with_reducible refine (CW.out _).mono ?_); rintro e w' ⟨rfl, hb⟩; obtain ⟨bs, d, rfl⟩ := below_grow hb; clear hb)
          go_roundw
          case rel =>
            refine ⟨k + 1, by omega, by go_num, by (repeat' (first | (with_reducible exact Below.refl _ _) | (with_reducible assumption) | (with_reducible refine below_over ?_ _ _) | (with_reducible refine Lw.below_alloc ?_ _) | (with_reducible refine Below.drew ?_) | (with_reducible refine below_drewN ?_ _) | (with_reducible refine Below.setCell ?_ ?_ _) | go_size)), ?_, by simp [go_sem, g0, hz1, lz1], by simp [go_sem, g1, hz1, lz1], by simp [go_sem, h0, hz1, lz1], by simp [go_sem, h1, hz1, lz1], ?_⟩
            · intro j hj
              rcases Nat.lt_or_ge k j with h1 | h1
              · obtain rfl : j = k + 1 := by omega
                rw [HN.out]
                exact HB.out
              · exact HF.out j h1
            · rw [HN.out]
              exact Kept.heap (F := fun _ => False) (Kept.of_below (by (repeat' (first | (with_reducible exact Below.refl _ _) | (with_reducible assumption) | (with_reducible refine below_over ?_ _ _) | (with_reducible refine Lw.below_alloc ?_ _) | (with_reducible refine Below.drew ?_) | (with_reducible refine below_drewN ?_ _) | (with_reducible refine Below.setCell ?_ ?_ _) | go_size)))) HBK.out (fun h => h)
          case measure => simp [intOf]; omega
        | false =>
          have HN2 := Lib.hid (HNO.out HB.out)
          clear HNO
          go_wp2_with (go_at_call 38; (with_reducible refine (CW.out _).mono ?_); rintro e w' ⟨rfl, hb⟩; obtain ⟨bs, d, rfl⟩ := below_grow hb; clear hb)
          refine bodyPost_ret (v := .tuple #[.agg #[.int .i64 0, .int .u64 0], .bool false]) (by simp [results, Try.results12, go_sem, g0, g1, h0, h1, lz1, hz1]) rfl ?_
          exact ⟨by rw [HN2.out.1, HN2.out.2.1, HN2.out.2.2], by (repeat' (first | (with_reducible exact Below.refl _ _) | (with_reducible assumption) | (with_reducible refine below_over ?_ _ _) | (with_reducible refine Lw.below_alloc ?_ _) | (with_reducible refine Below.drew ?_) | (with_reducible refine below_drewN ?_ _) | (with_reducible refine Below.setCell ?_ ?_ _) | go_size))⟩
    · have e : k = n := by omega
      subst e
      have h1 := dok_yes (xs := xs) (ys := ys) (by rw [HLX.out, HLY.out]) (by rw [HLX.out]; exact hfit)
      rw [← dp_all (xs := xs) (ys := ys) (k := k) (by rw [HLX.out]; omega) (by rw [HLY.out]; omega), hs] at h1
      have CW := Lib.hid (fun w => Wid.rwide_any s _ _ _ _ _ _ _ _ _ _ w rfl (by omega) (by omega))
      rw [hfk] at CW
      obtain ⟨fhs, hfhs⟩ : ∃ v, Wid.fh s = v := ⟨_, rfl⟩
      obtain ⟨fls, hfls⟩ : ∃ v, Wid.fl s = v := ⟨_, rfl⟩
      rw [hfhs, hfls] at h1 CW
      have H1 := Lib.hid h1
      clear h1 hfhs hfls hsb hs hfk hfit hR f0 f1 f2 f3 f4 f5 f6 f7 f8 f9
      go_wp2_with (go_at_call 38; (with_reducible refine (CW.out _).mono ?_); rintro e w' ⟨rfl, hb⟩; obtain ⟨bs, d, rfl⟩ := below_grow hb; clear hb)
      refine bodyPost_ret (v := .tuple #[.agg #[.int .i64 fhs, .int .u64 fls], .bool true]) (by simp [results, Try.results12, go_sem, r0, r1, q0, q1, lz1, hz1]) rfl ?_
      exact ⟨by rw [H1.out.1, H1.out.2.1, H1.out.2.2], by (repeat' (first | (with_reducible exact Below.refl _ _) | (with_reducible assumption) | (with_reducible refine below_over ?_ _ _) | (with_reducible refine Lw.below_alloc ?_ _) | (with_reducible refine Below.drew ?_) | (with_reducible refine below_drewN ?_ _) | (with_reducible refine Below.setCell ?_ ?_ _) | go_size))⟩
theorem rdot_any (A B : Option Addr) (n m ca cb : Nat) (xs ys : List Int) (w : World) (hx : Rd .i64 w A xs) (hy : Rd .i64 w B ys) (hlx : xs.length = n) (hly : ys.length = m) (hn : n ≤ 1000) (hzx : In64 xs) (hzy : In64 ys) :
    Calls Try.prog 12 #[.slice A n ca, .slice B m cb] w fun e w' => e = .returned (.tuple #[.agg #[.int .i64 (dhi xs ys), .int .u64 (dlo xs ys)], .bool (dok xs ys)]) ∧ Below w.heap.size w w' := by
  by_cases h : n = m
  · subst h
    exact rdot_eq A B n ca cb xs ys w hx hy hlx hly hn hzx hzy
  · exact rdot_ne A B n m ca cb xs ys w hlx hly h
end Go.Proofs.Ythecgkgnngpikaa.Inn
/- What several laws of layer 11 share. Printed by wip/gen/innlaws.py. -/
namespace Go.Proofs.Ythecgkgnngpikaa.Inn
open Go Go.RowKit Lw Grd Lin Con Shp Sk
set_option linter.unusedVariables false
set_option linter.unusedSimpArgs false
theorem lst_int64_c : Try.prog.cellsOf 2 = 1 := by kernel_rfl
set_option maxRecDepth 100000 in
theorem open_list_int64 {H : Type} {enc : TypeId × Value → H} {W : World} {v : Value} {d : DataW H} {p : List MemPlace} {base : Nat} (hv : Value.okWide Try.prog W .any base 22 v)
    (h : DataW.Trod enc Try.prog W 0 (fun _ => true) true 22 v d p) :
    ∃ (A : Option Addr) (n cap : Nat) (zs : List Int), v = .slice A n cap ∧ (A = none → n = 0 ∧ cap = 0) ∧ n ≤ cap ∧ cap ≤ maxLen ∧ Rd .i64 W A zs ∧ zs.length = n ∧ (∀ v ∈ zs, -9223372036854775808 ≤ v ∧ v ≤ 9223372036854775807) := by
  obtain ⟨a0, len, cap, rfl⟩ := Go.WideShapes.okWide_slice Try.underlying22 hv
  obtain ⟨fuel, hf⟩ := h
  rcases Go.ChangeShapes.open_ints Try.underlying22 Try.underlying2 lst_int64_c hf with ⟨hcs, _⟩ | ⟨a, len', cap', zs, hcs, _, hl, hm, hz, _, hcell, hwz⟩
  · simp [Value.cells] at hcs
    obtain ⟨rfl, rfl, rfl⟩ := hcs
    exact ⟨none, 0, 0, [], rfl, fun _ => ⟨rfl, rfl⟩, Nat.le_refl _, by simp, rd_nil _ _ _, rfl, fun v h => by simp at h⟩
  · simp [Value.cells] at hcs
    obtain ⟨rfl, rfl, rfl⟩ := hcs
    have hz2 : zs.length = cap := by simpa using hz
    refine ⟨some a, len, cap, zs.take len, rfl, (fun h => by cases h), hl, hm, ?_, by simp; omega, ?_⟩
    · intro k v hk
      rw [List.getElem?_take] at hk
      split at hk
      · refine ⟨a, rfl, ?_⟩
        rw [hcell k (by omega)]
        simp [hk]
      · cases hk
    · intro v hv
      exact Lw.wf_i64 (hwz v (List.mem_of_mem_take hv))
theorem i64_info : (Try.prog.info? 2).map (fun i => (i.zero, i.size, i.bytes)) = some (some (.int .i64 0), 1, 8) := by kernel_rfl
theorem i64s_u : Try.prog.underlying 22 = some (.slice 2) := by kernel_rfl
theorem arr2_int_u : Try.prog.underlying 61 = some (.array 2 3) := by kernel_rfl
theorem arr2_int_c : Try.prog.cellsOf 61 = 2 := by kernel_rfl
theorem arr2_int_e : Try.prog.cellsOf 3 = 1 := by kernel_rfl
theorem arr2_int_k : Try.prog.underlying 3 = some (.int .i64) := by kernel_rfl
theorem arr2_int_l {α : Type} (T : Array α) (h : T.size = 2) : ∃ x0 x1 : α, T = #[x0, x1] := by
  obtain ⟨l⟩ := T
  match l, h with
  | [x0, x1], _ => exact ⟨x0, x1, rfl⟩
set_option maxRecDepth 100000 in
theorem open_arr2_int {H : Type} {enc : TypeId × Value → H} {W : World} {v : Value} {d : DataW H} {p : List MemPlace} {base : Nat} (hv : Value.okWide Try.prog W .any base 61 v)
    (h : DataW.Trod enc Try.prog W 0 (fun _ => true) true 61 v d p) :
    ∃ x0 x1 : Int, v = .agg #[.int .i64 x0, .int .i64 x1] ∧ (-9223372036854775808 ≤ x0 ∧ x0 ≤ 9223372036854775807) ∧ (-9223372036854775808 ≤ x1 ∧ x1 ≤ 9223372036854775807) := by
  have hcs : ∃ cs : Array Value, v = .agg cs ∧ cs.size = Try.prog.cellsOf 61 := by
    simp only [Value.okWide, arr2_int_u] at hv
    obtain ⟨cs, h1, h2, _⟩ := hv
    exact ⟨cs, h1, h2⟩
  obtain ⟨cs, rfl, hsz⟩ := hcs
  obtain ⟨c0, c1, rfl⟩ := arr2_int_l _ (hsz.trans arr2_int_c)
  obtain ⟨fuel, hf⟩ := h
  obtain ⟨xs, m, _, _, _, hlen, hg⟩ := DataW.trod_array arr2_int_u hf
  have g0 := hg 0 (by omega)
  have g1 := hg 1 (by omega)
  rw [arr2_int_e] at g0 g1
  match xs, hlen with
  | [y0, y1], _ =>
    simp [Value.cells] at g0 g1
    obtain ⟨x0, e0, _, w0⟩ := DataW.trod_int arr2_int_k g0
    obtain ⟨x1, e1, _, w1⟩ := DataW.trod_int arr2_int_k g1
    simp at e0 e1
    subst e0 e1
    exact ⟨x0, x1, rfl, Lw.wf_i64 w0, Lw.wf_i64 w1⟩
theorem three_boxs (w : World) (e1 e2 e3 : TypeId) (v1 v2 v3 : Array Value) : Have w (((w.alloc (.cells v1 e1)).alloc (.cells v2 e2)).alloc (.cells v3 e3)) [boxT (w.heap.size + 1 + 1) e3 v3, boxT (w.heap.size + 1) e2 v2, boxT w.heap.size e1 v1] := by
  refine (two_boxs w e1 e2 v1 v2).push (boxT (w.heap.size + 1 + 1) e3 v3) (Lw.below_alloc (Below.refl _ _) _) ?_ (fun k hk => ?_)
  · have h := heap_alloc_new ((w.alloc (.cells v1 e1)).alloc (.cells v2 e2)) (.cells v3 e3)
    rw [World.size_alloc, World.size_alloc] at h
    exact h
  · rw [World.size_alloc, World.size_alloc]
    exact Nat.le_of_eq hk.symm
theorem dsum_zero (n : Nat) : ∀ xs : List Int, dsum xs (List.replicate n 0) = 0 := by
  induction n with
  | zero => intro xs; rw [List.replicate_zero, dsum_r]
  | succ n ih =>
    intro xs
    match xs with
    | [] => rw [dsum_l]
    | x :: xs => rw [List.replicate_succ]; simp only [dsum, ih xs]; omega
theorem dok_zero {xs : List Int} {n : Nat} (h : xs.length = n) : dok xs (List.replicate n 0) = true := by
  refine (dok_yes (by simp [h]) fun k hk => ?_).1
  unfold dp
  rw [List.take_replicate, dsum_zero]
  decide
theorem zeros_get {m n k : Nat} {r : List Int} (h : (zerosL m n)[k]? = some r) : r = List.replicate n 0 := by
  have := List.mem_of_getElem? h
  unfold zerosL at this
  exact (List.mem_replicate.1 this).2
theorem lmin_zero : ∀ (zs : List Int), (∀ z ∈ zs, z = 0) → lmin zs = 0
  | [], _ => rfl
  | x :: zs, h => by
    have h1 := lmin_mem (zs := x :: zs) (by simp)
    exact h _ h1
/-- Of a sketch that has nothing the product is 0. -/
theorem in_zero {c : Cfg} {l : Int} (hr : IsRight c) (hm : c.md = 1) {L : List (List Int)} (h : Sz (rws c) (wds c) L) : inCode c c l l L (zerosL (rws c) (wds c)) = 0 ∧ inVal c c l l L (zerosL (rws c) (wds c)) = 0 := by
  have hz := sz_zeros (rws c) (wds c)
  have ho : oks L (zerosL (rws c) (wds c)) = true := oks_yes (by rw [h.1, hz.1]) (fun k xs ys h1 h2 => by
    rw [zeros_get h2]
    exact dok_zero (h.2 xs (List.mem_of_getElem? h1)))
  have hy := in_yes (l := l) hm ho
  refine ⟨hy.1, ?_⟩
  rw [hy.2]
  refine lmin_zero _ fun z hzz => ?_
  unfold dots at hzz
  obtain ⟨x, _, y, hy2, rfl⟩ := mem_zip hzz
  unfold zerosL at hy2
  rw [(List.mem_replicate.1 hy2).2]
  exact dsum_zero _ _
end Go.Proofs.Ythecgkgnngpikaa.Inn
/- The parameter of layer 11 opened; updates that are cut; the products of two such sketches. Printed by wip/gen/innfed.py. -/
namespace Go.Proofs.Ythecgkgnngpikaa.Inn
open Go Go.RowKit Lw Grd Lin Con Shp Sk
set_option linter.unusedVariables false
set_option linter.unusedSimpArgs false
theorem open_two_c : Try.prog.cellsOf 34 = 8 := by kernel_rfl
set_option maxRecDepth 100000 in
theorem open_two {H : Type} {enc : TypeId × Value → H} {w : World} {v : Value} {d : DataW H} {p : List MemPlace} {base : Nat} (hv : Value.okWide Try.prog w .any base 34 v)
    (h : DataW.Trod enc Try.prog w 0 (fun _ => true) true 34 v d p) :
    ∃ (c : Cfg) (lv : Int) (A : Option Addr) (n k : Nat) (qs : Ups) (B : Option Addr) (n2 k2 : Nat) (ps : Ups), v = .agg #[.int .i64 c.bt, .int .i64 c.rw, .int .i64 c.wd, .int .i64 c.md, .int .u64 c.sd, .int .i64 lv, .slice A n k, .slice B n2 k2] ∧ c.Ok ∧ (-9223372036854775808 ≤ lv ∧ lv ≤ 9223372036854775807) ∧ UpdV w A n k qs ∧ UpdV w B n2 k2 ps := by
  have hcs : ∃ cs : Array Value, v = .agg cs ∧ cs.size = Try.prog.cellsOf 34 := by
    simp only [Value.okWide, Try.underlying34] at hv
    obtain ⟨cs, h1, h2, _⟩ := hv
    exact ⟨cs, h1, h2⟩
  obtain ⟨⟨l⟩, rfl, hsz⟩ := hcs
  rw [open_two_c] at hsz
  obtain ⟨fuel, hf0⟩ := h
  obtain ⟨xs, k, _, _, _, hxl, hf⟩ := DataW.trod_struct Try.underlying34 hf0
  match xs, hxl, l, hsz with
  | [y0, y1, y2, y3], _, [v0, v1, v2, v3, v4, v5, v6, v7], _ =>
    have g0 := hf 0 _ rfl
    have g1 := hf 1 _ rfl
    have g2 := hf 2 _ rfl
    have g3 := hf 3 _ rfl
    simp [Value.cells, show Try.prog.cellsOf 3 = 1 from by kernel_rfl, show Try.prog.cellsOf 31 = 5 from by kernel_rfl, show Try.prog.cellsOf 32 = 1 from by kernel_rfl] at g0 g1 g2 g3
    obtain ⟨zs, k2, _, _, _, hzl, hz⟩ := DataW.trod_struct Try.underlying31 g0
    match zs, hzl with
    | [z0, z1, z2, z3, z4], _ =>
      have c0 := hz 0 _ rfl
      have c1 := hz 1 _ rfl
      have c2 := hz 2 _ rfl
      have c3 := hz 3 _ rfl
      have c4 := hz 4 _ rfl
      simp [show Try.prog.cellsOf 3 = 1 from by kernel_rfl, show Try.prog.cellsOf 24 = 1 from by kernel_rfl] at c0 c1 c2 c3 c4
      obtain ⟨x0, f0, _, w0⟩ := DataW.trod_int (show Try.prog.underlying 3 = some (.int .i64) by kernel_rfl) c0
      simp at f0
      subst f0
      obtain ⟨x1, f1, _, w1⟩ := DataW.trod_int (show Try.prog.underlying 3 = some (.int .i64) by kernel_rfl) c1
      simp at f1
      subst f1
      obtain ⟨x2, f2, _, w2⟩ := DataW.trod_int (show Try.prog.underlying 3 = some (.int .i64) by kernel_rfl) c2
      simp at f2
      subst f2
      obtain ⟨x3, f3, _, w3⟩ := DataW.trod_int (show Try.prog.underlying 3 = some (.int .i64) by kernel_rfl) c3
      simp at f3
      subst f3
      obtain ⟨x4, f4, _, w4⟩ := DataW.trod_int (show Try.prog.underlying 24 = some (.int .u64) by kernel_rfl) c4
      simp at f4
      subst f4
      obtain ⟨x5, f5, _, w5⟩ := DataW.trod_int (show Try.prog.underlying 3 = some (.int .i64) by kernel_rfl) g1
      simp at f5
      subst f5
      obtain ⟨A, n, cp, qs, f6, h0, h1, h2, h3, h4⟩ := open_upds g2
      simp at f6
      subst f6
      obtain ⟨B, n2, cp2, ps, f7, i0, i1, i2, i3, i4⟩ := open_upds g3
      simp at f7
      subst f7
      have b0 := Lw.wf_i64 w0
      have b1 := Lw.wf_i64 w1
      have b2 := Lw.wf_i64 w2
      have b3 := Lw.wf_i64 w3
      have b4 := Lw.wf_u64 w4
      exact ⟨⟨x0, x1, x2, x3, x4⟩, x5, A, n, cp, qs, B, n2, cp2, ps, rfl, ⟨b0.1, b0.2, b1.1, b1.2, b2.1, b2.2, b3.1, b3.2, b4.1, b4.2⟩, Lw.wf_i64 w5, ⟨h0, h1, h2, h3, h4⟩, ⟨i0, i1, i2, i3, i4⟩⟩
theorem box8 {w : World} {b : Nat} {e : TypeId} {v0 v1 v2 v3 v4 v5 v6 v7 : Value} (h : (boxT b e #[v0, v1, v2, v3, v4, v5, v6, v7]).I w) : w.cell? ⟨b, 5, none⟩ = some v5 ∧ w.cell? ⟨b, 6, none⟩ = some v6 ∧ w.cell? ⟨b, 7, none⟩ = some v7 ∧ w.cell? ⟨b, 0, none⟩ = some v0 ∧ w.cell? ⟨b, 1, none⟩ = some v1 ∧ w.cell? ⟨b, 2, none⟩ = some v2 ∧ w.cell? ⟨b, 3, none⟩ = some v3 ∧ w.cell? ⟨b, 4, none⟩ = some v4 :=
  ⟨box_cell h rfl, box_cell h rfl, box_cell h rfl, box_cell h rfl, box_cell h rfl, box_cell h rfl, box_cell h rfl, box_cell h rfl⟩
/-- The config that is tried, of one mode. -/
def cfgM (x : Cfg) (b md : Int) : Cfg := { anyC x b 9 with md := md }
theorem cfgM_right (x : Cfg) (b md : Int) (hb0 : 1 ≤ b) (hb1 : b ≤ 59) (h0 : 1 ≤ md) (h1 : md ≤ 3) : IsRight (cfgM x b md) ∧ (cfgM x b md).bt ≤ b := by
  have h := any_right x b 9 (by omega) (by omega) (by omega) (by omega)
  refine ⟨⟨h.1, h.2.1, h.2.2.1, h.2.2.2.1, h.2.2.2.2.1, h.2.2.2.2.2.1, h0, h1⟩, ?_⟩
  show 1 + x.bt % 65536 % b ≤ b
  have := Int.emod_lt_of_pos (x.bt % 65536) (show 0 < b by omega)
  omega
theorem cfgM_ok (x : Cfg) (hx : x.Ok) (b md : Int) (hb0 : 1 ≤ b) (hb1 : b ≤ 59) (h0 : 1 ≤ md) (h1 : md ≤ 3) : (cfgM x b md).Ok := by
  have h := any_ok x hx b 9 (by omega) (by omega) (by omega) (by omega)
  exact ⟨h.b0, h.b1, h.r0, h.r1, h.w0, h.w1, by show -9223372036854775808 ≤ md; omega, by show md ≤ 9223372036854775807; omega, h.s0, h.s1⟩
def cutT (c : Cfg) (l : Int) (u : Int × Int) : Int × Int := (u.1 % keys c l, Int.tmod u.2 1048576)
theorem tmod20 (d : Int) : -1048576 < Int.tmod d 1048576 ∧ Int.tmod d 1048576 < 1048576 := by
  have h1 := Int.tmod_lt_of_pos d (show (0 : Int) < 1048576 by omega)
  have h3 := Int.tmod_lt_of_pos (-d) (show (0 : Int) < 1048576 by omega)
  rw [Int.neg_tmod] at h3
  omega
def tk (f : Int × Int → Int × Int) (qs : Ups) (k : Nat) : Ups := (qs.take k).map f
theorem tk_zero (f : Int × Int → Int × Int) (qs : Ups) : tk f qs 0 = [] := by unfold tk; simp
theorem tk_next {f : Int × Int → Int × Int} {qs : Ups} {k : Nat} {q : Int × Int} (h : qs[k]? = some q) : tk f qs (k + 1) = tk f qs k ++ [f q] := by
  obtain ⟨h1, h2⟩ := List.getElem?_eq_some_iff.1 h
  unfold tk
  rw [List.take_succ_eq_append_getElem h1, h2, List.map_append]
  rfl
theorem tk_len (f : Int × Int → Int × Int) (qs : Ups) (k : Nat) : (tk f qs k).length ≤ k := by
  unfold tk
  rw [List.length_map, List.length_take]
  omega
theorem tk_end {f : Int × Int → Int × Int} {qs : Ups} {k t : Nat} (h : k = t ∨ (qs.length ≤ k ∧ k ≤ t)) : tk f qs k = tk f qs t := by
  unfold tk
  rcases h with rfl | h
  · rfl
  · rw [List.take_of_length_le h.1, List.take_of_length_le (by omega)]
theorem cutT_ok {c : Cfg} {l : Int} (hk : 1 ≤ keys c l) (u : Int × Int) : 0 ≤ (cutT c l u).1 ∧ (cutT c l u).1 < keys c l ∧ -1048576 ≤ (cutT c l u).2 ∧ (cutT c l u).2 ≤ 1048576 := by
  have h := tmod20 u.2
  exact ⟨Int.emod_nonneg _ (by omega), Int.emod_lt_of_pos _ (by omega), by unfold cutT; simp only; omega, by unfold cutT; simp only; omega⟩
theorem tk_ok {c : Cfg} {l : Int} (hk : 1 ≤ keys c l) (qs : Ups) (k : Nat) : UpsOk c l 1048576 (tk (cutT c l) qs k) := by
  intro u hu
  unfold tk at hu
  obtain ⟨v, _, rfl⟩ := List.mem_map.1 hu
  exact cutT_ok hk v
theorem in_of_ok {c : Cfg} {l : Int} (hm : c.md = 1) {us : Ups} (h : UpsOk c l 1048576 us) : UpsIn c l us :=
  ⟨fun u hu => by have := h u hu; omega, fun h2 => by omega⟩
theorem cells_in {c : Cfg} {l : Int} (hm : c.md = 1) {us : Ups} (h : UpsOk c l 1048576 us) (hl : us.length ≤ 30) : Sz (rws c) (wds c) (cells c l us) ∧ Within 31457280 (cells c l us) := by
  refine ⟨cells_sz (in_of_ok hm h), ?_⟩
  have hw := within_mono (chAll_within (c := 1048576) (by omega) (b := 0) (Int.le_refl _) (within_zeros (rws c) (wds c)) (opsU_ok h)) (c := 31457280) (by rw [opsU_len]; omega)
  rwa [← cells_lin (by omega)] at hw
theorem dots_comm (L M : List (List Int)) : dots L M = dots M L := by
  unfold dots
  exact List.zipWith_comm_of_comm dsum_comm
theorem oks_small {c : Cfg} (hr : IsRight c) {L M : List (List Int)} (h1 : Sz (rws c) (wds c) L ∧ Within 31457280 L) (h2 : Sz (rws c) (wds c) M ∧ Within 31457280 M) : oks L M = true := by
  refine oks_yes (by rw [h1.1.1, h2.1.1]) (fun k xs ys hx hy => ?_)
  have e1 := List.mem_of_getElem? hx
  have e2 := List.mem_of_getElem? hy
  have l1 := h1.1.2 xs e1
  have l2 := h2.1.2 ys e2
  have hw := (wds_bd hr).2.1
  refine (dok_small (a := 31457280) (b := 31457280) (by omega) (by omega) (by omega) (fun v hv => h1.2 xs e1 v hv) (fun v hv => h2.2 ys e2 v hv) ?_).1
  have h3 : (xs.length : Int) * (31457280 * 31457280) ≤ 128 * (31457280 * 31457280) := Int.mul_le_mul_of_nonneg_right (by omega) (by omega)
  omega
end Go.Proofs.Ythecgkgnngpikaa.Inn
/- The document's Columns: its row lies in a block of its own. Printed by wip/gen/skref.py. -/
namespace Go.Proofs.Ythecgkgnngpikaa.Shp
open Go Go.RowKit Lw
set_option linter.unusedVariables false
set_option linter.unusedSimpArgs false
set_option maxRecDepth 100000 in
set_option maxHeartbeats 2000000 in
theorem rcols_own (c : Cfg) (l k : Int) (w : World) (h : c.Ok) (l0 : -9223372036854775808 ≤ l) (l1 : l ≤ 9223372036854775807) (k0 : 0 ≤ k) (k1 : k ≤ 18446744073709551615) :
    Calls Try.prog 44 #[.agg #[.int .i64 c.bt, .int .i64 c.rw, .int .i64 c.wd, .int .i64 c.md, .int .u64 c.sd], .int .i64 l, .int .u64 k] w fun e w' => ∃ (A : Addr) (cap : Nat), e = .returned (.slice (some A) (cols c l k).length cap) ∧ Rd .i64 w' (some A) (cols c l k) ∧ (cols c l k).length ≤ cap ∧ cap ≤ maxLen ∧ w.heap.size ≤ A.block ∧ Below w.heap.size w w' := by
  obtain ⟨i0, hi, hi0, hi1, hi2⟩ := info_parts int_info
  have HO := Lib.hid h
  obtain ⟨b0, b1, r0, r1, w0, w1, m0, m1, s0, s1⟩ := h
  have hkl := keys_bd c l
  have hpos := keys_pos (c := c) (l := l)
  have HY := Lib.hid (@cols_yes c l k)
  have HNo := Lib.hid (@cols_no c l k)
  obtain ⟨K, hK⟩ : ∃ K, keys c l = K := ⟨_, rfl⟩
  rw [hK] at hkl hpos HY HNo
  by_cases h1 : k < K
  · obtain ⟨hr, hl0, hl1⟩ := hpos.1 (by omega)
    have hb59 := hr.2.1
    have hr1 := hr.2.2.1
    have hr2 := hr.2.2.2.1
    have HC := Lib.hid (HY.out h1)
    obtain ⟨R, hR⟩ : ∃ R : Nat, c.rw = R := ⟨c.rw.toNat, by omega⟩
    have HR : Hid (c.rw.toNat = R) := Lib.hid (by omega)
    have hR8 : R ≤ 8 := by omega
    have HRW := Lib.hid hR
    clear hpos hr hR
    go_enter Try.func44, Try.ntmps44
    go_wp2_with (go_at_call 24; (with_reducible refine (rkeys_any c l _ HO.out l0 l1).mono ?_); rintro e w' ⟨he, hb⟩; rw [hK] at he; subst he; obtain ⟨bs, d, rfl⟩ := below_grow hb; clear hb)
    obtain ⟨wK, hw1⟩ : ∃ wK : World, wK = grow ((w.alloc (.cells #[.int .i64 c.bt, .int .i64 c.rw, .int .i64 c.wd, .int .i64 c.md, .int .u64 c.sd] 31)).alloc (.cells #[] 3)) bs d := ⟨_, rfl⟩
    have hwb : Below w.heap.size w wK := by rw [hw1]; repeat' (first | (with_reducible exact Below.refl _ _) | (with_reducible assumption) | (with_reducible refine below_over ?_ _ _) | (with_reducible refine Lw.below_alloc ?_ _) | (with_reducible refine Below.drew ?_) | (with_reducible refine below_drewN ?_ _) | (with_reducible refine Below.setCell ?_ ?_ _) | go_size)
    have hwc : wK.heap[w.heap.size]? = some (.cells #[.int .i64 c.bt, .int .i64 c.rw, .int .i64 c.wd, .int .i64 c.md, .int .u64 c.sd] 31 (0, 0)) := by
      rw [hw1, (grow_below _ bs d).block _ (by simp), (Lw.below_alloc (Below.refl (w.alloc (.cells #[.int .i64 c.bt, .int .i64 c.rw, .int .i64 c.wd, .int .i64 c.md, .int .u64 c.sd] 31)).heap.size _) _).block _ (by simp)]
      exact heap_alloc_new w _
    have hwo : wK.ownsRow (w.heap.size + 1) 3 1 (.slice (some ⟨w.heap.size + 1, 0, none⟩) 0 0) 0 (([] : List Int).map (Value.int .i64)) := by
      rw [hw1]
      have h := own_empty (w.alloc (.cells #[.int .i64 c.bt, .int .i64 c.rw, .int .i64 c.wd, .int .i64 c.md, .int .u64 c.sd] 31)) 3 1 (w.heap.size + 1) (by simp)
      have e : (w.alloc (.cells #[.int .i64 c.bt, .int .i64 c.rw, .int .i64 c.wd, .int .i64 c.md, .int .u64 c.sd] 31)).heap.size = w.heap.size + 1 := by simp
      rw [e] at h
      exact (Kept.of_below (F := fun _ => False) (grow_below _ bs d)).own h (fun _ _ h => h)
    rw [← hw1]
    clear hw1
    have HW := Lib.hid hwb
    have HX := Lib.hid hwc
    have HY2 := Lib.hid hwo
    clear hwb hwc hwo
    go_loopw [7, 8] (fun v i wr => ∃ (r g cp : Nat), r ≤ R ∧ i = .int .i64 r ∧ v = .slice (some ⟨g, 0, none⟩) r cp ∧ wr.ownsRow (w.heap.size + 1) 3 1 v r (((List.range r).map (col c l k)).map (Value.int .i64)) ∧ wr.heap[w.heap.size]? = some (.cells #[.int .i64 c.bt, .int .i64 c.rw, .int .i64 c.wd, .int .i64 c.md, .int .u64 c.sd] 31 (0, 0)) ∧ Below w.heap.size w wr) (fun _ i _ => R - (intOf i).toNat)
    case atStart => exact ⟨0, _, 0, Nat.zero_le _, rfl, rfl, HY2.out, HX.out, HW.out⟩
    case round =>
      obtain ⟨r, g, cp, hrR, rfl, rfl, hown, hbox, hbel⟩ := hrel
      have hwl : w.heap.size < wr.heap.size := by
        rcases Nat.lt_or_ge w.heap.size wr.heap.size with h | h
        · exact h
        · rw [Array.getElem?_eq_none h] at hbox; cases hbox
      have x1 : wr.cell? ⟨w.heap.size, 1, none⟩ = some (.int .i64 c.rw) := by simp [World.cell?, hbox]
      have x2 : wr.cell? ⟨w.heap.size, 2, none⟩ = some (.int .i64 c.wd) := by simp [World.cell?, hbox]
      have x4 : wr.cell? ⟨w.heap.size, 4, none⟩ = some (.int .u64 c.sd) := by simp [World.cell?, hbox]
      have HOW := Lib.hid hown
      have HBX := Lib.hid hbox
      have HBL := Lib.hid hbel
      clear hown hbox hbel
      rw [HRW.out] at x1
      by_cases hlt : r < R
      · obtain ⟨pa, hpa⟩ : ∃ pa, Sed.pairA c.sd l r = pa := ⟨_, rfl⟩
        obtain ⟨pb, hpb⟩ : ∃ pb, Sed.pairB c.sd l r = pb := ⟨_, rfl⟩
        have ba := Sed.pairA_bd c.sd l r
        have bb := Sed.pairB_bd c.sd l r
        have hok : Sed.okRow l r := ⟨hl0, by have := b1; omega, by omega, by omega⟩
        have ba := ba hok
        have bb := bb hok
        rw [hpa] at ba
        rw [hpb] at bb
        obtain ⟨X, hX⟩ : ∃ X, Hsh.buck pa pb k c.wd = X := ⟨_, rfl⟩
        have hcol : col c l k r = X := by unfold col; rw [hpa, hpb, hX]
        have HN := Lib.hid (range_next (col c l k) r)
        rw [hcol] at HN
        clear hcol hok
        go_wp2_with (first
          | (go_at_call 68; (with_reducible refine (Sed.rpair_any c.sd l r _ l0 l1 (by omega) (by omega)).mono ?_); rintro e w' ⟨he, rfl⟩; rw [hpa, hpb] at he; subst he)
          | (go_at_call 69; (with_reducible refine (Hsh.rbucket_any pa pb k c.wd _ (by omega) (by omega) (by omega) (by omega) k0 k1 w0 w1).mono ?_); rintro e w' ⟨he, rfl⟩; rw [hX] at he; subst he)
          | (at_builtin; (refine app_one .i64 rfl _ _ 50 rfl (w.heap.size + 1) 3 i0 8 ints_u hi hi0 hi1 hi2 (.slice (some ⟨g, 0, none⟩) r cp) r ((List.range r).map (col c l k)) rfl (HOW.out.alloc _) X wr.heap.size rfl (cell_one_new _ _ _) (by unfold maxLen; omega) (by omega) (by simp; omega) ?_); intro v1 w2 own1 grow1 oth1; obtain ⟨gg, cc, rfl, hgg, hgl⟩ := own1.form (by omega)))
        go_roundw
        case rel =>
          have hge := own_ge HOW.out
          refine ⟨r + 1, gg, cc, by omega, by go_num, rfl, by rw [HN.out]; exact own1, ?_, ?_⟩
          · refine ((Kept.refl (fun q => q = g) _).grown grow1 (fun q hq => .inl (by simpa [Value.ownBlock] using hq.symm))).heap (o := _) ?_ (by have := hge g rfl; omega)
            rw [(Lw.below_alloc (Below.refl wr.heap.size wr) _).block _ hwl]
            exact HBX.out
          · exact app_below3 (Lw.below_alloc HBL.out _) grow1 (fun q hq => by have := hge q hq; omega)
        case measure => simp [intOf]; omega
      · have e : r = R := by omega
        subst e
        obtain ⟨A, cp2, hv, hrd, h2, h3, h4⟩ := own_rd HOW.out
        injection hv with hv1 hv2 hv3
        subst hv1 hv3
        have hlen : ((List.range r).map (col c l k)).length = r := by simp
        have HCC : Hid (cols c l k = (List.range r).map (col c l k)) := Lib.hid (by rw [HC.out, HR.out])
        have HRD := Lib.hid hrd
        clear hrd h4
        go_wp2
        go_ret
        exact ⟨⟨g, 0, none⟩, cp, by rw [HCC.out, hlen]; rfl, by rw [HCC.out]; exact HRD.out, by rw [HCC.out, hlen]; exact h2, h3, by have := own_ge HOW.out g rfl; show w.heap.size ≤ g; omega, HBL.out⟩
  · have HC := Lib.hid (HNo.out h1)
    clear hpos
    go_enter Try.func44, Try.ntmps44
    go_wp2_with (go_at_call 24; (with_reducible refine (rkeys_any c l _ HO.out l0 l1).mono ?_); rintro e w' ⟨he, hb⟩; rw [hK] at he; subst he; obtain ⟨bs, d, rfl⟩ := below_grow hb; clear hb)
    all_goals go_ret
    all_goals refine ⟨⟨w.heap.size + 1, 0, none⟩, 0, by rw [HC.out]; rfl, by rw [HC.out]; exact rd_nil _ _ _, by rw [HC.out]; exact Nat.le_refl _, by decide, Nat.le_succ _, ?_⟩
    all_goals (repeat' (first | (with_reducible exact Below.refl _ _) | (with_reducible assumption) | (with_reducible refine below_over ?_ _ _) | (with_reducible refine Lw.below_alloc ?_ _) | (with_reducible refine Below.drew ?_) | (with_reducible refine below_drewN ?_ _) | (with_reducible refine Below.setCell ?_ ?_ _) | go_size))
end Go.Proofs.Ythecgkgnngpikaa.Shp
/- The document's sketch: a block of its config, its level and its grid; New, Update. Printed by wip/gen/skref.py. -/
namespace Go.Proofs.Ythecgkgnngpikaa.Sk
open Go Go.RowKit Lw Grd Lin Con Shp
set_option linter.unusedVariables false
set_option linter.unusedSimpArgs false
/-- A sketch of the document at p, in the blocks F. -/
def DS (w : World) (p : Addr) (F : Nat → Prop) (c : Cfg) (l : Int) (L : List (List Int)) : Prop :=
  IsRight c ∧ c.Ok ∧ 0 ≤ l ∧ l ≤ c.bt ∧ ∃ (b : Nat) (gp : Addr) (G : Nat → Prop), p = ⟨b, 0, none⟩ ∧ w.heap[b]? = some (.cells #[.int .i64 c.bt, .int .i64 c.rw, .int .i64 c.wd, .int .i64 c.md, .int .u64 c.sd, .int .i64 l, .pointer (some gp)] 84 (0, 0)) ∧ DG w gp G (rws c) (wds c) L ∧ ¬ G b ∧ F = (fun k => k = b ∨ G k)
theorem DS.keep {w' : World} {H : Nat → Prop} {w : World} {p : Addr} {F : Nat → Prop} {c : Cfg} {l : Int} {L : List (List Int)} (h : DS w p F c l L) (hk : Kept H w w') (hf : ∀ k, F k → ¬ H k) : DS w' p F c l L := by
  obtain ⟨hr, hok, hl0, hl1, b, gp, G, rfl, hb, hg, hGb, rfl⟩ := h
  exact ⟨hr, hok, hl0, hl1, b, gp, G, rfl, hk.heap hb (hf b (.inl rfl)), (dgT gp G _ _ L).keep w w' H hg hk (fun k h => hf k (.inr h)), hGb, rfl⟩
theorem DS.up {w' : World} {w : World} {p : Addr} {F : Nat → Prop} {c : Cfg} {l : Int} {L : List (List Int)} (h : DS w p F c l L) (hk : Below w.heap.size w w') : DS w' p F c l L := h.keep (Kept.of_below (F := fun _ => False) hk) (fun _ _ h => h)
theorem DS.lt {w : World} {p : Addr} {F : Nat → Prop} {c : Cfg} {l : Int} {L : List (List Int)} (h : DS w p F c l L) (k : Nat) (hk : F k) : k < w.heap.size := by
  obtain ⟨hr, hok, hl0, hl1, b, gp, G, rfl, hb, hg, hGb, rfl⟩ := h
  rcases hk with rfl | hk
  · exact size_of_heap hb
  · exact (dgT gp G _ _ L).lt w hg k hk
def dsT (p : Addr) (F : Nat → Prop) (c : Cfg) (l : Int) (L : List (List Int)) : Thing where
  I := fun w => DS w p F c l L
  F := F
  keep := fun w w' H h hk hf => h.keep hk hf
  lt := fun w h k hk => h.lt k hk
theorem dsI {w : World} {p : Addr} {F : Nat → Prop} {c : Cfg} {l : Int} {L : List (List Int)} (h : (dsT p F c l L).I w) : DS w p F c l L := h
theorem ds_turn {w w' : World} {b : Nat} {gp : Addr} {G G' : Nat → Prop} {c : Cfg} {l : Int} {L : List (List Int)} (hr : IsRight c) (hok : c.Ok) (hl0 : 0 ≤ l) (hl1 : l ≤ c.bt)
    (hb : w.heap[b]? = some (.cells #[.int .i64 c.bt, .int .i64 c.rw, .int .i64 c.wd, .int .i64 c.md, .int .u64 c.sd, .int .i64 l, .pointer (some gp)] 84 (0, 0))) (hGb : ¬ G b) (g' : DG w' gp G' (rws c) (wds c) L) (hk : Kept G w w') (hG : ∀ k, G' k → G k ∨ w.heap.size ≤ k) :
    ∃ F', DS w' ⟨b, 0, none⟩ F' c l L ∧ Kept (fun k => k = b ∨ G k) w w' ∧ (∀ q, F' q → (q = b ∨ G q) ∨ w.heap.size ≤ q) := by
  have hbl := size_of_heap hb
  refine ⟨_, ⟨hr, hok, hl0, hl1, b, gp, G', rfl, hk.heap hb hGb, g', fun h => ?_, rfl⟩, hk.mono (fun k _ h => .inr h), fun q hq => ?_⟩
  · rcases hG b h with h1 | h1
    · exact hGb h1
    · omega
  · rcases hq with rfl | h1
    · exact .inl (.inl rfl)
    · rcases hG q h1 with h2 | h2
      · exact .inl (.inr h2)
      · exact .inr h2
theorem dg_alloc {w : World} {p : Addr} {F : Nat → Prop} {m n : Nat} {L : List (List Int)} (h : DG w p F m n L) (o : Obj) : DG (w.alloc o) p F m n L := dg_up h (Lw.below_alloc (Below.refl _ _) o)
set_option maxRecDepth 100000 in
theorem rsnew_any (c : Cfg) (l : Int) (w : World) (h : c.Ok) (hr : IsRight c) (l0 : 0 ≤ l) (l1 : l ≤ c.bt) :
    Calls Try.prog 15 #[.agg #[.int .i64 c.bt, .int .i64 c.rw, .int .i64 c.wd, .int .i64 c.md, .int .u64 c.sd], .int .i64 l] w fun e w' => ∃ (p : Addr) (F : Nat → Prop), e = .returned (.pointer (some p)) ∧ DS w' p F c l (zerosL (rws c) (wds c)) ∧ (∀ k, F k → w.heap.size ≤ k) ∧ Below w.heap.size w w' := by
  have hw1 := rws_bd hr
  have hw2 := wds_bd hr
  have N := Lib.hid (fun w => dnew_any c.rw c.wd w h.r0 h.r1 h.w0 h.w1)
  have e1 : cl c.rw 8 = rws c := cl_of (by omega) (by omega)
  have e2 : cl c.wd 128 = wds c := cl_of (by omega) (by omega)
  rw [e1, e2] at N
  have HR := Lib.hid (And.intro hr (And.intro l0 l1))
  clear hr hw1 hw2 e1 e2 l0 l1
  go_enter Try.func15, Try.ntmps15
  go_upto_region 1 with fail
  obtain ⟨w1, hw1⟩ : ∃ w1, w1 = w.alloc (.cells #[.int .i64 c.bt, .int .i64 c.rw, .int .i64 c.wd, .int .i64 c.md, .int .u64 c.sd] 31) := ⟨_, rfl⟩
  have HB1 : Hid (Below w.heap.size w w1) := Lib.hid (by rw [hw1]; (repeat' (first | (with_reducible exact Below.refl _ _) | (with_reducible assumption) | (with_reducible refine below_over ?_ _ _) | (with_reducible refine Lw.below_alloc ?_ _) | (with_reducible refine Below.drew ?_) | (with_reducible refine below_drewN ?_ _) | (with_reducible refine Below.setCell ?_ ?_ _) | go_size)))
  have x0 : w1.cell? ⟨w.heap.size, 0, none⟩ = some (.int .i64 c.bt) := by rw [hw1]; simp [go_sem]
  have x1 : w1.cell? ⟨w.heap.size, 1, none⟩ = some (.int .i64 c.rw) := by rw [hw1]; simp [go_sem]
  have x2 : w1.cell? ⟨w.heap.size, 2, none⟩ = some (.int .i64 c.wd) := by rw [hw1]; simp [go_sem]
  have x3 : w1.cell? ⟨w.heap.size, 3, none⟩ = some (.int .i64 c.md) := by rw [hw1]; simp [go_sem]
  have x4 : w1.cell? ⟨w.heap.size, 4, none⟩ = some (.int .u64 c.sd) := by rw [hw1]; simp [go_sem]
  rw [← hw1]
  clear hw1
  go_region_held3 (fun w' => w'.cell? ⟨w.heap.size, 0, none⟩ = some (.int .i64 c.bt) ∧ w'.cell? ⟨w.heap.size, 1, none⟩ = some (.int .i64 c.rw) ∧ w'.cell? ⟨w.heap.size, 2, none⟩ = some (.int .i64 c.wd) ∧ w'.cell? ⟨w.heap.size, 3, none⟩ = some (.int .i64 c.md) ∧ w'.cell? ⟨w.heap.size, 4, none⟩ = some (.int .u64 c.sd)) (first | (refine ⟨?_, ?_, ?_, ?_, ?_⟩ <;> (first | (with_reducible assumption) | (with_reducible refine cell_up x0 ?_) | (with_reducible refine cell_up x1 ?_) | (with_reducible refine cell_up x2 ?_) | (with_reducible refine cell_up x3 ?_) | (with_reducible refine cell_up x4 ?_)) <;> repeat' (first | (with_reducible exact Below.refl _ _) | (with_reducible assumption) | (with_reducible refine below_over ?_ _ _) | (with_reducible refine Lw.below_alloc ?_ _) | (with_reducible refine Below.drew ?_) | (with_reducible refine below_drewN ?_ _) | (with_reducible refine Below.setCell ?_ ?_ _) | go_size))) (first
    | (go_at_call 41; (with_reducible refine (N.out _).mono ?_); rintro e w2 ⟨gp, G, rfl, hg, hG, hb2⟩; obtain ⟨bs2, d2, rfl⟩ := below_grow hb2; have HG := Lib.hid hg; have HF := Lib.hid hG; have HB2 := Lib.hid hb2; clear hg hG hb2))
  all_goals go_wp2
  all_goals go_ret
  have hgl := fun k (hk : G k) => (dgT gp G _ _ _).lt _ HG.out k hk
  rw [size_grow] at hgl
  have hn := heap_alloc_new (grow w1 bs2 d2) (.cells #[.int .i64 c.bt, .int .i64 c.rw, .int .i64 c.wd, .int .i64 c.md, .int .u64 c.sd, .int .i64 l, .pointer (some gp)] 84)
  rw [size_grow] at hn
  have hs := HB1.out.size
  have hz : w1.drew.heap.size = w1.heap.size := rfl
  rw [hz] at hgl
  refine ⟨⟨w1.heap.size + bs2.size, 0, none⟩, fun k => k = w1.heap.size + bs2.size ∨ G k, rfl, ⟨HR.out.1, h, HR.out.2.1, HR.out.2.2, _, gp, G, rfl, hn, dg_alloc HG.out _, fun hk => by have := hgl _ hk; omega, rfl⟩, fun k hk => ?_, ?_⟩
  · rcases hk with rfl | hk
    · omega
    · have := HF.out k hk; rw [hz] at this; omega
  · exact (below_call (Below.drew HB1.out) HB2.out (Nat.le_refl _)).alloc (by rw [size_grow]; omega) _
set_option maxRecDepth 100000 in
set_option maxHeartbeats 4000000 in
theorem rsupd_any (p : Addr) (F : Nat → Prop) (c : Cfg) (l : Int) (L : List (List Int)) (k d : Int) (w : World) (h : DS w p F c l L) (k0 : 0 ≤ k) (k1 : k ≤ 18446744073709551615) (d0 : -9223372036854775808 ≤ d) (d1 : d ≤ 9223372036854775807) :
    Calls Try.prog 17 #[.pointer (some p), .int .u64 k, .int .i64 d] w fun e w' => e = .returned (.int .i64 (upCode c l L k d)) ∧ ∃ F', DS w' p F' c l (upRes c l L k d) ∧ Kept F w w' ∧ (∀ q, F' q → F q ∨ w.heap.size ≤ q) := by
  unfold upCode upRes
  have HS := Lib.hid h
  obtain ⟨hr, hok, hl0, hl1, b, gp, G, rfl, hb, hg, hGb, rfl⟩ := h
  have hbl := size_of_heap hb
  have c0 := grd_cell hb 0 (v := .int .i64 c.bt) rfl
  have c1 := grd_cell hb 1 (v := .int .i64 c.rw) rfl
  have c2 := grd_cell hb 2 (v := .int .i64 c.wd) rfl
  have c3 := grd_cell hb 3 (v := .int .i64 c.md) rfl
  have c4 := grd_cell hb 4 (v := .int .u64 c.sd) rfl
  have c5 := grd_cell hb 5 (v := .int .i64 l) rfl
  have c6 := grd_cell hb 6 (v := .pointer (some gp)) rfl
  have hbt := hr.2.1
  have CK := Lib.hid (fun w => rkeys_any c l w hok (by omega) (by omega))
  have CC := Lib.hid (fun w => rcols_own c l k w hok (by omega) (by omega) k0 k1)
  have HT : Hid (∀ w' G' L', DG w' gp G' (rws c) (wds c) L' → Kept G w w' → (∀ k, G' k → G k ∨ w.heap.size ≤ k) → ∃ F', DS w' ⟨b, 0, none⟩ F' c l L' ∧ Kept (fun k => k = b ∨ G k) w w' ∧ (∀ q, F' q → (q = b ∨ G q) ∨ w.heap.size ≤ q)) := Lib.hid (fun w' G' L' h1 h2 h3 => ds_turn hr hok hl0 hl1 hb hGb h1 h2 h3)
  have hrw := rws_bd hr
  by_cases hk : keys c l ≤ k
  · rw [if_pos hk, if_pos hk]
    obtain ⟨K, hK⟩ : ∃ K, keys c l = K := ⟨_, rfl⟩
    rw [hK] at hk CK
    clear hb hg hrw hK
    go_enter Try.func17, Try.ntmps17
    go_upto_region 1 with fail
    go_region_held3 (fun w' => w'.cell? ⟨b, 0, none⟩ = some (.int .i64 c.bt) ∧ w'.cell? ⟨b, 1, none⟩ = some (.int .i64 c.rw) ∧ w'.cell? ⟨b, 2, none⟩ = some (.int .i64 c.wd) ∧ w'.cell? ⟨b, 3, none⟩ = some (.int .i64 c.md) ∧ w'.cell? ⟨b, 4, none⟩ = some (.int .u64 c.sd) ∧ w'.cell? ⟨b, 5, none⟩ = some (.int .i64 l)) (first | (refine ⟨?_, ?_, ?_, ?_, ?_, ?_⟩ <;> (first | (with_reducible assumption) | (with_reducible refine cell_up c0 ?_) | (with_reducible refine cell_up c1 ?_) | (with_reducible refine cell_up c2 ?_) | (with_reducible refine cell_up c3 ?_) | (with_reducible refine cell_up c4 ?_) | (with_reducible refine cell_up c5 ?_)) <;> repeat' (first | (with_reducible exact Below.refl _ _) | (with_reducible assumption) | (with_reducible refine below_over ?_ _ _) | (with_reducible refine Lw.below_alloc ?_ _) | (with_reducible refine Below.drew ?_) | (with_reducible refine below_drewN ?_ _) | (with_reducible refine Below.setCell ?_ ?_ _) | go_size))) (first
      | (go_at_call 24; (with_reducible refine (CK.out _).mono ?_); rintro e w' ⟨rfl, hb⟩; obtain ⟨bs, dd, rfl⟩ := below_grow hb; clear hb))
    all_goals go_wp2
    all_goals go_ret
    all_goals exact ⟨rfl, _, HS.out.up (by repeat' (first | (with_reducible exact Below.refl _ _) | (with_reducible assumption) | (with_reducible refine below_over ?_ _ _) | (with_reducible refine Lw.below_alloc ?_ _) | (with_reducible refine Below.drew ?_) | (with_reducible refine below_drewN ?_ _) | (with_reducible refine Below.setCell ?_ ?_ _) | go_size)), Kept.of_below (by repeat' (first | (with_reducible exact Below.refl _ _) | (with_reducible assumption) | (with_reducible refine below_over ?_ _ _) | (with_reducible refine Lw.below_alloc ?_ _) | (with_reducible refine Below.drew ?_) | (with_reducible refine below_drewN ?_ _) | (with_reducible refine Below.setCell ?_ ?_ _) | go_size)), fun q hq => .inl hq⟩
  · rw [if_neg hk, if_neg hk]
    have hk2 : k < keys c l := by omega
    have hlen : (cols c l k).length = rws c := (cols_meet k0 hk2).2.1
    have CR := Lib.hid (fun A cap w' hd h1 hap => rraise_any gp G (rws c) (wds c) L (some A) (rws c) cap (cols c l k) d w' hd h1 hap hlen (by omega) (in64_cols c l k) d0 d1)
    have CH := Lib.hid (fun A cap w' hd h1 hap => rchange_any gp G (rws c) (wds c) L (some A) (rws c) cap (cols c l k) d w' hd h1 hap hlen (by omega) (in64_cols c l k) d0 d1)
    have GL := Lib.hid (fun q (hq : G q) => (dgT gp G _ _ L).lt w hg q hq)
    have HG := Lib.hid hg
    rw [hlen] at CC
    obtain ⟨K, hK⟩ : ∃ K, keys c l = K := ⟨_, rfl⟩
    rw [hK] at hk2 CK
    obtain ⟨n, hn⟩ : ∃ n, rws c = n := ⟨_, rfl⟩
    rw [hn] at CC CR CH HT HG ⊢
    have hkx : ¬ K ≤ k := by omega
    have hgb : decide (K ≤ k) = false := decide_eq_false hkx
    have HB := Lib.hid hb
    clear hb hg hrw hK hk hlen hn
    by_cases hm : c.md = 2
    · rw [if_pos hm, if_pos hm]
      have hmb : (c.md == 2) = true := by simp [hm]
      clear hm
      go_enter Try.func17, Try.ntmps17
      go_upto_region 1 with fail
      go_region_held3 (fun w' => w'.cell? ⟨b, 0, none⟩ = some (.int .i64 c.bt) ∧ w'.cell? ⟨b, 1, none⟩ = some (.int .i64 c.rw) ∧ w'.cell? ⟨b, 2, none⟩ = some (.int .i64 c.wd) ∧ w'.cell? ⟨b, 3, none⟩ = some (.int .i64 c.md) ∧ w'.cell? ⟨b, 4, none⟩ = some (.int .u64 c.sd) ∧ w'.cell? ⟨b, 5, none⟩ = some (.int .i64 l)) (first | (refine ⟨?_, ?_, ?_, ?_, ?_, ?_⟩ <;> (first | (with_reducible assumption) | (with_reducible refine cell_up c0 ?_) | (with_reducible refine cell_up c1 ?_) | (with_reducible refine cell_up c2 ?_) | (with_reducible refine cell_up c3 ?_) | (with_reducible refine cell_up c4 ?_) | (with_reducible refine cell_up c5 ?_)) <;> repeat' (first | (with_reducible exact Below.refl _ _) | (with_reducible assumption) | (with_reducible refine below_over ?_ _ _) | (with_reducible refine Lw.below_alloc ?_ _) | (with_reducible refine Below.drew ?_) | (with_reducible refine below_drewN ?_ _) | (with_reducible refine Below.setCell ?_ ?_ _) | go_size))) (first
        | (go_at_call 24; (with_reducible refine (CK.out _).mono ?_); rintro e w' ⟨rfl, hb⟩; obtain ⟨bs, dd, rfl⟩ := below_grow hb; clear hb))
      obtain ⟨w1, hw1⟩ : ∃ w1, w1 = (grow w.drew bs dd) := ⟨_, rfl⟩
      go_upto_region 3 with fail
      go_region_held3 (fun w' => w'.cell? ⟨b, 0, none⟩ = some (.int .i64 c.bt) ∧ w'.cell? ⟨b, 1, none⟩ = some (.int .i64 c.rw) ∧ w'.cell? ⟨b, 2, none⟩ = some (.int .i64 c.wd) ∧ w'.cell? ⟨b, 3, none⟩ = some (.int .i64 c.md) ∧ w'.cell? ⟨b, 4, none⟩ = some (.int .u64 c.sd) ∧ w'.cell? ⟨b, 5, none⟩ = some (.int .i64 l)) (first | (refine ⟨?_, ?_, ?_, ?_, ?_, ?_⟩ <;> (first | (with_reducible assumption) | (with_reducible refine cell_up c0 ?_) | (with_reducible refine cell_up c1 ?_) | (with_reducible refine cell_up c2 ?_) | (with_reducible refine cell_up c3 ?_) | (with_reducible refine cell_up c4 ?_) | (with_reducible refine cell_up c5 ?_)) <;> repeat' (first | (with_reducible exact Below.refl _ _) | (with_reducible assumption) | (with_reducible refine below_over ?_ _ _) | (with_reducible refine Lw.below_alloc ?_ _) | (with_reducible refine Below.drew ?_) | (with_reducible refine below_drewN ?_ _) | (with_reducible refine Below.setCell ?_ ?_ _) | go_size))) (first
        | (go_at_call 44; (with_reducible refine (CC.out _).mono ?_); rintro e w2 ⟨A, cap, rfl, h1, h2, h3, h4, hb⟩; have RD := Lib.hid h1; have HA : Hid (w.heap.size ≤ A.block) := Lib.hid (Nat.le_trans (Below.size (show Below w.heap.size w _ from (by repeat' (first | (with_reducible exact Below.refl _ _) | (with_reducible assumption) | (with_reducible refine below_over ?_ _ _) | (with_reducible refine Lw.below_alloc ?_ _) | (with_reducible refine Below.drew ?_) | (with_reducible refine below_drewN ?_ _) | (with_reducible refine Below.setCell ?_ ?_ _) | go_size)))) h4); have HB2 : Hid (Below w.heap.size w w2) := Lib.hid (below_call (show Below w.heap.size w _ from (by repeat' (first | (with_reducible exact Below.refl _ _) | (with_reducible assumption) | (with_reducible refine below_over ?_ _ _) | (with_reducible refine Lw.below_alloc ?_ _) | (with_reducible refine Below.drew ?_) | (with_reducible refine below_drewN ?_ _) | (with_reducible refine Below.setCell ?_ ?_ _) | go_size))) hb (Nat.le_refl _)); clear h1 h2 h3 h4 hb; have hbw2 := HB2.out))
      have s3 := cell_up c3 HB2.out
      have s6 := cell_up c6 HB2.out
      clear c0 c1 c2 c3 c4 c5 c6
      go_wp2_with (go_at_call 45; (with_reducible refine (CR.out A cap _ (dg_up HG.out (below_call HB2.out (by repeat' (first | (with_reducible exact Below.refl _ _) | (with_reducible assumption) | (with_reducible refine below_over ?_ _ _) | (with_reducible refine Lw.below_alloc ?_ _) | (with_reducible refine Below.drew ?_) | (with_reducible refine below_drewN ?_ _) | (with_reducible refine Below.setCell ?_ ?_ _) | go_size)) (Nat.le_refl _))) (RD.out.up (by repeat' (first | (with_reducible exact Below.refl _ _) | (with_reducible assumption) | (with_reducible refine below_over ?_ _ _) | (with_reducible refine Lw.below_alloc ?_ _) | (with_reducible refine Below.drew ?_) | (with_reducible refine below_drewN ?_ _) | (with_reducible refine Below.setCell ?_ ?_ _) | go_size))) (fun a ha hGa => by injection ha with ha; subst ha; have := GL.out _ hGa; have := HA.out; omega)).mono ?_); rintro e w6 ⟨rfl, G6, hp6, hk6, hf6⟩; have HK6 : Hid (Kept G w w6) := Lib.hid ((Kept.of_below (below_call HB2.out (by repeat' (first | (with_reducible exact Below.refl _ _) | (with_reducible assumption) | (with_reducible refine below_over ?_ _ _) | (with_reducible refine Lw.below_alloc ?_ _) | (with_reducible refine Below.drew ?_) | (with_reducible refine below_drewN ?_ _) | (with_reducible refine Below.setCell ?_ ?_ _) | go_size)) (Nat.le_refl _))).trans hk6 (fun q hq h => h)); have HP6 := Lib.hid hp6; have HF6 := Lib.hid hf6; clear hp6 hk6 hf6)
      all_goals go_ret
      all_goals exact ⟨rfl, HT.out _ _ _ HP6.out HK6.out (fun q hq => (HF6.out q hq).elim .inl (fun h => .inr (Nat.le_trans HB2.out.size h)))⟩
    · rw [if_neg hm, if_neg hm]
      have hmb : (c.md == 2) = false := by simpa using hm
      clear hm
      go_enter Try.func17, Try.ntmps17
      go_upto_region 1 with fail
      go_region_held3 (fun w' => w'.cell? ⟨b, 0, none⟩ = some (.int .i64 c.bt) ∧ w'.cell? ⟨b, 1, none⟩ = some (.int .i64 c.rw) ∧ w'.cell? ⟨b, 2, none⟩ = some (.int .i64 c.wd) ∧ w'.cell? ⟨b, 3, none⟩ = some (.int .i64 c.md) ∧ w'.cell? ⟨b, 4, none⟩ = some (.int .u64 c.sd) ∧ w'.cell? ⟨b, 5, none⟩ = some (.int .i64 l)) (first | (refine ⟨?_, ?_, ?_, ?_, ?_, ?_⟩ <;> (first | (with_reducible assumption) | (with_reducible refine cell_up c0 ?_) | (with_reducible refine cell_up c1 ?_) | (with_reducible refine cell_up c2 ?_) | (with_reducible refine cell_up c3 ?_) | (with_reducible refine cell_up c4 ?_) | (with_reducible refine cell_up c5 ?_)) <;> repeat' (first | (with_reducible exact Below.refl _ _) | (with_reducible assumption) | (with_reducible refine below_over ?_ _ _) | (with_reducible refine Lw.below_alloc ?_ _) | (with_reducible refine Below.drew ?_) | (with_reducible refine below_drewN ?_ _) | (with_reducible refine Below.setCell ?_ ?_ _) | go_size))) (first
        | (go_at_call 24; (with_reducible refine (CK.out _).mono ?_); rintro e w' ⟨rfl, hb⟩; obtain ⟨bs, dd, rfl⟩ := below_grow hb; clear hb))
      obtain ⟨w1, hw1⟩ : ∃ w1, w1 = (grow w.drew bs dd) := ⟨_, rfl⟩
      go_upto_region 3 with fail
      go_region_held3 (fun w' => w'.cell? ⟨b, 0, none⟩ = some (.int .i64 c.bt) ∧ w'.cell? ⟨b, 1, none⟩ = some (.int .i64 c.rw) ∧ w'.cell? ⟨b, 2, none⟩ = some (.int .i64 c.wd) ∧ w'.cell? ⟨b, 3, none⟩ = some (.int .i64 c.md) ∧ w'.cell? ⟨b, 4, none⟩ = some (.int .u64 c.sd) ∧ w'.cell? ⟨b, 5, none⟩ = some (.int .i64 l)) (first | (refine ⟨?_, ?_, ?_, ?_, ?_, ?_⟩ <;> (first | (with_reducible assumption) | (with_reducible refine cell_up c0 ?_) | (with_reducible refine cell_up c1 ?_) | (with_reducible refine cell_up c2 ?_) | (with_reducible refine cell_up c3 ?_) | (with_reducible refine cell_up c4 ?_) | (with_reducible refine cell_up c5 ?_)) <;> repeat' (first | (with_reducible exact Below.refl _ _) | (with_reducible assumption) | (with_reducible refine below_over ?_ _ _) | (with_reducible refine Lw.below_alloc ?_ _) | (with_reducible refine Below.drew ?_) | (with_reducible refine below_drewN ?_ _) | (with_reducible refine Below.setCell ?_ ?_ _) | go_size))) (first
        | (go_at_call 44; (with_reducible refine (CC.out _).mono ?_); rintro e w2 ⟨A, cap, rfl, h1, h2, h3, h4, hb⟩; have RD := Lib.hid h1; have HA : Hid (w.heap.size ≤ A.block) := Lib.hid (Nat.le_trans (Below.size (show Below w.heap.size w _ from (by repeat' (first | (with_reducible exact Below.refl _ _) | (with_reducible assumption) | (with_reducible refine below_over ?_ _ _) | (with_reducible refine Lw.below_alloc ?_ _) | (with_reducible refine Below.drew ?_) | (with_reducible refine below_drewN ?_ _) | (with_reducible refine Below.setCell ?_ ?_ _) | go_size)))) h4); have HB2 : Hid (Below w.heap.size w w2) := Lib.hid (below_call (show Below w.heap.size w _ from (by repeat' (first | (with_reducible exact Below.refl _ _) | (with_reducible assumption) | (with_reducible refine below_over ?_ _ _) | (with_reducible refine Lw.below_alloc ?_ _) | (with_reducible refine Below.drew ?_) | (with_reducible refine below_drewN ?_ _) | (with_reducible refine Below.setCell ?_ ?_ _) | go_size))) hb (Nat.le_refl _)); clear h1 h2 h3 h4 hb; have hbw2 := HB2.out))
      have s3 := cell_up c3 HB2.out
      have s6 := cell_up c6 HB2.out
      clear c0 c1 c2 c3 c4 c5 c6
      go_wp2_with (go_at_call 46; (with_reducible refine (CH.out A cap _ (dg_up HG.out (below_call HB2.out (by repeat' (first | (with_reducible exact Below.refl _ _) | (with_reducible assumption) | (with_reducible refine below_over ?_ _ _) | (with_reducible refine Lw.below_alloc ?_ _) | (with_reducible refine Below.drew ?_) | (with_reducible refine below_drewN ?_ _) | (with_reducible refine Below.setCell ?_ ?_ _) | go_size)) (Nat.le_refl _))) (RD.out.up (by repeat' (first | (with_reducible exact Below.refl _ _) | (with_reducible assumption) | (with_reducible refine below_over ?_ _ _) | (with_reducible refine Lw.below_alloc ?_ _) | (with_reducible refine Below.drew ?_) | (with_reducible refine below_drewN ?_ _) | (with_reducible refine Below.setCell ?_ ?_ _) | go_size))) (fun a ha hGa => by injection ha with ha; subst ha; have := GL.out _ hGa; have := HA.out; omega)).mono ?_); rintro e w6 ⟨rfl, G6, hp6, hk6, hf6⟩; have HK6 : Hid (Kept G w w6) := Lib.hid ((Kept.of_below (below_call HB2.out (by repeat' (first | (with_reducible exact Below.refl _ _) | (with_reducible assumption) | (with_reducible refine below_over ?_ _ _) | (with_reducible refine Lw.below_alloc ?_ _) | (with_reducible refine Below.drew ?_) | (with_reducible refine below_drewN ?_ _) | (with_reducible refine Below.setCell ?_ ?_ _) | go_size)) (Nat.le_refl _))).trans hk6 (fun q hq h => h)); have HP6 := Lib.hid hp6; have HF6 := Lib.hid hf6; clear hp6 hk6 hf6)
      all_goals go_ret
      all_goals exact ⟨rfl, HT.out _ _ _ HP6.out HK6.out (fun q hq => (HF6.out q hq).elim .inl (fun h => .inr (Nat.le_trans HB2.out.size h)))⟩
end Go.Proofs.Ythecgkgnngpikaa.Sk
/- The document's Inner, of two sketches of one config and level. Printed by wip/gen/rinn.py. -/
namespace Go.Proofs.Ythecgkgnngpikaa.Inn
open Go Go.RowKit Lw Grd Lin Con Shp Sk
set_option linter.unusedVariables false
set_option linter.unusedSimpArgs false
/-- What a sketch of the document lies in, cell for cell. -/
theorem _root_.Go.Proofs.Ythecgkgnngpikaa.Sk.DS.row {w : World} {p : Addr} {F : Nat → Prop} {c : Cfg} {l : Int} {L : List (List Int)} (h : DS w p F c l L) : ∃ (b gb : Nat) (gh : Addr) (cap : Nat), p = ⟨b, 0, none⟩ ∧ w.cell? ⟨b, 0, none⟩ = some (.int .i64 c.bt) ∧ w.cell? ⟨b, 1, none⟩ = some (.int .i64 c.rw) ∧ w.cell? ⟨b, 2, none⟩ = some (.int .i64 c.wd) ∧ w.cell? ⟨b, 3, none⟩ = some (.int .i64 c.md) ∧ w.cell? ⟨b, 4, none⟩ = some (.int .u64 c.sd) ∧ w.cell? ⟨b, 5, none⟩ = some (.int .i64 l) ∧ w.cell? ⟨b, 6, none⟩ = some (.pointer (some ⟨gb, 0, none⟩)) ∧ w.cell? ⟨gb, 0, none⟩ = some (.slice (some gh) (rws c) cap) ∧ rws c ≤ cap ∧ ∀ (r : Nat) xs, L[r]? = some xs → ∃ (rb rc : Nat), w.cell? (gh.add r) = some (.slice (some ⟨rb, 0, none⟩) (wds c) rc) ∧ Rd .i64 w (some ⟨rb, 0, none⟩) xs ∧ xs.length = wds c ∧ In64 xs := by
  obtain ⟨hr, hok, hl0, hl1, b, gp, G, rfl, hb, ⟨gb, hdr, R, rfl, hg, rfl, hG, hd⟩, hGb, rfl⟩ := h
  obtain ⟨A, cap, rfl, hcap, hA, hrow⟩ := hg.hd
  have hlen : R.length = rws c := by have := hd.len; rwa [nums_len] at this
  have hpos := (rws_bd hr).1
  cases A with
  | none => have := hA rfl; omega
  | some gh =>
    refine ⟨b, gb, gh, cap, rfl, grd_cell hb 0 rfl, grd_cell hb 1 rfl, grd_cell hb 2 rfl, grd_cell hb 3 rfl, grd_cell hb 4 rfl, grd_cell hb 5 rfl, grd_cell hb 6 rfl, by rw [← hlen]; exact grd_cell hg.cell 0 rfl, by omega, fun r xs hx => ?_⟩
    unfold nums at hx
    rw [List.getElem?_map] at hx
    cases hr2 : R[r]? with
    | none => rw [hr2] at hx; cases hx
    | some ro =>
      rw [hr2] at hx
      injection hx with hx
      subst hx
      have hm := List.mem_of_getElem? hr2
      obtain ⟨ad, had, hc⟩ := hrow r ro hr2
      injection had with had
      subst had
      have hdr := hd.rows ro.2.2 (nums_mem hm)
      refine ⟨ro.1, ro.2.1, ?_, fun j v hv => ⟨_, rfl, hg.numAt hm hv⟩, hdr.1, hdr.2⟩
      rw [hc]
      unfold rowHd
      rw [hdr.1]
theorem lmin_take0 (zs : List Int) : lmin (zs.take 0) = 0 := by simp [lmin]
set_option maxRecDepth 100000 in
set_option maxHeartbeats 8000000 in
theorem rinner_mode (p : Addr) (F : Nat → Prop) (c : Cfg) (l : Int) (L : List (List Int)) (q : Addr) (G : Nat → Prop) (M : List (List Int)) (w : World) (h : DS w p F c l L) (g : DS w q G c l M) (hm : c.md ≠ 1) :
    Calls Try.prog 19 #[.pointer (some p), .pointer (some q)] w fun e w' => e = .returned (.tuple #[.agg #[.int .i64 0, .int .u64 0], .int .i64 3]) ∧ Below w.heap.size w w' := by
  obtain ⟨b, gb, gh, cap, rfl, c0w, c1w, c2w, c3w, c4w, c5w, c6w, c7w, hcap, RL⟩ := h.row
  obtain ⟨b2, gb2, gh2, cap2, rfl, e0w, e1w, e2w, e3w, e4w, e5w, e6w, e7w, hcap2, RM⟩ := g.row
  have hmf : (c.md != 1) = true := by simpa using hm
  clear RL RM h g hm
  have HBX : Hid (Have w (w.alloc (.cells #[.int .i64 0, .int .u64 0] 26)) [boxT w.heap.size 26 #[.int .i64 0, .int .u64 0]]) := Lib.hid (box_new w _ _)
  go_enter Try.func19, Try.ntmps19
  go_upto_region 1 with fail
  obtain ⟨w1, hw1⟩ : ∃ w1, w1 = w.alloc (.cells #[.int .i64 0, .int .u64 0] 26) := ⟨_, rfl⟩
  have HV1 : Hid (Have w w1 [boxT w.heap.size 26 #[.int .i64 0, .int .u64 0]]) := Lib.hid (by rw [hw1]; exact HBX.out)
  have c0 := cell_up c0w HV1.out.below
  have c1 := cell_up c1w HV1.out.below
  have c2 := cell_up c2w HV1.out.below
  have c3 := cell_up c3w HV1.out.below
  have c4 := cell_up c4w HV1.out.below
  have c5 := cell_up c5w HV1.out.below
  have e0 := cell_up e0w HV1.out.below
  have e1 := cell_up e1w HV1.out.below
  have e2 := cell_up e2w HV1.out.below
  have e3 := cell_up e3w HV1.out.below
  have e4 := cell_up e4w HV1.out.below
  have e5 := cell_up e5w HV1.out.below
  have c6 := cell_up c6w HV1.out.below
  have c7 := cell_up c7w HV1.out.below
  have e6 := cell_up e6w HV1.out.below
  have e7 := cell_up e7w HV1.out.below
  have hs1 : w1.heap.size = w.heap.size + 1 := by rw [hw1]; simp
  rw [← hw1]
  clear hw1 HBX
  go_quiet (fail)
  all_goals (obtain ⟨r0, r1⟩ := box2 HV1.out.i0)
  all_goals (have q0 := boxs_frozen HV1.out.i0 0)
  all_goals (have q1 := boxs_frozen HV1.out.i0 1)
  all_goals (have hbw := HV1.out.below)
  all_goals go_wp2
  all_goals refine bodyPost_ret (v := .tuple #[.agg #[.int .i64 0, .int .u64 0], .int .i64 3]) (by simp [results, Try.results19, go_sem, r0, r1, q0, q1]) rfl ?_
  all_goals exact ⟨rfl, (by repeat' (first | (with_reducible exact Below.refl _ _) | (with_reducible assumption) | (with_reducible refine below_over ?_ _ _) | (with_reducible refine Lw.below_alloc ?_ _) | (with_reducible refine Below.drew ?_) | (with_reducible refine below_drewN ?_ _) | (with_reducible refine Below.setCell ?_ ?_ _) | go_size))⟩
set_option maxRecDepth 100000 in
set_option maxHeartbeats 8000000 in
theorem rinner_lin (p : Addr) (F : Nat → Prop) (c : Cfg) (l : Int) (L : List (List Int)) (q : Addr) (G : Nat → Prop) (M : List (List Int)) (w : World) (h : DS w p F c l L) (g : DS w q G c l M) (hL : L.length = rws c) (hM : M.length = rws c) (hmd : c.md = 1) :
    Calls Try.prog 19 #[.pointer (some p), .pointer (some q)] w fun e w' => e = .returned (.tuple #[.agg #[.int .i64 (Wid.fh (inVal c c l l L M)), .int .u64 (Wid.fl (inVal c c l l L M))], .int .i64 (inCode c c l l L M)]) ∧ Below w.heap.size w w' := by
  have hr := h.1
  have hrw := rws_bd hr
  have hwd := wds_bd hr
  obtain ⟨b, gb, gh, cap, rfl, c0w, c1w, c2w, c3w, c4w, c5w, c6w, c7w, hcap, RL⟩ := h.row
  obtain ⟨b2, gb2, gh2, cap2, rfl, e0w, e1w, e2w, e3w, e4w, e5w, e6w, e7w, hcap2, RM⟩ := g.row
  have IY : Hid (oks L M = true → inCode c c l l L M = 0 ∧ inVal c c l l L M = lmin (dots L M)) := Lib.hid (fun ho => in_yes hmd ho)
  have IO : Hid (oks L M = false → inCode c c l l L M = 4 ∧ inVal c c l l L M = 0) := Lib.hid (fun ho => in_over hmd ho)
  have HLL := Lib.hid (And.intro hL hM)
  have HRL := Lib.hid RL
  have HRM := Lib.hid RM
  obtain ⟨m, hmm⟩ : ∃ m, rws c = m := ⟨_, rfl⟩
  obtain ⟨n, hnn⟩ : ∃ n, wds c = n := ⟨_, rfl⟩
  rw [hmm] at hrw HLL c7w e7w
  rw [hnn] at hwd HRL HRM
  have hm8 : 1 ≤ m ∧ m ≤ 8 := ⟨hrw.1, hrw.2.1⟩
  have hn8 : 1 ≤ n ∧ n ≤ 128 := ⟨hwd.1, hwd.2.1⟩
  obtain ⟨RV, hRV⟩ : ∃ v, inVal c c l l L M = v := ⟨_, rfl⟩
  obtain ⟨RC, hRC⟩ : ∃ v, inCode c c l l L M = v := ⟨_, rfl⟩
  rw [hRV, hRC] at IY IO ⊢
  have hmf : (c.md != 1) = false := by simp [hmd]
  have C6 := Lib.hid c6w
  have C7 := Lib.hid c7w
  have E6 := Lib.hid e6w
  have E7 := Lib.hid e7w
  clear hRV hRC hmm hnn hr h g hmd hrw hwd RL RM hL hM hcap hcap2
  have HBX : Hid (Have w (w.alloc (.cells #[.int .i64 0, .int .u64 0] 26)) [boxT w.heap.size 26 #[.int .i64 0, .int .u64 0]]) := Lib.hid (box_new w _ _)
  go_enter Try.func19, Try.ntmps19
  go_upto_region 1 with fail
  obtain ⟨w1, hw1⟩ : ∃ w1, w1 = w.alloc (.cells #[.int .i64 0, .int .u64 0] 26) := ⟨_, rfl⟩
  have HV1 : Hid (Have w w1 [boxT w.heap.size 26 #[.int .i64 0, .int .u64 0]]) := Lib.hid (by rw [hw1]; exact HBX.out)
  have c0 := cell_up c0w HV1.out.below
  have c1 := cell_up c1w HV1.out.below
  have c2 := cell_up c2w HV1.out.below
  have c3 := cell_up c3w HV1.out.below
  have c4 := cell_up c4w HV1.out.below
  have c5 := cell_up c5w HV1.out.below
  have e0 := cell_up e0w HV1.out.below
  have e1 := cell_up e1w HV1.out.below
  have e2 := cell_up e2w HV1.out.below
  have e3 := cell_up e3w HV1.out.below
  have e4 := cell_up e4w HV1.out.below
  have e5 := cell_up e5w HV1.out.below
  have c6 := cell_up c6w HV1.out.below
  have c7 := cell_up c7w HV1.out.below
  have e6 := cell_up e6w HV1.out.below
  have e7 := cell_up e7w HV1.out.below
  have hs1 : w1.heap.size = w.heap.size + 1 := by rw [hw1]; simp
  rw [← hw1]
  clear hw1 HBX
  go_quiet (fail)
  go_wp2
  have HV2 : Hid (Have w (w1.alloc (.cells #[.int .i64 0, .int .u64 0] 26)) [boxT (w.heap.size + 1) 26 #[.int .i64 0, .int .u64 0], boxT w.heap.size 26 #[.int .i64 0, .int .u64 0]]) := Lib.hid (by
    have h2 := HV1.out.push (boxT w1.heap.size 26 #[.int .i64 0, .int .u64 0]) (Lw.below_alloc (Below.refl _ _) _) (heap_alloc_new w1 _) (fun k hk => Nat.le_of_eq hk.symm)
    rw [hs1] at h2
    exact h2)
  clear c0 c1 c2 c3 c4 c5 e0 e1 e2 e3 e4 e5 c6 c7 e6 e7
  go_loopw [7] (fun iv wr => ∃ (k : Nat), k ≤ m ∧ iv = .int .i64 k ∧ (∀ j xs ys, j < k → L[j]? = some xs → M[j]? = some ys → dok xs ys = true) ∧ Have w wr [boxT (w.heap.size + 1) 26 #[.int .i64 (Wid.fh (lmin ((dots L M).take k))), .int .u64 (Wid.fl (lmin ((dots L M).take k)))], boxT w.heap.size 26 #[.int .i64 0, .int .u64 0]]) (fun iv _ => m - (intOf iv).toNat)
  case atStart => exact ⟨0, Nat.zero_le _, rfl, fun j xs ys hj => by omega, by rw [lmin_take0, (show Wid.fh 0 = 0 by decide), (show Wid.fl 0 = 0 by decide)]; exact HV2.out.up (by repeat' (first | (with_reducible exact Below.refl _ _) | (with_reducible assumption) | (with_reducible refine below_over ?_ _ _) | (with_reducible refine Lw.below_alloc ?_ _) | (with_reducible refine Below.drew ?_) | (with_reducible refine below_drewN ?_ _) | (with_reducible refine Below.setCell ?_ ?_ _) | go_size))⟩
  case round =>
    obtain ⟨k, hk, rfl, hok, hv⟩ := hrel
    have HV := Lib.hid hv
    have HOK := Lib.hid hok
    have HB := Lib.hid hv.below
    clear hv hok
    obtain ⟨l0, l1⟩ := box2 HV.out.i0
    obtain ⟨r0, r1⟩ := box2 HV.out.i1
    have q0 := boxs_frozen HV.out.i1 0
    have q1 := boxs_frozen HV.out.i1 1
    have c6 := cell_up C6.out HB.out
    have c7 := cell_up C7.out HB.out
    have hgl := box_lt HV.out.i0
    have hsz := box_lt HV.out.i1
    have lz1 := lt_sz hgl
    have lz2 := lt_sz hsz
    by_cases hlt : k < m
    · have hkm : (k : Int) < m := by omega
      obtain ⟨xs, hxs⟩ : ∃ xs, L[k]? = some xs := ⟨_, List.getElem?_eq_getElem (by rw [HLL.out.1]; exact hlt)⟩
      obtain ⟨ys, hys⟩ : ∃ ys, M[k]? = some ys := ⟨_, List.getElem?_eq_getElem (by rw [HLL.out.2]; exact hlt)⟩
      obtain ⟨rb, rc, x0w, xr, x2, x3⟩ := HRL.out k xs hxs
      obtain ⟨rb2, rc2, y0w, yr, y2, y3⟩ := HRM.out k ys hys
      have CD : Hid (∀ w', Below wr.heap.size wr w' → Calls Try.prog 12 #[.slice (some ⟨rb, 0, none⟩) n rc, .slice (some ⟨rb2, 0, none⟩) n rc2] w' fun e w2 => e = .returned (.tuple #[.agg #[.int .i64 (dhi xs ys), .int .u64 (dlo xs ys)], .bool (dok xs ys)]) ∧ Below w'.heap.size w' w2) := Lib.hid (fun w' hb => rdot_any _ _ n n rc rc2 xs ys w' ((xr.up HB.out).up hb) ((yr.up HB.out).up hb) x2 y2 (by omega) x3 y3)
      have x0 := cell_up x0w HB.out
      have y0 := cell_up y0w HB.out
      have e6 := cell_up E6.out HB.out
      have e7 := cell_up E7.out HB.out
      have HD : Hid (dok xs ys = true → dhi xs ys = Wid.fh (dsum xs ys) ∧ dlo xs ys = Wid.fl (dsum xs ys) ∧ Wid.fit (dsum xs ys) = true) := Lib.hid (fun ho => by
        refine ⟨if_pos ho, if_pos ho, ?_⟩
        have hd := dok_fit ho
        have h3 := hd.2 xs.length (Nat.le_refl _)
        rwa [dp_all (Nat.le_refl _) (by rw [← hd.1]; exact Nat.le_refl _)] at h3)
      have HO : Hid (dok xs ys = false → oks L M = false) := Lib.hid (fun ho => oks_no hxs hys ho)
      have HZ : Hid ((dots L M)[k]? = some (dsum xs ys)) := Lib.hid (dots_get hxs hys)
      have HX := Lib.hid (And.intro hxs hys)
      obtain ⟨ph, hph⟩ : ∃ v, dhi xs ys = v := ⟨_, rfl⟩
      obtain ⟨pl, hpl⟩ : ∃ v, dlo xs ys = v := ⟨_, rfl⟩
      obtain ⟨bb, hbb⟩ : ∃ v, dok xs ys = v := ⟨_, rfl⟩
      obtain ⟨z, hz⟩ : ∃ v, dsum xs ys = v := ⟨_, rfl⟩
      rw [hph, hpl, hbb] at CD
      rw [hph, hpl, hbb, hz] at HD
      rw [hbb] at HO
      rw [hz] at HZ
      have HBB := Lib.hid hbb
      obtain ⟨v, hv⟩ : ∃ v, lmin ((dots L M).take k) = v := ⟨_, rfl⟩
      have HVV := Lib.hid hv
      rw [hv] at l0 l1
      clear hph hpl hbb hz hxs hys x0w y0w xr yr x2 x3 y2 y3 hv
      go_upto_region 9 with fail
      go_cut [8, 9] (fun s8 s9 wx => ∃ gp : Nat, s8 = .pointer (some ⟨gp, 0, none⟩) ∧ s9 = .bool bb ∧ wr.heap.size ≤ gp ∧ Below wr.heap.size wr wx ∧ wx.heap[gp]? = some (.cells #[.int .i64 ph, .int .u64 pl] 26 (0, 0)))
      case first =>
        go_region_held3 (fun w' => w'.cell? ⟨b, 6, none⟩ = some (.pointer (some ⟨gb, 0, none⟩)) ∧ w'.cell? ⟨gb, 0, none⟩ = some (.slice (some gh) m cap) ∧ w'.cell? (gh.add k) = some (.slice (some ⟨rb, 0, none⟩) n rc) ∧ w'.cell? ⟨b2, 6, none⟩ = some (.pointer (some ⟨gb2, 0, none⟩)) ∧ w'.cell? ⟨gb2, 0, none⟩ = some (.slice (some gh2) m cap2) ∧ w'.cell? (gh2.add k) = some (.slice (some ⟨rb2, 0, none⟩) n rc2)) (first | (refine ⟨?_, ?_, ?_, ?_, ?_, ?_⟩ <;> (first | (with_reducible assumption) | (with_reducible refine cell_up c6 ?_) | (with_reducible refine cell_up c7 ?_) | (with_reducible refine cell_up x0 ?_) | (with_reducible refine cell_up e6 ?_) | (with_reducible refine cell_up e7 ?_) | (with_reducible refine cell_up y0 ?_)) <;> repeat' (first | (with_reducible exact Below.refl _ _) | (with_reducible assumption) | (with_reducible refine below_over ?_ _ _) | (with_reducible refine Lw.below_alloc ?_ _) | (with_reducible refine Below.drew ?_) | (with_reducible refine below_drewN ?_ _) | (with_reducible refine Below.setCell ?_ ?_ _) | go_size))) (first
          | (go_at_call 12; (with_reducible refine (CD.out _ (by repeat' (first | (with_reducible exact Below.refl _ _) | (with_reducible assumption) | (with_reducible refine below_over ?_ _ _) | (with_reducible refine Lw.below_alloc ?_ _) | (with_reducible refine Below.drew ?_) | (with_reducible refine below_drewN ?_ _) | (with_reducible refine Below.setCell ?_ ?_ _) | go_size))).mono ?_); rintro e w' ⟨rfl, hb⟩; obtain ⟨bs3, d3, rfl⟩ := below_grow hb; clear hb))
        all_goals go_wp2_with fail
        all_goals go_meet
        all_goals refine ⟨_, rfl, rfl, by omega, (by repeat' (first | (with_reducible exact Below.refl _ _) | (with_reducible assumption) | (with_reducible refine below_over ?_ _ _) | (with_reducible refine Lw.below_alloc ?_ _) | (with_reducible refine Below.drew ?_) | (with_reducible refine below_drewN ?_ _) | (with_reducible refine Below.setCell ?_ ?_ _) | go_size)), ?_⟩
        all_goals first | exact alloc_at (by simp) | exact grow_heap (alloc_at (by simp)) _ _
      case rest =>
        obtain ⟨gp, rfl, rfl, hgp, hbx, hpb⟩ := hcut
        have HVc := Lib.hid (HV.out.up hbx)
        have hpb2 : (boxT gp 26 #[.int .i64 ph, .int .u64 pl]).I wc := hpb
        obtain ⟨t0, t1⟩ := box2 hpb2
        have hgp2 := box_lt hpb2
        clear l0 l1 r0 r1 q0 q1 hgl hsz lz1 lz2 CD hpb hpb2 HV c6 c7 e6 e7 x0 y0
        have hgl := box_lt HVc.out.i0
        have hsz := box_lt HVc.out.i1
        obtain ⟨l0, l1⟩ := box2 HVc.out.i0
        rw [HVV.out] at l0 l1
        have f0 := boxs_frozen HVc.out.i0 0
        have f1 := boxs_frozen HVc.out.i0 1
        obtain ⟨r0, r1⟩ := box2 HVc.out.i1
        have q0 := boxs_frozen HVc.out.i1 0
        have q1 := boxs_frozen HVc.out.i1 1
        have hbc := HVc.out.below
        clear hbx
        cases bb with
        | false =>
          have HN2 := Lib.hid (IO.out (HO.out rfl))
          go_wp2
          refine bodyPost_ret (v := .tuple #[.agg #[.int .i64 0, .int .u64 0], .int .i64 4]) (by simp [results, Try.results19, go_sem, r0, r1, q0, q1]) rfl ?_
          exact ⟨by rw [HN2.out.1, HN2.out.2]; rfl, (by repeat' (first | (with_reducible exact Below.refl _ _) | (with_reducible assumption) | (with_reducible refine below_over ?_ _ _) | (with_reducible refine Lw.below_alloc ?_ _) | (with_reducible refine Below.drew ?_) | (with_reducible refine below_drewN ?_ _) | (with_reducible refine Below.setCell ?_ ?_ _) | go_size))⟩
        | true =>
          obtain ⟨rfl, rfl, hfz⟩ := HD.out rfl
          have hzb := fit_bd hfz
          have hvz := Wid.vl_fit z hzb.1 hzb.2
          have hfv : Wid.fit v = true := by
            rw [← HVV.out]
            by_cases hk0 : k = 0
            · rw [hk0, lmin_take0]; decide
            · exact lmin_fit (by omega) (by rw [HLL.out.1]; omega) (by rw [HLL.out.2]; omega) HOK.out
          have hvb := fit_bd hfv
          have hvv := Wid.vl_fit v hvb.1 hvb.2
          have CO1 := Lib.hid (fun w => Wid.rof_any (Wid.fh z) (Wid.fl z) w (Wid.fh_bd z).1 (Wid.fh_bd z).2 (Wid.fl_bd z).1 (Wid.fl_bd z).2)
          have CO2 := Lib.hid (fun w => Wid.rof_any (Wid.fh v) (Wid.fl v) w (Wid.fh_bd v).1 (Wid.fh_bd v).2 (Wid.fl_bd v).1 (Wid.fl_bd v).2)
          have CMN := Lib.hid (fun w => Wid.rminus_any v _ _ _ _ _ _ _ _ _ _ w rfl)
          have CPL := Lib.hid (fun w => Wid.rplus_any z (-v) _ _ _ _ _ _ _ _ _ _ _ _ _ _ _ _ _ _ _ _ w rfl rfl)
          have CBW := Lib.hid (fun w => Wid.rbelow_any (Wid.dg (z + -v) 0) (Wid.dg (z + -v) 1) (Wid.dg (z + -v) 2) (Wid.dg (z + -v) 3) (Wid.dg (z + -v) 4) (Wid.dg (z + -v) 5) (Wid.dg (z + -v) 6) (Wid.dg (z + -v) 7) (Wid.dg (z + -v) 8) (Wid.dg (z + -v) 9) w)
          rw [hvz] at CO1
          rw [hvv] at CO2
          rw [Wid.below_dg (z + -v) (by omega) (by omega)] at CBW
          obtain ⟨zv, hzv⟩ : ∃ zv, decide (z + -v < 0) = zv := ⟨_, rfl⟩
          rw [hzv] at CBW
          have HNX : Hid (((k : Int) == 0) = true ∨ zv = true → lmin ((dots L M).take (k + 1)) = z) := Lib.hid (fun ho => by
            by_cases hk0 : k = 0
            · rw [hk0]
              have h9 := HZ.out
              rw [hk0] at h9
              exact lmin_one h9
            · have hnx := lmin_next HZ.out (by omega)
              rw [HVV.out] at hnx
              rw [hnx]
              have h2 : z + -v < 0 := by
                rcases ho with ho | ho
                · simp at ho; omega
                · rw [ho] at hzv; exact of_decide_eq_true hzv
              omega)
          have HNO : Hid (((k : Int) == 0) = false → zv = false → lmin ((dots L M).take (k + 1)) = v) := Lib.hid (fun h1 h2 => by
            have hnx := lmin_next HZ.out (by simp at h1; omega)
            rw [HVV.out] at hnx
            rw [hnx]
            rw [h2] at hzv
            have := of_decide_eq_false hzv
            omega)
          have hrelk : ∀ j xs2 ys2, j < k + 1 → L[j]? = some xs2 → M[j]? = some ys2 → dok xs2 ys2 = true := fun j xs2 ys2 hj h1 h2 => by
            by_cases hjk : j < k
            · exact HOK.out j xs2 ys2 hjk h1 h2
            · obtain rfl : j = k := by omega
              rw [HX.out.1] at h1
              rw [HX.out.2] at h2
              injection h1 with h1
              injection h2 with h2
              subst h1 h2
              exact HBB.out
          have HRK := Lib.hid hrelk
          clear hvz hzb hfz hvb hvv hfv hzv hrelk
          obtain ⟨K0, hK0⟩ : ∃ K0, ((k : Int) == 0) = K0 := ⟨_, rfl⟩
          rw [hK0] at HNX HNO
          go_upto_region 12 with fail
          go_region_held3 (fun w' => w'.cell? ⟨gp, 0, none⟩ = some (.int .i64 (Wid.fh z)) ∧ w'.cell? ⟨gp, 1, none⟩ = some (.int .u64 (Wid.fl z)) ∧ w'.cell? ⟨w.heap.size + 1, 0, none⟩ = some (.int .i64 (Wid.fh v)) ∧ w'.cell? ⟨w.heap.size + 1, 1, none⟩ = some (.int .u64 (Wid.fl v))) (first | (refine ⟨?_, ?_, ?_, ?_⟩ <;> (first | (with_reducible assumption) | (with_reducible refine cell_up t0 ?_) | (with_reducible refine cell_up t1 ?_) | (with_reducible refine cell_up l0 ?_) | (with_reducible refine cell_up l1 ?_)) <;> repeat' (first | (with_reducible exact Below.refl _ _) | (with_reducible assumption) | (with_reducible refine below_over ?_ _ _) | (with_reducible refine Lw.below_alloc ?_ _) | (with_reducible refine Below.drew ?_) | (with_reducible refine below_drewN ?_ _) | (with_reducible refine Below.setCell ?_ ?_ _) | go_size))) (first
            | (go_at_call 27; (with_reducible refine (CO1.out _).mono ?_); rintro e w' ⟨rfl, hb⟩; obtain ⟨bs4, d4, rfl⟩ := below_grow hb; clear hb)
            | (go_at_call 27; (with_reducible refine (CO2.out _).mono ?_); rintro e w' ⟨rfl, hb⟩; obtain ⟨bs5, d5, rfl⟩ := below_grow hb; clear hb)
            | (go_at_call 51; (with_reducible refine (CMN.out _).mono ?_); rintro e w' ⟨rfl, hb⟩; obtain ⟨bs6, d6, rfl⟩ := below_grow hb; clear hb)
            | (go_at_call 35; (with_reducible refine (CPL.out _).mono ?_); rintro e w' ⟨rfl, hb⟩; obtain ⟨bs7, d7, rfl⟩ := below_grow hb; clear hb)
            | (go_at_call 26; (with_reducible refine (CBW.out _).mono ?_); rintro e w' ⟨rfl, hb⟩; obtain ⟨bs8, d8, rfl⟩ := below_grow hb; clear hb))
          all_goals cases K0 <;> cases zv
          all_goals go_wp2
          all_goals go_roundw
          all_goals first
            | (refine ⟨k + 1, by omega, by go_num, HRK.out, ?_⟩; first
                | (first | rw [HNX.out (.inl rfl)] | rw [HNX.out (.inr rfl)]
                   exact ((HVc.out.up (by repeat' (first | (with_reducible exact Below.refl _ _) | (with_reducible assumption) | (with_reducible refine below_over ?_ _ _) | (with_reducible refine Lw.below_alloc ?_ _) | (with_reducible refine Below.drew ?_) | (with_reducible refine below_drewN ?_ _) | (with_reducible refine Below.setCell ?_ ?_ _) | go_size))).turn_0 (boxT (w.heap.size + 1) 26 #[.int .i64 (Wid.fh (z)), .int .u64 (Wid.fl (z))]) (store2 (HVc.out.up (by repeat' (first | (with_reducible exact Below.refl _ _) | (with_reducible assumption) | (with_reducible refine below_over ?_ _ _) | (with_reducible refine Lw.below_alloc ?_ _) | (with_reducible refine Below.drew ?_) | (with_reducible refine below_drewN ?_ _) | (with_reducible refine Below.setCell ?_ ?_ _) | go_size))).i0 _ _) (kept2 _ _ _ _) (fun k hk => .inl hk)).up (by repeat' (first | (with_reducible exact Below.refl _ _) | (with_reducible assumption) | (with_reducible refine below_over ?_ _ _) | (with_reducible refine Lw.below_alloc ?_ _) | (with_reducible refine Below.drew ?_) | (with_reducible refine below_drewN ?_ _) | (with_reducible refine Below.setCell ?_ ?_ _) | go_size)))
                | (rw [HNO.out rfl rfl]; rw [HVV.out] at HVc; exact HVc.out.up (by repeat' (first | (with_reducible exact Below.refl _ _) | (with_reducible assumption) | (with_reducible refine below_over ?_ _ _) | (with_reducible refine Lw.below_alloc ?_ _) | (with_reducible refine Below.drew ?_) | (with_reducible refine below_drewN ?_ _) | (with_reducible refine Below.setCell ?_ ?_ _) | go_size))))
            | (simp [intOf]; omega)
    · have e : k = m := by omega
      subst e
      have hok : oks L M = true := oks_yes (by rw [HLL.out.1, HLL.out.2]) (fun j xs ys h1 h2 => HOK.out j xs ys (by have := (List.getElem?_eq_some_iff.1 h1).1; rw [HLL.out.1] at this; exact this) h1 h2)
      have HN2 := Lib.hid (IY.out hok)
      have hfull : (dots L M).take k = dots L M := List.take_of_length_le (by unfold dots; rw [List.length_zipWith, HLL.out.1]; omega)
      rw [hfull, ← HN2.out.2] at l0 l1
      obtain ⟨a0, ha0⟩ : ∃ v, Wid.fh RV = v := ⟨_, rfl⟩
      obtain ⟨a1, ha1⟩ : ∃ v, Wid.fl RV = v := ⟨_, rfl⟩
      rw [ha0] at l0
      rw [ha1] at l1
      have HA := Lib.hid (And.intro ha0 ha1)
      clear hok hfull ha0 ha1
      go_wp2
      refine bodyPost_ret (v := .tuple #[.agg #[.int .i64 a0, .int .u64 a1], .int .i64 0]) (by simp [results, Try.results19, go_sem, r0, r1, q0, q1]) rfl ?_
      have hbc := HB.out
      exact ⟨by rw [HN2.out.1, HA.out.1, HA.out.2], (by repeat' (first | (with_reducible exact Below.refl _ _) | (with_reducible assumption) | (with_reducible refine below_over ?_ _ _) | (with_reducible refine Lw.below_alloc ?_ _) | (with_reducible refine Below.drew ?_) | (with_reducible refine below_drewN ?_ _) | (with_reducible refine Below.setCell ?_ ?_ _) | go_size))⟩
end Go.Proofs.Ythecgkgnngpikaa.Inn
