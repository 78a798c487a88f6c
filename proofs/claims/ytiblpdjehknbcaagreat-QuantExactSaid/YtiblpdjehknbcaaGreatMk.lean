/- Texts that the statements of this seat lean on, put together: LevLoad, Lvl, Lrow, Cel, StkDef, SpnMath, QntMath, QntArr, SpnAdd, StkCut, StkHas, SpnBtw, StkThing, SpnIn. -/
import Derived.Test.YtiblpdjehknbcaaGreatMa
import Derived.Test.YtiblpdjehknbcaaGreatMb
import Derived.Test.YtiblpdjehknbcaaGreatMf
import Derived.Test.YtiblpdjehknbcaaGreatMg
import Derived.Test.YtiblpdjehknbcaaGreatMh
import Derived.Test.YtiblpdjehknbcaaGreatMi
import Derived.Test.YtiblpdjehknbcaaGreatMj
import Derived.Deep.LoopGhost
import Derived.Deep.RegionHeld3
import Derived.Deep.DeepCutAuto
import Derived.Deep.QuietTactic
import Derived.BigQuiet
import Derived.RangeFuncNested
import Derived.RangeFuncBound
import Derived.RangeFuncCalls
import Derived.RangeFuncLeaves
import Derived.Deep.MidRow
import Derived.Deep.WholeRow
import Derived.Laws.EntriesVeiled
/- The walk of gaugerref13's Load. Printed by wip/gen/levload.py. -/
namespace Go.Proofs.YtiblpdjehknbcaaGreat.Lev
open Go Go.RowKit Lw Grd Lin Con Shp Sk Exa
set_option linter.unusedVariables false
set_option linter.unusedSimpArgs false
set_option maxRecDepth 100000 in
set_option maxHeartbeats 4000000 in
theorem lload_A (p : Addr) (F : Nat → Prop) (c : Cfg) (l : Int) (L : List Int) (ad : Addr) (n capz : Nat) (zs : List Int) (w : World) (h : DLA w p F c l L) (hrd : Rd .i64 w (some ad) zs) (hl : zs.length = n) (hz : In64 zs) (hn : n ≤ 128) :
    Calls Tryz.prog 19 #[.pointer (some p), .slice (some ad) n capz] w fun e w' => e = .returned (.tuple #[]) ∧ ∃ F', DLA w' p F' c l zs ∧ Kept F w w' ∧ (∀ k, F' k → F k ∨ w.heap.size ≤ k) := by
  obtain ⟨i0, hi, hz0, hz1, hz2⟩ := info_parts Exa.i64_info
  obtain ⟨a, G, b, rfl, hb, ht, hnb, rfl⟩ := h
  have c0 := grd_cell hb 0 (v := .pointer (some a)) rfl
  obtain ⟨h1, h2, h3, ba, g, cap, rfl, hba, hm, h4, h5, h6, rfl⟩ := daI ht
  have f6 := grd_cell hba 6 (v := .slice (some ⟨g, 0, none⟩) L.length cap) rfl
  have hne1 : ¬ b = ba := fun e => hnb (.inl e)
  have hne2 : ¬ ba = b := fun e => hne1 e.symm
  have hbl := size_of_heap hb
  have hal := size_of_heap hba
  have HRD := Lib.hid hrd
  have HBA := Lib.hid hba
  have HFZ : Hid (∀ w', Below w.heap.size w w' → w'.frozen? ⟨ba, 6, none⟩ = false) := Lib.hid (fun w' hbw => by
    have := (Kept.of_below (F := fun _ => False) hbw).heap HBA.out (fun h => h)
    exact boxs_frozen (e := 103) (vs := #[.int .i64 c.bt, .int .i64 c.rw, .int .i64 c.wd, .int .i64 c.md, .int .u64 c.sd, .int .i64 l, .slice (some ⟨g, 0, none⟩) L.length cap]) this 6)
  have HT : Hid (∀ w' g4 cap4, Below w.heap.size w w' → Ord.Mid w' g4 0 zs → w.heap.size ≤ g4 → n ≤ cap4 → cap4 ≤ maxLen → ∃ F', DLA (w'.setCell ⟨ba, 6, none⟩ (.slice (some ⟨g4, 0, none⟩) n cap4)) ⟨b, 0, none⟩ F' c l zs ∧ Kept (fun k => k = b ∨ (daT ⟨ba, 0, none⟩ (fun k => k = ba ∨ k = g) c l L).F k) w (w'.setCell ⟨ba, 6, none⟩ (.slice (some ⟨g4, 0, none⟩) n cap4)) ∧ (∀ q, F' q → (q = b ∨ (daT ⟨ba, 0, none⟩ (fun k => k = ba ∨ k = g) c l L).F q) ∨ w.heap.size ≤ q)) := Lib.hid (fun w' g4 cap4 hbw hm4 hg4 hc1 hc2 => by
    have hB := (Kept.of_below (F := fun _ => False) hbw).heap HBA.out (fun h => h)
    have hs := boxs_set (e := 103) (vs := #[.int .i64 c.bt, .int .i64 c.rw, .int .i64 c.wd, .int .i64 c.md, .int .u64 c.sd, .int .i64 l, .slice (some ⟨g, 0, none⟩) L.length cap]) hB 6 (.slice (some ⟨g4, 0, none⟩) n cap4)
    have hk : Kept (fun q => q = ba) w' (w'.setCell ⟨ba, 6, none⟩ (.slice (some ⟨g4, 0, none⟩) n cap4)) := (Kept.refl (fun q => q = ba) w').set (.inl rfl) _ _
    have hda : DA (w'.setCell ⟨ba, 6, none⟩ (.slice (some ⟨g4, 0, none⟩) n cap4)) ⟨ba, 0, none⟩ (fun k => k = ba ∨ k = g4) c l zs := by
      refine ⟨h1, by omega, hz, ba, g4, cap4, rfl, ?_, hm4.keep hk (fun e => by omega), by omega, hc2, by omega, rfl⟩
      rw [hl]
      exact hs
    have hkk : Kept (daT ⟨ba, 0, none⟩ (fun k => k = ba ∨ k = g) c l L).F w (w'.setCell ⟨ba, 6, none⟩ (.slice (some ⟨g4, 0, none⟩) n cap4)) := (Kept.of_below hbw).trans (hk.mono (fun q _ e => .inl e)) (fun q hq e => e)
    obtain ⟨F', g1, g2, g3⟩ := dl_turn (t := daT ⟨ba, 0, none⟩ (fun k => k = ba ∨ k = g) c l L) (t' := daT ⟨ba, 0, none⟩ (fun k => k = ba ∨ k = g4) c l zs) hb hnb hda hkk (fun q hq => by
      rcases hq with h | h
      · exact .inl (.inl h)
      · exact .inr (by omega))
    exact ⟨F', ⟨_, _, g1⟩, g2, g3⟩)
  clear hb ht hnb hba hm h1 h3 h4 h5 h6 hz hrd HBA
  go_enter Tryz.func19, Tryz.ntmps19
  go_upto_region 1 with fail
  go_region_held3 (fun w' => w'.cell? ⟨b, 0, none⟩ = some (.pointer (some ⟨ba, 0, none⟩))) (first | (with_reducible assumption) | (with_reducible exact y9 _) | (with_reducible refine cell_up c0 ?_ <;> (repeat' (first | (with_reducible exact Below.refl _ _) | (with_reducible assumption) | (with_reducible refine below_over ?_ _ _) | (with_reducible refine Lw.below_alloc ?_ _) | (with_reducible refine Below.drew ?_) | (with_reducible refine below_drewN ?_ _) | (with_reducible refine Below.setCell ?_ ?_ _) | go_size)))) (first
    | (refine app_step .i64 rfl _ _ 48 rfl w.heap.size 2 i0 8 Exa.i64s_u hi hz0 hz1 hz2 (.slice (some ⟨w.heap.size, 0, none⟩) 0 0) 0 [] rfl (own_empty w.drew _ _ _ (Nat.le_refl _)) (fun h => by cases h) (some ad) n capz zs rfl (fun h => by cases h) hl (HRD.out.up (by repeat' (first | (with_reducible exact Below.refl _ _) | (with_reducible assumption) | (with_reducible refine below_over ?_ _ _) | (with_reducible refine Lw.below_alloc ?_ _) | (with_reducible refine Below.drew ?_) | (with_reducible refine below_drewN ?_ _) | (with_reducible refine Below.setCell ?_ ?_ _) | go_size))) (by unfold maxLen; omega) (by omega) (by simp) ?_; intro A4 cap4 w4 hown4 hgrow4 hrd4 hcap6 hcap7; have hb4 : Below w.heap.size w w4 := app_below2 (by repeat' (first | (with_reducible exact Below.refl _ _) | (with_reducible assumption) | (with_reducible refine below_over ?_ _ _) | (with_reducible refine Lw.below_alloc ?_ _) | (with_reducible refine Below.drew ?_) | (with_reducible refine below_drewN ?_ _) | (with_reducible refine Below.setCell ?_ ?_ _) | go_size)) hgrow4 (Nat.le_refl _); (try simp only [Nat.zero_add, List.nil_append] at hown4 hcap6); (try simp only [Nat.zero_add]); have y0 := cell_up c0 hb4; have y6 := cell_up f6 hb4; have z6 := HFZ.out w4 hb4; have y9 : ∀ v, (w4.setCell ⟨ba, 6, none⟩ v).cell? ⟨b, 0, none⟩ = some (.pointer (some ⟨ba, 0, none⟩)) := fun v => ((Kept.refl (fun q => q = ba) w4).set (.inl rfl) 6 v).cell y0 hne1; have HO4 := Lib.hid hown4; have HB4 := Lib.hid hb4; have HC4 := Lib.hid (And.intro hcap6 hcap7); clear hown4 hgrow4 hrd4 hcap6 hcap7))
  all_goals go_wp2
  all_goals refine bodyPost_ret (results_none rfl _ _ _) rfl ?_
  all_goals (obtain ⟨g4, hA4, hg4, hm4⟩ := Ord.mid_own HO4.out)
  all_goals subst hA4
  all_goals exact ⟨rfl, HT.out w4 g4 cap4 HB4.out hm4 hg4 HC4.out.1 HC4.out.2⟩
set_option maxRecDepth 100000 in
set_option maxHeartbeats 8000000 in
theorem lload_S (p : Addr) (F : Nat → Prop) (c : Cfg) (l : Int) (L : List (List Int)) (ad : Addr) (N capz : Nat) (zs : List Int) (w : World) (h : DLS w p F c l L) (hrd : Rd .i64 w (some ad) zs) (hl : zs.length = N) (hz : In64 zs) (hn : N = rws c * wds c) (hap : ¬ F ad.block) :
    Calls Tryz.prog 19 #[.pointer (some p), .slice (some ad) N capz] w fun e w' => e = .returned (.tuple #[]) ∧ ∃ F' L', DLS w' p F' c l L' ∧ L'.flatten = zs ∧ Kept F w w' ∧ (∀ k, F' k → F k ∨ w.heap.size ≤ k) := by
  obtain ⟨a, G0, b, rfl, hb, ht, hnb, rfl⟩ := h
  have c0w := grd_cell hb 0 (v := .pointer none) rfl
  have c1w := grd_cell hb 1 (v := .pointer (some a)) rfl
  obtain ⟨hr, hok, hl0, hl1, bs, gp, G, rfl, hbs, hg, hGb, rfl⟩ := dsI ht
  have e6w := grd_cell hbs 6 (v := .pointer (some gp)) rfl
  have hbl := size_of_heap hb
  have hsl := size_of_heap hbs
  obtain ⟨m, hmm⟩ : ∃ m, rws c = m := ⟨_, rfl⟩
  obtain ⟨n, hnn⟩ : ∃ n, wds c = n := ⟨_, rfl⟩
  have hm8 : 1 ≤ m ∧ m ≤ 8 := by have := rws_bd hr; omega
  have hn8 : 1 ≤ n ∧ n ≤ 128 := by have := wds_bd hr; omega
  have hGbb : ¬ G b := fun h => hnb (.inr h)
  have hGs : ¬ G bs := hGb
  have hGa : ¬ G ad.block := fun h => hap (.inr (.inr h))
  have HT : Hid (∀ w' L', DG w' gp G m n L' → Kept G w w' → ∃ F', DLS w' ⟨b, 0, none⟩ F' c l L' ∧ Kept (fun k => k = b ∨ (dsT ⟨bs, 0, none⟩ (fun k => k = bs ∨ G k) c l L).F k) w w' ∧ (∀ q, F' q → (q = b ∨ (dsT ⟨bs, 0, none⟩ (fun k => k = bs ∨ G k) c l L).F q) ∨ w.heap.size ≤ q)) := Lib.hid (fun w' L' h1 h2 => by
    have hds : DS w' ⟨bs, 0, none⟩ (fun k => k = bs ∨ G k) c l L' := ⟨hr, hok, hl0, hl1, bs, gp, G, rfl, h2.heap hbs hGb, by rw [hmm, hnn]; exact h1, hGb, rfl⟩
    obtain ⟨F', g1, g2, g3⟩ := dl_turn (t := dsT ⟨bs, 0, none⟩ (fun k => k = bs ∨ G k) c l L) (t' := dsT ⟨bs, 0, none⟩ (fun k => k = bs ∨ G k) c l L') hb hnb hds (h2.mono (fun q _ e => .inr e)) (fun q hq => .inl hq)
    exact ⟨F', ⟨_, _, g1⟩, g2, g3⟩)
  rw [hmm, hnn] at hg hn
  have HG := Lib.hid hg
  have HR := Lib.hid hrd
  have HL := Lib.hid hl
  have HZ := Lib.hid hz
  have HN := Lib.hid hn
  have HFL : Hid (L.flatten.length = N) := Lib.hid (by rw [flat_dims hg.dims, hn])
  have hN1 : N ≤ 1024 := by rw [hn]; exact Nat.le_trans (Nat.mul_le_mul hm8.2 hn8.2) (by decide)
  obtain ⟨gb, hdr, R0, hgp, hg1, hg2, hg3, hg4⟩ := hg
  subst hgp
  clear hb ht hnb hbs hr hok hl0 hl1 hrd hl hz hn hap hGb hg1 hg2 hg3 hg4 hmm hnn
  go_enter Tryz.func19, Tryz.ntmps19
  go_wp2
  go_loopw [4, 5] (fun av iv wr => ∃ (r : Nat) (Lj : List (List Int)), r ≤ m ∧ av = .int .i64 ((r * n : Nat) : Int) ∧ iv = .int .i64 r ∧ DG wr ⟨gb, 0, none⟩ G m n Lj ∧ Lj.flatten = upto2 L.flatten zs (r * n) ∧ Kept G w wr) (fun _ iv _ => m - (intOf iv).toNat)
  case atStart => exact ⟨0, L, Nat.zero_le _, by simp, rfl, HG.out, by rw [Nat.zero_mul, upto2_start], Kept.refl G w⟩
  case round =>
    obtain ⟨r, Lj, hrm, rfl, rfl, hdg, hfl, hk⟩ := hrel
    have HK := Lib.hid hk
    have HFJ := Lib.hid hfl
    have HD := Lib.hid hdg
    have c0 := hk.cell c0w hGbb
    have c1 := hk.cell c1w hGbb
    have e6 := hk.cell e6w hGs
    obtain ⟨gb', hdr', R, hgp, hg1, hg2, hg3, hg4⟩ := hdg
    injection hgp with hgp
    subst hgp
    obtain ⟨A, cap, hhd, hcap, hA, hcell⟩ := hg1.hd
    have hb0 := cell_of_row wr gb 0 _ _ _ hg1.cell
    rw [hhd] at hb0
    simp only [List.getElem?_toArray, List.getElem?_cons_zero] at hb0
    have hRl : R.length = m := by rw [← nums_len, hg2, hg4.len]
    rw [hRl] at hb0
    clear hhd hcell hA hg1 hg2 hg3 hg4 hRl hfl hk hcap
    by_cases hlt : r < m
    · have hlti : (r : Int) < (m : Int) := by omega
      go_wp2
      obtain ⟨wo, rfl⟩ : ∃ wo, wo = wr := ⟨_, rfl⟩
      clear c0 c1 e6 hb0
      go_loopw [4, 6] (fun av cv wi => ∃ (q : Nat) (Lj : List (List Int)), q ≤ n ∧ av = .int .i64 ((r * n + q : Nat) : Int) ∧ cv = .int .i64 q ∧ DG wi ⟨gb, 0, none⟩ G m n Lj ∧ Lj.flatten = upto2 L.flatten zs (r * n + q) ∧ Kept G w wi) (fun _ cv _ => n - (intOf cv).toNat)
      case atStart => exact ⟨0, Lj, Nat.zero_le _, by simp, rfl, HD.out, HFJ.out, HK.out⟩
      case round =>
        clear HD HFJ HK
        obtain ⟨q, Lk, hqn, rfl, rfl, hdg, hfl, hk⟩ := hrel
        have HK := Lib.hid hk
        have HFK := Lib.hid hfl
        have HD := Lib.hid hdg
        have c0 := hk.cell c0w hGbb
        have c1 := hk.cell c1w hGbb
        have e6 := hk.cell e6w hGs
        obtain ⟨gb', hdr', R, hgp, hg1, hg2, hg3, hg4⟩ := hdg
        injection hgp with hgp
        subst hgp
        obtain ⟨A, cap, hhd, hcap, hA, hcell⟩ := hg1.hd
        have hb0 := cell_of_row wr gb 0 _ _ _ hg1.cell
        rw [hhd] at hb0
        simp only [List.getElem?_toArray, List.getElem?_cons_zero] at hb0
        have hRl : R.length = m := by rw [← nums_len, hg2, hg4.len]
        obtain ⟨ro, hro⟩ : ∃ ro, R[r]? = some ro := ⟨_, List.getElem?_eq_getElem (by omega)⟩
        obtain ⟨ad2, rfl, hcr⟩ := hcell r ro hro
        have hrom := List.mem_of_getElem? hro
        have hrl : ro.2.2.length = n := by have := (hg4.rows ro.2.2 (by rw [← hg2]; exact nums_mem hrom)).1; exact this
        rw [hRl] at hb0
        have hput := hg1.put hro
        have hnum : ∀ v, ro.2.2[q]? = some v → wr.cell? ⟨ro.1, q, none⟩ = some (.int .i64 v) := fun v hv => by
          have := hg1.numAt hrom hv
          rwa [Ord.add_at, Nat.zero_add] at this
        have hfz0 : wr.frozen? ⟨ro.1, q, none⟩ = false := by
          have := (hg1.rows _ hrom).frozenAt (g := ro.1) (cap := ro.2.1) q
          exact this
        have hin2 : q < n → in2 (nums R) r q = true := fun h => by
          unfold in2
          have hget : (nums R)[(r : Int).toNat]?.getD [] = ro.2.2 := by simp [nums, hro]
          rw [hget, nums_len]
          exact decide_eq_true (by omega)
        have HPUT : Hid (q < n → ∀ z, -9223372036854775808 ≤ z → z ≤ 9223372036854775807 → DG (wr.setCell ⟨ro.1, q, none⟩ (.int .i64 z)) ⟨gb, 0, none⟩ G m n (setL Lk r q z) ∧ Kept G w (wr.setCell ⟨ro.1, q, none⟩ (.int .i64 z))) := Lib.hid (fun hq z z0 z1 => by
          have hp : put2 R r q z = set2 R r q z := by unfold put2; rw [if_pos (hin2 hq), Int.toNat_natCast, Int.toNat_natCast]
          refine ⟨⟨gb, _, put2 R r q z, rfl, by rw [hp]; exact hput q z, by rw [nums_put2, hg2], fun k => (hg3 k).trans (RF_put k).symm, hg4.set r q z0 z1⟩, hk.trans ((Kept.refl G wr).set (.inl ((hg3 _).2 (.inr (.inr ⟨_, hrom, rfl⟩)))) q _) (fun x _ e => e)⟩)
        unfold rowHd at hcr
        rw [hrl] at hcr
        obtain ⟨g, gc, xs⟩ := ro
        simp only at hcr hnum hfz0 HPUT hrl
        obtain ⟨gad, hgad⟩ : ∃ gad : Addr, (⟨g, 0, none⟩ : Addr) = gad := ⟨_, rfl⟩
        have hga2 : (⟨g, q, none⟩ : Addr) = gad.add q := by rw [← hgad, Ord.add_at, Nat.zero_add]
        rw [hgad] at hcr
        rw [hga2] at hfz0 HPUT
        have HNUM := Lib.hid hnum
        have HGA := Lib.hid hga2
        have HRL := Lib.hid hrl
        clear hhd hcell hA hg1 hg2 hg3 hg4 hRl hfl hk hcap hro hrom hput hnum hin2 hgad hga2 hrl
        by_cases hlq : q < n
        · have hlt9 : r * n + q < N := by
            rw [HN.out]
            have := Nat.mul_le_mul_right n (show r + 1 ≤ m by omega)
            rw [Nat.succ_mul] at this
            omega
          obtain ⟨z, hz⟩ : ∃ z, zs[r * n + q]? = some z := ⟨_, List.getElem?_eq_getElem (by rw [HL.out]; exact hlt9)⟩
          have zb := HZ.out.at hz
          have hcz := HK.out.cell (HR.out.at hz) (by have e : (ad.add (r * n + q)).block = ad.block := by { unfold Addr.add; split <;> rfl }
                                                     rw [e]; exact hGa)
          obtain ⟨v, hv⟩ : ∃ v, xs[q]? = some v := ⟨_, List.getElem?_eq_getElem (by rw [HRL.out]; exact hlq)⟩
          have hcv := HNUM.out v hv
          rw [HGA.out] at hcv
          have HPZ := Lib.hid (HPUT.out hlq z zb.1 zb.2)
          have HFP : Hid ((setL Lk r q z).flatten = upto2 L.flatten zs (r * n + (q + 1))) := Lib.hid (by
            rw [flat_put HD.out.dims z (by omega) (by omega) (by omega) (by omega), HFK.out, Int.toNat_natCast, Int.toNat_natCast, upto2_set HFL.out HL.out hz, Nat.add_assoc])
          obtain ⟨AT, hAT⟩ : ∃ AT, r * n + q = AT := ⟨_, rfl⟩
          have HAT := Lib.hid hAT
          rw [hAT] at hcz hlt9 ⊢
          have hq1 : (q : Int) < (n : Int) := by omega
          have ha1 : (AT : Int) < (N : Int) := by omega
          clear hz hv zb hAT
          go_wp2
          go_region
          clear c0 c1 e6 hb0 hcr hcz hcv hfz0
          go_wp2
          go_roundw
          case rel => exact ⟨q + 1, _, by omega, by have := HAT.out; go_num, by go_num, dg_up HPZ.out.1 (by repeat' (first | (with_reducible exact Below.refl _ _) | (with_reducible assumption) | (with_reducible refine below_over ?_ _ _) | (with_reducible refine Lw.below_alloc ?_ _) | (with_reducible refine Below.drew ?_) | (with_reducible refine below_drewN ?_ _) | (with_reducible refine Below.setCell ?_ ?_ _) | go_size)), HFP.out, HPZ.out.2.trans (Kept.of_below (F := G) (by repeat' (first | (with_reducible exact Below.refl _ _) | (with_reducible assumption) | (with_reducible refine below_over ?_ _ _) | (with_reducible refine Lw.below_alloc ?_ _) | (with_reducible refine Below.drew ?_) | (with_reducible refine below_drewN ?_ _) | (with_reducible refine Below.setCell ?_ ?_ _) | go_size))) (fun x _ e => e)⟩
          case measure => simp [intOf]; omega
        · have e : n = q := by omega
          subst e
          have hadv : r * n + n = (r + 1) * n := by rw [Nat.succ_mul]
          have HFQ := Lib.hid HFK.out
          rw [hadv] at HFQ
          go_wp2
          go_roundw
          case rel => exact ⟨r + 1, Lk, by omega, by rw [hadv], by go_num, HD.out, HFQ.out, HK.out⟩
          case measure => simp [intOf]; omega
    · have e : m = r := by omega
      subst e
      go_wp2
      all_goals go_end0
      obtain ⟨F', h1, h2, h3⟩ := HT.out _ _ HD.out HK.out
      exact ⟨rfl, F', Lj, h1, by rw [HFJ.out, ← HN.out, upto2_end HFL.out HL.out], h2, h3⟩
end Go.Proofs.YtiblpdjehknbcaaGreat.Lev
/- Levels of both kinds alike: what a level has (LS), the document's level (DLV), the code's (ELV). For stages from 15 on. Printed by wip/gen/lvl.py. -/
namespace Go.Proofs.YtiblpdjehknbcaaGreat.Stk
open Go Go.RowKit Lw Grd Lin Con Shp Sk Exa Lev
set_option linter.unusedVariables false
set_option linter.unusedSimpArgs false
/-- What a level has: an array's numbers, or a sketch's cells. -/
inductive LS where
  | A (L : List Int)
  | S (L : List (List Int))
def LS.fl : LS → List Int
  | .A L => L
  | .S L => L.flatten
def LS.ar : LS → Bool
  | .A _ => true
  | .S _ => false
def lsZero (c : Cfg) (l : Int) : LS := if exactB c l = true then .A (List.replicate (keys c l).toNat 0) else .S (zerosL (rws c) (wds c))
def lsCode (c : Cfg) (l : Int) (st : LS) (k d : Int) : Int := match st with
  | .A L => exCode c.md L k d
  | .S L => upCode c l L k d
def lsRes (c : Cfg) (l : Int) (st : LS) (k d : Int) : LS := match st with
  | .A L => .A (exRes c.md L k d)
  | .S L => .S (upRes c l L k d)
def lsPtV (c : Cfg) (l : Int) (st : LS) (k : Int) : Int := match st with
  | .A L => Exa.ptV L k
  | .S L => ptVal c l L k
def lsPtC (c : Cfg) (l : Int) (st : LS) (k : Int) : Int := match st with
  | .A L => Exa.ptC L k
  | .S _ => ptCode c l k
/-- The document's level. -/
def DLV (w : World) (p : Addr) (F : Nat → Prop) (c : Cfg) (l : Int) (st : LS) : Prop := exactB c l = st.ar ∧ match st with
  | .A L => DLA w p F c l L
  | .S L => DLS w p F c l L
theorem DLV.keep {w w' : World} {p : Addr} {F H : Nat → Prop} {c : Cfg} {l : Int} {st : LS} (h : DLV w p F c l st) (hk : Kept H w w') (hf : ∀ k, F k → ¬ H k) : DLV w' p F c l st := by
  refine ⟨h.1, ?_⟩
  cases st with
  | A L => exact (dlAT p F c l L).keep w w' H h.2 hk hf
  | S L => exact (dlST p F c l L).keep w w' H h.2 hk hf
def dlvT (p : Addr) (F : Nat → Prop) (c : Cfg) (l : Int) (st : LS) : Thing where
  I := fun w => DLV w p F c l st
  F := F
  keep := fun w w' H h hk hf => h.keep hk hf
  lt := fun w h k hk => by
    cases st with
    | A L => exact (dlAT p F c l L).lt w h.2 k hk
    | S L => exact (dlST p F c l L).lt w h.2 k hk
/-- The code's level, as the value that an interface holds. -/
def ELV (w : World) (v : Value) (F : Nat → Prop) (c : Cfg) (l : Int) (st : LS) : Prop := exactB c l = st.ar ∧ match st with
  | .A L => ∃ p, v = .iface 117 (.pointer (some p)) ∧ EX w p F c l L
  | .S L => ∃ p, v = .iface 120 (.pointer (some p)) ∧ SK w p F c l L
theorem ELV.keep {w w' : World} {v : Value} {F H : Nat → Prop} {c : Cfg} {l : Int} {st : LS} (h : ELV w v F c l st) (hk : Kept H w w') (hf : ∀ k, F k → ¬ H k) : ELV w' v F c l st := by
  refine ⟨h.1, ?_⟩
  cases st with
  | A L =>
    obtain ⟨p, e, h2⟩ := h.2
    exact ⟨p, e, h2.keep hk hf⟩
  | S L =>
    obtain ⟨p, e, h2⟩ := h.2
    exact ⟨p, e, (skT p F c l L).keep w w' H h2 hk hf⟩
def elvT (v : Value) (F : Nat → Prop) (c : Cfg) (l : Int) (st : LS) : Thing where
  I := fun w => ELV w v F c l st
  F := F
  keep := fun w w' H h hk hf => h.keep hk hf
  lt := fun w h k hk => by
    cases st with
    | A L =>
      obtain ⟨p, e, h2⟩ := h.2
      exact h2.lt k hk
    | S L =>
      obtain ⟨p, e, h2⟩ := h.2
      exact (skT p F c l L).lt w h2 k hk
theorem dv_new (c : Cfg) (l : Int) (w : World) (h : c.Ok) (hr : IsRight c) (l0 : 0 ≤ l) (l1 : l ≤ c.bt) :
    Calls Tryz.prog 31 #[.agg #[.int .i64 c.bt, .int .i64 c.rw, .int .i64 c.wd, .int .i64 c.md, .int .u64 c.sd], .int .i64 l] w fun e w' => ∃ (p : Addr) (F : Nat → Prop), e = .returned (.pointer (some p)) ∧ DLV w' p F c l (lsZero c l) ∧ (∀ k, F k → w.heap.size ≤ k) ∧ Below w.heap.size w w' := by
  unfold lsZero
  cases hx : exactB c l with
  | true =>
    rw [if_pos rfl]
    exact (lnew_A c l w h hr l0 l1 hx).mono (fun e w' ⟨p, F, h1, h2, h3, h4⟩ => ⟨p, F, h1, ⟨hx, h2⟩, h3, h4⟩)
  | false =>
    rw [if_neg (by simp)]
    exact (lnew_S c l w h hr l0 l1 hx).mono (fun e w' ⟨p, F, h1, h2, h3, h4⟩ => ⟨p, F, h1, ⟨hx, h2⟩, h3, h4⟩)
theorem dv_copy (p : Addr) (F : Nat → Prop) (c : Cfg) (l : Int) (st : LS) (w : World) (h : DLV w p F c l st) :
    Calls Tryz.prog 62 #[.pointer (some p)] w fun e w' => ∃ (q : Addr) (Q : Nat → Prop), e = .returned (.pointer (some q)) ∧ DLV w' q Q c l st ∧ (∀ k, Q k → w.heap.size ≤ k) ∧ Below w.heap.size w w' := by
  cases st with
  | A L => exact (lcopy_A p F c l L w h.2).mono (fun e w' ⟨q, Q, h1, h2, h3, h4⟩ => ⟨q, Q, h1, ⟨h.1, h2⟩, h3, h4⟩)
  | S L => exact (lcopy_S p F c l L w h.2).mono (fun e w' ⟨q, Q, h1, h2, h3, h4⟩ => ⟨q, Q, h1, ⟨h.1, h2⟩, h3, h4⟩)
theorem dv_upd (p : Addr) (F : Nat → Prop) (c : Cfg) (l : Int) (st : LS) (k d : Int) (w : World) (h : DLV w p F c l st) (k0 : 0 ≤ k) (k1 : k ≤ 18446744073709551615) (d0 : -9223372036854775808 ≤ d) (d1 : d ≤ 9223372036854775807) :
    Calls Tryz.prog 38 #[.pointer (some p), .int .u64 k, .int .i64 d] w fun e w' => e = .returned (.int .i64 (lsCode c l st k d)) ∧ ∃ F', DLV w' p F' c l (lsRes c l st k d) ∧ Kept F w w' ∧ (∀ q, F' q → F q ∨ w.heap.size ≤ q) := by
  cases st with
  | A L => exact (lupd_A p F c l L k d w h.2 k0 k1 d0 d1).mono (fun e w' ⟨h1, F', h2, h3, h4⟩ => ⟨h1, F', ⟨h.1, h2⟩, h3, h4⟩)
  | S L => exact (lupd_S p F c l L k d w h.2 k0 k1 d0 d1).mono (fun e w' ⟨h1, F', h2, h3, h4⟩ => ⟨h1, F', ⟨h.1, h2⟩, h3, h4⟩)
theorem dv_point (p : Addr) (F : Nat → Prop) (c : Cfg) (l : Int) (st : LS) (k : Int) (w : World) (h : DLV w p F c l st) (k0 : 0 ≤ k) (k1 : k ≤ 18446744073709551615) :
    Calls Tryz.prog 66 #[.pointer (some p), .int .u64 k] w fun e w' => e = .returned (.tuple #[.int .i64 (lsPtV c l st k), .int .i64 (lsPtC c l st k)]) ∧ Below w.heap.size w w' := by
  cases st with
  | A L => exact lpoint_A p F c l L k w h.2 k0 k1
  | S L => exact lpoint_S p F c l L k w h.2 k0 k1
theorem dls_dims {w : World} {p : Addr} {F : Nat → Prop} {c : Cfg} {l : Int} {L : List (List Int)} (h : DLS w p F c l L) : Dims (rws c) (wds c) L := by
  obtain ⟨a, G, b, rfl, hb, ht, hn, rfl⟩ := h
  obtain ⟨hr, hok, hl0, hl1, bs, gp, G0, rfl, hbs, hg, hGb, rfl⟩ := dsI ht
  exact hg.dims
theorem dv_cells (p : Addr) (F : Nat → Prop) (c : Cfg) (l : Int) (st : LS) (w : World) (h : DLV w p F c l st) :
    Calls Tryz.prog 18 #[.pointer (some p)] w fun e w' => ∃ (A : Addr) (n cap : Nat), e = .returned (.slice (some A) n cap) ∧ Rd .i64 w' (some A) st.fl ∧ st.fl.length = n ∧ n ≤ cap ∧ cap ≤ maxLen ∧ w.heap.size ≤ A.block ∧ Below w.heap.size w w' := by
  cases st with
  | A L => exact (lcells_A p F c l L w h.2).mono (fun e w' ⟨g, cap, h1, h2, h3, h4, h5, h6⟩ => ⟨_, _, cap, h1, h2.rd, rfl, h4, h5, h3, h6⟩)
  | S L =>
    have hl : L.flatten.length = rws c * wds c := flat_dims (dls_dims h.2)
    exact (lcells_S p F c l L w h.2).mono (fun e w' ⟨A, cap, h1, h2, h3, h4, h5, h6⟩ => ⟨A, _, cap, h1, h2, hl, h3, h4, h5, h6⟩)
theorem ev_new (c : Cfg) (l : Int) (w : World) (h : c.Ok) (hr : IsRight c) (l0 : 0 ≤ l) (l1 : l ≤ c.bt) :
    Calls Tryz.prog 30 #[.agg #[.int .i64 c.bt, .int .i64 c.rw, .int .i64 c.wd, .int .i64 c.md, .int .u64 c.sd], .int .i64 l] w fun e w' => ∃ (v : Value) (F : Nat → Prop), e = .returned (.tuple #[v, .int .i64 0]) ∧ ELV w' v F c l (lsZero c l) ∧ (∀ k, F k → w.heap.size ≤ k) ∧ Below w.heap.size w w' := by
  have hb := hr.2.1
  have hb1 := hr.1
  have hk : 1 ≤ keys c l := keys_pos.2 ⟨hr, l0, l1⟩
  unfold lsZero
  cases hx : exactB c l with
  | true =>
    rw [if_pos rfl]
    exact (vnew_A c l w h (by omega) (by omega) hx).mono (fun e w' ⟨p, F, h1, h2, h3, h4⟩ => ⟨_, F, h1, ⟨hx, p, rfl, h2⟩, h3, h4⟩)
  | false =>
    rw [if_neg (by simp)]
    exact (vnew_S c l w h (by omega) (by omega) hk hx).mono (fun e w' ⟨p, F, h1, h2, h3, h4⟩ => ⟨_, F, h1, ⟨hx, p, rfl, h2⟩, h3, h4⟩)
end Go.Proofs.YtiblpdjehknbcaaGreat.Stk
/- A row of levels: values, the things that they point to, and what each has. For stages from 15 on. -/
namespace Go.Proofs.YtiblpdjehknbcaaGreat.Stk
open Go Go.RowKit Lw Grd Lin Con Shp Sk Exa Lev
set_option linter.unusedVariables false
theorem set_split {α : Type} {ts : List α} {j : Nat} {t : α} (h : ts[j]? = some t) : ts = ts.take j ++ t :: ts.drop (j + 1) := by
  obtain ⟨h1, h2⟩ := List.getElem?_eq_some_iff.1 h
  rw [← h2]
  exact (List.take_append_drop j ts).symm.trans (by rw [List.drop_eq_getElem_cons h1])
theorem set_at {α : Type} {ts : List α} {j : Nat} {t t' : α} (h : ts[j]? = some t) : ts.set j t' = ts.take j ++ t' :: ts.drop (j + 1) := by
  obtain ⟨h1, h2⟩ := List.getElem?_eq_some_iff.1 h
  exact List.set_eq_take_append_cons_drop.trans (by rw [if_pos h1])
/-- One of the things of a row is turned by a call. -/
theorem Hold.set {F0 : Nat → Prop} {w0 w w' : World} {pre ts post : List Thing} {j : Nat} {t : Thing} (h : Hold F0 w0 w (pre ++ (ts ++ post))) (hj : ts[j]? = some t) (t' : Thing) (ht : t'.I w') (hk : Kept t.F w w') (hF : ∀ k, t'.F k → t.F k ∨ w.heap.size ≤ k) : Hold F0 w0 w' (pre ++ (ts.set j t' ++ post)) := by
  have e1 : pre ++ (ts ++ post) = (pre ++ ts.take j) ++ t :: (ts.drop (j + 1) ++ post) := by
    conv => lhs; rw [set_split hj]
    simp
  have e2 : pre ++ (ts.set j t' ++ post) = (pre ++ ts.take j) ++ t' :: (ts.drop (j + 1) ++ post) := by
    rw [set_at hj]
    simp
  rw [e1] at h
  rw [e2]
  exact h.turn t' ht hk hF
theorem Have.set {w0 w w' : World} {pre ts post : List Thing} {j : Nat} {t : Thing} (h : Have w0 w (pre ++ (ts ++ post))) (hj : ts[j]? = some t) (t' : Thing) (ht : t'.I w') (hk : Kept t.F w w') (hF : ∀ k, t'.F k → t.F k ∨ w.heap.size ≤ k) : Have w0 w' (pre ++ (ts.set j t' ++ post)) := by
  have e1 : pre ++ (ts ++ post) = (pre ++ ts.take j) ++ t :: (ts.drop (j + 1) ++ post) := by
    conv => lhs; rw [set_split hj]
    simp
  have e2 : pre ++ (ts.set j t' ++ post) = (pre ++ ts.take j) ++ t' :: (ts.drop (j + 1) ++ post) := by
    rw [set_at hj]
    simp
  rw [e1] at h
  rw [e2]
  exact Have.turnX t' ht hk hF h
/-- A row of levels, each made by mk of its value, its blocks, the config, its number and what it has. -/
structure LRow (mk : Value → (Nat → Prop) → Cfg → Int → LS → Thing) (c : Cfg) (vals : List Value) (ts : List Thing) (sts : List LS) : Prop where
  lv : vals.length = sts.length
  lt : ts.length = sts.length
  each : ∀ (j : Nat) (st : LS), sts[j]? = some st → ∃ v Q, vals[j]? = some v ∧ ts[j]? = some (mk v Q c (j : Int) st)
theorem LRow.nil (mk : Value → (Nat → Prop) → Cfg → Int → LS → Thing) (c : Cfg) : LRow mk c [] [] [] := ⟨rfl, rfl, fun j st h => by simp at h⟩
theorem LRow.snoc {mk : Value → (Nat → Prop) → Cfg → Int → LS → Thing} {c : Cfg} {vals : List Value} {ts : List Thing} {sts : List LS} (h : LRow mk c vals ts sts) {n : Nat} (hn : sts.length = n) (v : Value) (Q : Nat → Prop) (st : LS) : LRow mk c (vals ++ [v]) (ts ++ [mk v Q c (n : Int) st]) (sts ++ [st]) := by
  refine ⟨by simp [h.lv], by simp [h.lt], fun j s hj => ?_⟩
  rcases Nat.lt_or_ge j n with h1 | h1
  · rw [List.getElem?_append_left (by omega)] at hj
    obtain ⟨v2, Q2, h2, h3⟩ := h.each j s hj
    exact ⟨v2, Q2, by rw [List.getElem?_append_left (by rw [h.lv]; omega)]; exact h2, by rw [List.getElem?_append_left (by rw [h.lt]; omega)]; exact h3⟩
  · rw [List.getElem?_append_right (by omega), hn] at hj
    have e : j = n := by
      rcases Nat.eq_zero_or_pos (j - n) with h2 | h2
      · omega
      · rw [List.getElem?_eq_none (by simp; omega)] at hj
        cases hj
    subst e
    rw [Nat.sub_self] at hj
    simp at hj
    subst hj
    exact ⟨v, Q, by rw [List.getElem?_append_right (by rw [h.lv]; omega), h.lv, hn]; simp, by rw [List.getElem?_append_right (by rw [h.lt]; omega), h.lt, hn]; simp⟩
theorem LRow.put {mk : Value → (Nat → Prop) → Cfg → Int → LS → Thing} {c : Cfg} {vals : List Value} {ts : List Thing} {sts : List LS} (h : LRow mk c vals ts sts) {j : Nat} {v : Value} (hv : vals[j]? = some v) (Q : Nat → Prop) (st : LS) : LRow mk c vals (ts.set j (mk v Q c (j : Int) st)) (sts.set j st) := by
  have hj := (List.getElem?_eq_some_iff.1 hv).1
  refine ⟨by simp [h.lv], by simp [h.lt], fun i s hi => ?_⟩
  rw [List.getElem?_set] at hi
  by_cases hij : j = i
  · subst hij
    rw [if_pos rfl, if_pos (by rw [← h.lv]; exact hj)] at hi
    injection hi with hi
    subst hi
    exact ⟨v, Q, hv, by rw [List.getElem?_set, if_pos rfl, if_pos (by rw [h.lt, ← h.lv]; exact hj)]⟩
  · rw [if_neg hij] at hi
    obtain ⟨v2, Q2, h2, h3⟩ := h.each i s hi
    exact ⟨v2, Q2, h2, by rw [List.getElem?_set, if_neg hij]; exact h3⟩
theorem LRow.at {mk : Value → (Nat → Prop) → Cfg → Int → LS → Thing} {c : Cfg} {vals : List Value} {ts : List Thing} {sts : List LS} (h : LRow mk c vals ts sts) {j : Nat} (hj : j < sts.length) : ∃ st v Q, sts[j]? = some st ∧ vals[j]? = some v ∧ ts[j]? = some (mk v Q c (j : Int) st) := by
  obtain ⟨v, Q, h1, h2⟩ := h.each j _ (List.getElem?_eq_getElem hj)
  exact ⟨_, v, Q, List.getElem?_eq_getElem hj, h1, h2⟩
/-- The document's level, as the value that points to it. -/
def dlT (v : Value) (F : Nat → Prop) (c : Cfg) (l : Int) (st : LS) : Thing where
  I := fun w => ∃ p, v = .pointer (some p) ∧ DLV w p F c l st
  F := F
  keep := fun w w' H h hk hf => by
    obtain ⟨p, e, h2⟩ := h
    exact ⟨p, e, h2.keep hk hf⟩
  lt := fun w h k hk => by
    obtain ⟨p, e, h2⟩ := h
    exact (dlvT p F c l st).lt w h2 k hk
/-- A row that grows: a slice of one's own, by its header. -/
def ownT (B : Nat) (e : TypeId) (hdr : Value) (vals : List Value) : Thing where
  I := fun w => w.ownsRow B e 1 hdr vals.length vals
  F := fun k => hdr.ownBlock = some k
  keep := fun w w' H h hk hf => hk.own h (fun q hq => hf q hq)
  lt := fun w h k hk => own_lt h hk
end Go.Proofs.YtiblpdjehknbcaaGreat.Stk
/- Things whose blocks hold cells: a range over a function turns its own records, which are none, and leaves them. For stages from 15 on. -/
namespace Go.Proofs.YtiblpdjehknbcaaGreat.Stk
open Go Go.RowKit Lw Grd Lin Con Shp Sk Exa Lev
set_option linter.unusedVariables false
/-- Each block of F holds cells. -/
def Cel (F : Nat → Prop) (w : World) : Prop := ∀ k, F k → ∃ o : Obj, w.heap[k]? = some o ∧ o.isCells = true
theorem cel_mid {w : World} {g i : Nat} {Z : List Int} (h : Ord.Mid w g i Z) : ∃ o : Obj, w.heap[g]? = some o ∧ o.isCells = true := by
  obtain ⟨vs, e, h1, h2⟩ := h
  exact ⟨_, h1, rfl⟩
theorem cel_pg {w : World} {p : Addr} {F : Nat → Prop} {m n : Nat} {L : List (List Int)} (h : PG w p F m n L) : Cel F w := by
  obtain ⟨hd, b, g, cap, rfl, hb, hm, h1, h2, h3, rfl⟩ := h
  rintro k (rfl | rfl)
  · exact ⟨_, hb, rfl⟩
  · exact cel_mid hm
theorem cel_ex {w : World} {p : Addr} {F : Nat → Prop} {c : Cfg} {l : Int} {L : List Int} (h : EX w p F c l L) : Cel F w := by
  obtain ⟨hr, hok, hl0, hl1, hlk, hn1, hn8, b, gp, G, rfl, hb, hg, hGb, rfl⟩ := h
  rintro k (rfl | hk)
  · exact ⟨_, hb, rfl⟩
  · exact cel_pg hg k hk
theorem cel_sk {w : World} {p : Addr} {F : Nat → Prop} {c : Cfg} {l : Int} {L : List (List Int)} (h : SK w p F c l L) : Cel F w := by
  obtain ⟨hr, hok, hl0, hl1, b, gp, G, rfl, hb, hg, hGb, rfl⟩ := h
  rintro k (rfl | hk)
  · exact ⟨_, hb, rfl⟩
  · exact cel_pg hg k hk
theorem cel_elv {w : World} {v : Value} {F : Nat → Prop} {c : Cfg} {l : Int} {st : LS} (h : ELV w v F c l st) : Cel F w := by
  cases st with
  | A L =>
    obtain ⟨p, e, h2⟩ := h.2
    exact cel_ex h2
  | S L =>
    obtain ⟨p, e, h2⟩ := h.2
    exact cel_sk h2
theorem cel_box {w : World} {b : Nat} {e : TypeId} {vs : Array Value} (h : (boxT b e vs).I w) : Cel (boxT b e vs).F w := by
  rintro k hk
  have hk2 : k = b := hk
  subst hk2
  exact ⟨_, h, rfl⟩
theorem cel_own {w : World} {B : Nat} {e : TypeId} {hdr : Value} {vals : List Value} (h : (ownT B e hdr vals).I w) : Cel (ownT B e hdr vals).F w := by
  rintro k hk
  have h2 : w.ownsRow B e 1 hdr vals.length vals := h
  have hk2 : hdr.ownBlock = some k := hk
  rcases h2.2 with h0 | ⟨g, cap, cur, rfl, hb, hg, h3⟩
  · rw [h0.1] at hk2
    cases hk2
  · have h4 : some g = some k := hk2
    injection h4 with h4
    subst h4
    exact ⟨_, hg, rfl⟩
/-- A block that is no cells is none of a thing's. -/
theorem Thing.turned {t : Thing} {w w' : World} {row : Option Nat} (h : t.I w) (hc : Cel t.F w) (hg : w.grownBy w' row) (hr : ∀ r, row = some r → ∃ o : Obj, w.heap[r]? = some o ∧ o.isCells = false) : t.I w' ∧ Cel t.F w' := by
  have hne : ∀ k, t.F k → ¬ row = some k := fun k hk e => by
    obtain ⟨o, h1, h2⟩ := hc k hk
    obtain ⟨o', h3, h4⟩ := hr k e
    rw [h1] at h3
    injection h3 with h3
    subst h3
    rw [h2] at h4
    cases h4
  refine ⟨t.keep w w' (fun k => row = some k) h ((Kept.refl _ w).grown hg (fun q e => .inl e)) hne, fun k hk => ?_⟩
  obtain ⟨o, h1, h2⟩ := hc k hk
  exact ⟨o, (hg.block k (t.lt w h k hk) (fun e => hne k hk e.symm)).trans h1, h2⟩
/-- Things held, each in blocks that hold cells. -/
def HoldC (F0 : Nat → Prop) (w0 w : World) (ts : List Thing) : Prop := Hold F0 w0 w ts ∧ ∀ t ∈ ts, Cel t.F w
theorem HoldC.own {β : Type} {F0 : Nat → Prop} {w0 : World} {B : Nat} (hB : w0.heap.size ≤ B) (ts : β → List Thing) : OwnFrom B (fun s W => HoldC F0 w0 W (ts s)) := by
  intro s W W' row h hg hr
  have hr2 : ∀ r, row = some r → ∃ o : Obj, W.heap[r]? = some o ∧ o.isCells = false := fun r e => (hr r e).2
  refine ⟨⟨Kept.grown h.1.1 hg (fun q e => .inr (Nat.le_trans hB (hr q e).1)), fun t ht => ⟨(Thing.turned (h.1.2.1 t ht).1 (h.2 t ht) hg hr2).1, (h.1.2.1 t ht).2⟩, h.1.2.2⟩, fun t ht => (Thing.turned (h.1.2.1 t ht).1 (h.2 t ht) hg hr2).2⟩
theorem HoldC.up {F0 : Nat → Prop} {w0 w w' : World} {ts : List Thing} (h : HoldC F0 w0 w ts) (hb : Below w.heap.size w w') : HoldC F0 w0 w' ts := by
  refine ⟨h.1.up hb, fun t ht k hk => ?_⟩
  obtain ⟨o, h1, h2⟩ := h.2 t ht k hk
  exact ⟨o, (hb.5 k (t.lt w (h.1.2.1 t ht).1 k hk)).trans h1, h2⟩
theorem HoldC.i {F0 : Nat → Prop} {w0 w : World} {ts : List Thing} (h : HoldC F0 w0 w ts) {t : Thing} (ht : t ∈ ts) : t.I w := h.1.i ht
theorem HoldC.push {F0 : Nat → Prop} {w0 w w' : World} {ts : List Thing} (h : HoldC F0 w0 w ts) (t : Thing) (hb : Below w.heap.size w w') (ht : t.I w') (hn : ∀ k, t.F k → w.heap.size ≤ k) (hc : Cel t.F w') : HoldC F0 w0 w' (t :: ts) := by
  refine ⟨h.1.push t hb ht hn, fun u hu => ?_⟩
  rcases List.mem_cons.1 hu with rfl | hu
  · exact hc
  · exact (h.up hb).2 u hu
/-- One of them is turned by a call. -/
theorem HoldC.turn {F0 : Nat → Prop} {w0 w w' : World} {fs : List Thing} {t : Thing} {ts : List Thing} (h : HoldC F0 w0 w (fs ++ t :: ts)) (t' : Thing) (ht : t'.I w') (hk : Kept t.F w w') (hF : ∀ k, t'.F k → t.F k ∨ w.heap.size ≤ k) (hc : Cel t'.F w') : HoldC F0 w0 w' (fs ++ t' :: ts) := by
  refine ⟨h.1.turn t' ht hk hF, fun u hu => ?_⟩
  have hap := Asun.append.1 h.1.2.2
  have hoth : u ∈ fs ∨ u ∈ ts → Cel u.F w' := by
    intro hu2 k h1
    have hin : u ∈ fs ++ t :: ts := by
      rcases hu2 with g | g <;> simp [g]
    obtain ⟨o, h2, h3⟩ := h.2 u hin k h1
    refine ⟨o, (hk.block k (u.lt w (h.i hin) k h1) (fun h4 => ?_)).trans h2, h3⟩
    rcases hu2 with g | g
    · exact hap.2.2 u g t (by simp) k h1 h4
    · exact hap.2.1.1 u g k h4 h1
  rcases List.mem_append.1 hu with g | g
  · exact hoth (.inl g)
  · rcases List.mem_cons.1 g with rfl | g
    · exact hc
    · exact hoth (.inr g)
theorem HoldC.set {F0 : Nat → Prop} {w0 w w' : World} {pre ts post : List Thing} {j : Nat} {t : Thing} (h : HoldC F0 w0 w (pre ++ (ts ++ post))) (hj : ts[j]? = some t) (t' : Thing) (ht : t'.I w') (hk : Kept t.F w w') (hF : ∀ k, t'.F k → t.F k ∨ w.heap.size ≤ k) (hc : Cel t'.F w') : HoldC F0 w0 w' (pre ++ (ts.set j t' ++ post)) := by
  have e1 := set_split hj
  have e2 := set_at (t' := t') hj
  rw [e2]
  rw [e1] at h
  have e3 : ∀ t : Thing, pre ++ ((ts.take j ++ t :: ts.drop (j + 1)) ++ post) = (pre ++ ts.take j) ++ t :: (ts.drop (j + 1) ++ post) := by simp
  rw [e3] at h ⊢
  exact h.turn t' ht hk hF hc
/-- What is turned is apart from what is beside it. -/
theorem HoldC.apart {F0 : Nat → Prop} {w0 w : World} {us gs ts : List Thing} (h : HoldC F0 w0 w (us ++ (gs ++ ts))) {t : Thing} (ht : t ∈ ts) {u : Thing} (hu : u ∈ gs) {k : Nat} (hk : u.F k) : ¬ t.F k :=
  ((Asun.append.1 (Asun.append.1 h.1.2.2).2.1).2.2 u hu t ht k hk)
/-- What a call that turns a thing leaves: all that is no cells. -/
theorem others_of {F : Nat → Prop} {w w' : World} (hk : Kept F w w') (hc : Cel F w) : KeepsOthers w w' :=
  ⟨hk.size, fun k o h1 h2 => by
    refine (hk.block k (size_of_heap h1) (fun h3 => ?_)).trans h1
    obtain ⟨o', h4, h5⟩ := hc k h3
    rw [h1] at h4
    injection h4 with h4
    subst h4
    rw [h2] at h5
    cases h5⟩
/-- What a round over levels keeps: the blocks that the iterator reads. -/
structure KeptG (G : Nat → Prop) (w w' : World) : Prop where
  size : w.heap.size ≤ w'.heap.size
  block : ∀ k, G k → w'.heap[k]? = w.heap[k]?
theorem KeptG.refl (G : Nat → Prop) (w : World) : KeptG G w w := ⟨Nat.le_refl _, fun _ _ => rfl⟩
theorem KeptG.trans {G : Nat → Prop} {x y z : World} (h : KeptG G x y) (k : KeptG G y z) : KeptG G x z := ⟨Nat.le_trans h.size k.size, fun i h1 => (k.block i h1).trans (h.block i h1)⟩
theorem KeptG.of_below {G : Nat → Prop} {w w' : World} (hG : ∀ k, G k → k < w.heap.size) (h : Below w.heap.size w w') : KeptG G w w' := ⟨h.4, fun k hk => h.5 k (hG k hk)⟩
theorem KeptG.of_kept {G F : Nat → Prop} {w w' : World} (hG : ∀ k, G k → k < w.heap.size) (h : Kept F w w') (hf : ∀ k, G k → ¬ F k) : KeptG G w w' := ⟨h.size, fun k hk => h.block k (hG k hk) (hf k hk)⟩
theorem KeptG.put {m : Nat} {G : Nat → Prop} (hm : ∀ k, G k → k < m) (W : World) (l : Nat) (o o' : Obj) (hl : m ≤ l) (h1 : W.heap[l]? = some o) (h2 : o.isCells = false) (h3 : o.isWalk = false) : KeptG G W (W.putObj l o') :=
  ⟨by simp, fun k hk => World.putObj_heap_other (by have := hm k hk; omega)⟩
theorem KeptG.cell {G : Nat → Prop} {w w' : World} (h : KeptG G w w') {a : Addr} {v : Value} (hc : w.cell? a = some v) (ha : G a.block) : w'.cell? a = some v := by
  rw [World.cell?_of_block (h.block a.block ha), hc]
end Go.Proofs.YtiblpdjehknbcaaGreat.Stk
/- What a stack has, in numbers: all levels updated, the first error of all, the levels that were fed. For stages from 15 on. -/
namespace Go.Proofs.YtiblpdjehknbcaaGreat.Stk
open Go Go.RowKit Lw Grd Lin Con Shp Sk Exa Lev
set_option linter.unusedVariables false
/-- The key to which a key belongs at a level. -/
def upK (k : Int) (n : Nat) : Int := k / ((2 ^ n : Nat) : Int)
/-- The first error of all levels from the n-th on. -/
def ers (c : Cfg) (k d : Int) : Nat → List LS → Int
  | _, [] => 0
  | n, st :: sts => if lsCode c n st (upK k n) d = 0 then ers c k d (n + 1) sts else lsCode c n st (upK k n) d
/-- All levels from the n-th on, updated. -/
def rss (c : Cfg) (k d : Int) : Nat → List LS → List LS
  | _, [] => []
  | n, st :: sts => lsRes c n st (upK k n) d :: rss c k d (n + 1) sts
theorem rss_len (c : Cfg) (k d : Int) : ∀ (n : Nat) (sts : List LS), (rss c k d n sts).length = sts.length
  | _, [] => rfl
  | n, st :: sts => by
    show (rss c k d (n + 1) sts).length + 1 = sts.length + 1
    rw [rss_len c k d (n + 1) sts]
theorem rss_get (c : Cfg) (k d : Int) : ∀ (n : Nat) (sts : List LS) (j : Nat) (st : LS), sts[j]? = some st → (rss c k d n sts)[j]? = some (lsRes c ((n + j : Nat) : Int) st (upK k (n + j)) d)
  | n, [], j, st, h => by simp at h
  | n, s :: sts, 0, st, h => by
    simp at h
    subst h
    rfl
  | n, s :: sts, j + 1, st, h => by
    have ih := rss_get c k d (n + 1) sts j st (by simpa using h)
    have e : n + 1 + j = n + (j + 1) := by omega
    rw [e] at ih
    simpa [rss] using ih
theorem ers_first (c : Cfg) (k d : Int) : ∀ (n : Nat) (sts : List LS) (j : Nat) (st : LS), (∀ (i : Nat) (s : LS), i < j → sts[i]? = some s → lsCode c ((n + i : Nat) : Int) s (upK k (n + i)) d = 0) → sts[j]? = some st → ¬ lsCode c ((n + j : Nat) : Int) st (upK k (n + j)) d = 0 → ers c k d n sts = lsCode c ((n + j : Nat) : Int) st (upK k (n + j)) d
  | n, [], j, st, _, h, _ => by simp at h
  | n, s :: sts, 0, st, _, h, hne => by
    simp at h
    subst h
    exact if_neg hne
  | n, s :: sts, j + 1, st, ha, h, hne => by
    have h0 : lsCode c (n : Int) s (upK k n) d = 0 := ha 0 s (by omega) rfl
    have e : n + 1 + j = n + (j + 1) := by omega
    have ih := ers_first c k d (n + 1) sts j st (fun i q hi hq => by
      have h1 := ha (i + 1) q (by omega) (by simpa using hq)
      have e2 : n + 1 + i = n + (i + 1) := by omega
      rw [e2]
      exact h1) (by simpa using h) (by rw [e]; exact hne)
    rw [e] at ih
    show (if lsCode c n s (upK k n) d = 0 then ers c k d (n + 1) sts else lsCode c n s (upK k n) d) = _
    rw [if_pos h0]
    exact ih
theorem ers_none (c : Cfg) (k d : Int) : ∀ (n : Nat) (sts : List LS), (∀ (i : Nat) (s : LS), sts[i]? = some s → lsCode c ((n + i : Nat) : Int) s (upK k (n + i)) d = 0) → ers c k d n sts = 0
  | n, [], _ => rfl
  | n, s :: sts, ha => by
    have h0 : lsCode c (n : Int) s (upK k n) d = 0 := ha 0 s rfl
    show (if lsCode c n s (upK k n) d = 0 then ers c k d (n + 1) sts else lsCode c n s (upK k n) d) = _
    rw [if_pos h0]
    refine ers_none c k d (n + 1) sts (fun i q hq => ?_)
    have h1 := ha (i + 1) q (by simpa using hq)
    have e2 : n + 1 + i = n + (i + 1) := by omega
    rw [e2]
    exact h1
theorem ers_ok (c : Cfg) (k d : Int) : ∀ (n : Nat) (sts : List LS), ers c k d n sts = 0 → ∀ (i : Nat) (s : LS), sts[i]? = some s → lsCode c ((n + i : Nat) : Int) s (upK k (n + i)) d = 0
  | n, [], _, i, s, h => by simp at h
  | n, s :: sts, he, i, q, h => by
    by_cases h0 : lsCode c n s (upK k n) d = 0
    · have he2 : ers c k d (n + 1) sts = 0 := by
        have h1 : ers c k d n (s :: sts) = ers c k d (n + 1) sts := if_pos h0
        rw [← h1]
        exact he
      cases i with
      | zero =>
        simp at h
        subst h
        exact h0
      | succ i =>
        have ih := ers_ok c k d (n + 1) sts he2 i q (by simpa using h)
        have e2 : n + 1 + i = n + (i + 1) := by omega
        rw [e2] at ih
        exact ih
    · have h1 : ers c k d n (s :: sts) = lsCode c n s (upK k n) d := if_neg h0
      rw [he] at h1
      exact absurd h1.symm h0
/-- What Update answers, and what it leaves. -/
def sucode (c : Cfg) (sts : List LS) (k d : Int) : Int := if keys c 0 ≤ k then 2 else if c.md = 2 ∧ d < 0 then 3 else ers c k d 0 sts
def sures (c : Cfg) (sts : List LS) (k d : Int) : List LS := if sucode c sts k d = 0 then rss c k d 0 sts else sts
/-- Updates as they reach a level. -/
def upN (us : Ups) (n : Nat) : Ups := us.map (fun u => (upK u.1 n, u.2))
theorem upN_app (us vs : Ups) (n : Nat) : upN (us ++ vs) n = upN us n ++ upN vs n := List.map_append
theorem upN_len (us : Ups) (n : Nat) : (upN us n).length = us.length := List.length_map _
theorem upK_keys {c : Cfg} (hr : IsRight c) {k : Int} {n : Nat} (h0 : 0 ≤ k) (hk : k < keys c 0) (hn : (n : Int) ≤ c.bt) : 0 ≤ upK k n ∧ upK k n < keys c n := by
  have hp : (0 : Int) < ((2 ^ n : Nat) : Int) := by
    have := Nat.one_le_two_pow (n := n)
    omega
  have hb := hr.1
  have e0 : keys c 0 = 2 ^ (c.bt - 0).toNat := keys_yes hr (by omega) (by omega)
  have e1 : keys c n = 2 ^ (c.bt - n).toNat := keys_yes hr (by omega) hn
  refine ⟨Int.ediv_nonneg h0 (Int.le_of_lt hp), ?_⟩
  unfold upK
  rw [Int.ediv_lt_iff_lt_mul hp, e1]
  have e2 : (2 : Int) ^ (c.bt - n).toNat * ((2 ^ n : Nat) : Int) = 2 ^ (c.bt - 0).toNat := by
    have e3 : (c.bt - 0).toNat = (c.bt - n).toNat + n := by omega
    rw [e3, Int.pow_add]
    simp
  rw [e2, ← e0]
  exact hk
theorem upN_in {c : Cfg} (hr : IsRight c) {us : Ups} (h : UpsIn c 0 us) {n : Nat} (hn : (n : Int) ≤ c.bt) : UpsIn c n (upN us n) := by
  refine ⟨fun u hu => ?_, fun hm u hu => ?_⟩
  · obtain ⟨v, hv, rfl⟩ := List.mem_map.1 hu
    have h1 := h.1 v hv
    have h2 := upK_keys hr h1.1 h1.2.1 hn
    exact ⟨h2.1, h2.2, h1.2.2⟩
  · obtain ⟨v, hv, rfl⟩ := List.mem_map.1 hu
    exact h.2 hm v hv
/-- A level that was fed. -/
def stOf (c : Cfg) (us : Ups) (n : Nat) : LS := if exactB c n = true then .A (sums (keys c n).toNat (upN us n)) else .S (cells c n (upN us n))
theorem stOf_nil (c : Cfg) (n : Nat) : stOf c [] n = lsZero c n := by
  unfold stOf lsZero upN
  split
  · rw [List.map_nil, sums_nil]
  · rw [List.map_nil, cells_nil]
/-- In the midst of sixty updates: the next one reaches the level. -/
theorem stOf_step {c : Cfg} (hr : IsRight c) {us : Ups} (h : UpsIn c 0 us) (hl : us.length ≤ 60) {u : Int × Int} (hu : UpsIn c 0 [u]) {n : Nat} (hn : (n : Int) ≤ c.bt) :
    lsCode c n (stOf c us n) (upK u.1 n) u.2 = 0 ∧ lsRes c n (stOf c us n) (upK u.1 n) u.2 = stOf c (us ++ [u]) n := by
  have h1 := upN_in hr h hn
  have h2 := upN_in hr hu hn
  have hu1 := h2.1 (upK u.1 n, u.2) (by simp [upN])
  have hl2 : (upN us n).length ≤ 60 := by rw [upN_len]; exact hl
  unfold stOf
  rw [upN_app]
  by_cases hx : exactB c n = true
  · rw [if_pos hx, if_pos hx]
    have hk : ((keys c n).toNat : Int) = keys c n := Int.toNat_of_nonneg (by omega)
    have hs := sums_step (md := c.md) (K := (keys c n).toNat) (us := upN us n) (u := (upK u.1 n, u.2)) hu1.1 (by rw [hk]; exact hu1.2.1) hl2 (fun v hv => by
      rcases List.mem_append.1 hv with h3 | h3
      · exact ⟨(h1.1 v h3).2.2.1, (h1.1 v h3).2.2.2⟩
      · rw [List.mem_singleton.1 h3]
        exact ⟨hu1.2.2.1, hu1.2.2.2⟩) (fun hm => h2.2 hm (upK u.1 n, u.2) (by simp [upN]))
    refine ⟨hs.1, ?_⟩
    show LS.A (exRes c.md _ _ _) = _
    rw [hs.2]
    rfl
  · rw [if_neg hx, if_neg hx]
    have hs := up_ok hr h1 hl2 (u := (upK u.1 n, u.2)) h2
    refine ⟨hs.1, ?_⟩
    show LS.S (upRes c n _ _ _) = _
    rw [hs.2]
    rfl
/-- All levels of a stack that was fed. -/
def stsOf (c : Cfg) (us : Ups) : List LS := (List.range (c.bt.toNat + 1)).map (stOf c us)
theorem stsOf_len (c : Cfg) (us : Ups) : (stsOf c us).length = c.bt.toNat + 1 := by unfold stsOf; simp
theorem stsOf_get {c : Cfg} {us : Ups} {n : Nat} (h : n < c.bt.toNat + 1) : (stsOf c us)[n]? = some (stOf c us n) := by
  unfold stsOf
  rw [List.getElem?_map, List.getElem?_range h]
  rfl
theorem stsOf_step {c : Cfg} (hr : IsRight c) {us : Ups} (h : UpsIn c 0 us) (hl : us.length ≤ 60) {u : Int × Int} (hu : UpsIn c 0 [u]) :
    sucode c (stsOf c us) u.1 u.2 = 0 ∧ sures c (stsOf c us) u.1 u.2 = stsOf c (us ++ [u]) := by
  have hb := hr.1
  have hu1 := hu.1 u (by simp)
  have e1 : ers c u.1 u.2 0 (stsOf c us) = 0 := by
    refine ers_none c u.1 u.2 0 _ (fun i s hi => ?_)
    have hi2 := (List.getElem?_eq_some_iff.1 hi).1
    rw [stsOf_len] at hi2
    rw [stsOf_get hi2] at hi
    injection hi with hi
    rw [Nat.zero_add, ← hi]
    exact (stOf_step hr h hl hu (by omega)).1
  have hk : ¬ keys c 0 ≤ u.1 := by omega
  have hm : ¬ (c.md = 2 ∧ u.2 < 0) := fun g => by have := hu.2 g.1 u (by simp); omega
  have e2 : sucode c (stsOf c us) u.1 u.2 = 0 := by
    unfold sucode
    rw [if_neg hk, if_neg hm]
    exact e1
  refine ⟨e2, ?_⟩
  unfold sures
  rw [if_pos e2]
  apply List.ext_getElem?
  intro j
  by_cases hj : j < c.bt.toNat + 1
  · rw [rss_get c u.1 u.2 0 _ j _ (stsOf_get hj), stsOf_get hj, Nat.zero_add]
    rw [(stOf_step hr h hl hu (by omega)).2]
  · rw [List.getElem?_eq_none (by rw [rss_len, stsOf_len]; omega), List.getElem?_eq_none (by rw [stsOf_len]; omega)]
end Go.Proofs.YtiblpdjehknbcaaGreat.Stk
/- Sums over the pieces of a span: what the pieces have is what the span has. For stages from 16 on. -/
namespace Go.Proofs.YtiblpdjehknbcaaGreat.Spn
open Go Go.RowKit Lw Grd Lin Con Shp Sk Exa Lev Stk Pcs
set_option linter.unusedVariables false
/-- What the keys from lo on, below e, have. -/
def btw (lo e : Nat) : Ups → Int
  | [] => 0
  | u :: us => (if (lo : Int) ≤ u.1 ∧ u.1 < (e : Int) then u.2 else 0) + btw lo e us
theorem btw_add {lo m e : Nat} (h1 : lo ≤ m) (h2 : m ≤ e) : ∀ us : Ups, btw lo m us + btw m e us = btw lo e us
  | [] => rfl
  | u :: us => by
    have ih := btw_add h1 h2 us
    simp only [btw]
    by_cases a1 : (lo : Int) ≤ u.1 ∧ u.1 < (m : Int)
    · rw [if_pos a1, if_neg (by omega), if_pos (by omega)]
      omega
    · rw [if_neg a1]
      by_cases a2 : (m : Int) ≤ u.1 ∧ u.1 < (e : Int)
      · rw [if_pos a2, if_pos (by omega)]
        omega
      · rw [if_neg a2, if_neg (by omega)]
        omega
theorem btw_none (lo : Nat) : ∀ us : Ups, btw lo lo us = 0
  | [] => rfl
  | u :: us => by
    simp only [btw]
    rw [if_neg (by omega), btw_none lo us]
    rfl
theorem piece_iff {lo L : Nat} (hd : 2 ^ L ∣ lo) {k : Int} (k0 : 0 ≤ k) : upK k L = ((lo / 2 ^ L : Nat) : Int) ↔ ((lo : Int) ≤ k ∧ k < ((lo + 2 ^ L : Nat) : Int)) := by
  obtain ⟨q, rfl⟩ := hd
  obtain ⟨m, rfl⟩ : ∃ m : Nat, k = m := ⟨k.toNat, by omega⟩
  have hp : 0 < 2 ^ L := Nat.two_pow_pos L
  have e1 : upK (m : Int) L = ((m / 2 ^ L : Nat) : Int) := by
    unfold upK
    exact (Int.natCast_ediv m (2 ^ L)).symm
  rw [e1, Nat.mul_div_cancel_left q hp]
  constructor
  · intro h
    have h1 : m / 2 ^ L = q := by omega
    have h2 := Nat.div_add_mod m (2 ^ L)
    have h3 := Nat.mod_lt m hp
    rw [h1] at h2
    constructor <;> omega
  · rintro ⟨h1, h2⟩
    have h3 : m / 2 ^ L = q := by
      refine Nat.div_eq_of_lt_le ?_ ?_
      · rw [Nat.mul_comm]; omega
      · rw [Nat.mul_comm, Nat.mul_succ]; omega
    rw [h3]
theorem btw_piece {lo L : Nat} (hd : 2 ^ L ∣ lo) : ∀ us : Ups, (∀ u ∈ us, 0 ≤ u.1) → hasK ((lo / 2 ^ L : Nat) : Int) (upN us L) = btw lo (lo + 2 ^ L) us
  | [], _ => rfl
  | u :: us, h => by
    have ih := btw_piece hd us (fun v hv => h v (List.mem_cons_of_mem _ hv))
    show (if upK u.1 L = ((lo / 2 ^ L : Nat) : Int) then u.2 else 0) + hasK ((lo / 2 ^ L : Nat) : Int) (upN us L) = _
    rw [ih]
    simp only [btw]
    by_cases a : upK u.1 L = ((lo / 2 ^ L : Nat) : Int)
    · rw [if_pos a, if_pos ((piece_iff hd (h u (by simp))).1 a)]
    · rw [if_neg a, if_neg (fun g => a ((piece_iff hd (h u (by simp))).2 g))]
/-- What the pieces of a span have is what the span has. -/
theorem cov_sum {B e lo : Nat} {l : List (Nat × Nat)} (h : Cov B e lo l) {us : Ups} (hu : ∀ u ∈ us, 0 ≤ u.1) : (l.map (fun p => hasK ((p.2 : Nat) : Int) (upN us p.1))).sum = btw lo e us := by
  induction h with
  | nil => exact (btw_none e us).symm
  | @cons lo L l g hc ih =>
    rw [List.map_cons, List.sum_cons, ih, btw_piece g.2.1 us hu, btw_add (Nat.le_add_right _ _) hc.le]
/-- The pieces of a span. -/
noncomputable def covL (n lo hi : Nat) : List (Nat × Nat) := by
  classical exact if h : ∃ l, Cov n (hi + 1) lo l then Classical.choose h else []
theorem covL_eq {n lo hi : Nat} {l : List (Nat × Nat)} (h : Cov n (hi + 1) lo l) : covL n lo hi = l := by
  unfold covL
  have h2 : ∃ l, Cov n (hi + 1) lo l := ⟨l, h⟩
  rw [dif_pos h2]
  exact (Classical.choose_spec h2).uniq h
theorem sum_le {α : Type} {f g : α → Int} : ∀ {l : List α}, (∀ p ∈ l, f p ≤ g p) → (l.map f).sum ≤ (l.map g).sum
  | [], _ => Int.le_refl _
  | p :: l, h => by
    have ih := sum_le (l := l) (fun q hq => h q (List.mem_cons_of_mem _ hq))
    have h1 := h p (by simp)
    simp only [List.map_cons, List.sum_cons]
    omega
theorem sum_bd {α : Type} {f : α → Int} {b : Int} : ∀ {l : List α}, (∀ p ∈ l, -b ≤ f p ∧ f p ≤ b) → -(b * l.length) ≤ (l.map f).sum ∧ (l.map f).sum ≤ b * l.length
  | [], _ => by simp
  | p :: l, h => by
    have ih := sum_bd (l := l) (fun q hq => h q (List.mem_cons_of_mem _ hq))
    have h1 := h p (by simp)
    simp only [List.map_cons, List.sum_cons, List.length_cons]
    have e : b * ((l.length + 1 : Nat) : Int) = b * (l.length : Int) + b := by
      rw [Int.natCast_add, Int.mul_add]
      simp
    omega
/-- What a span is told to have, and with what error. -/
noncomputable def parts (c : Cfg) (pt : Nat → Int → Int) (lo hi : Int) : List Int := (covL c.bt.toNat lo.toNat hi.toNat).map (fun p => pt p.1 ((p.2 : Nat) : Int))
def ptC2 (c : Cfg) (lo hi : Int) : Int := if hi < lo then 1 else if keys c 0 ≤ hi then 2 else 0
noncomputable def ptL (c : Cfg) (pt : Nat → Int → Int) (lo hi : Int) : List Int := if ptC2 c lo hi = 0 then parts c pt lo hi else []
noncomputable def rgC (c : Cfg) (pt : Nat → Int → Int) (lo hi : Int) : Int := if ptC2 c lo hi = 0 then (if Wid.fit64 (parts c pt lo hi).sum = true then 0 else 4) else ptC2 c lo hi
noncomputable def rgV (c : Cfg) (pt : Nat → Int → Int) (lo hi : Int) : Int := if rgC c pt lo hi = 0 then (parts c pt lo hi).sum else 0
end Go.Proofs.YtiblpdjehknbcaaGreat.Spn
/- The way to a rank's key, in numbers: what all keys below it have, and what it is told too much. For stages from 17 on. By hand. -/
namespace Go.Proofs.YtiblpdjehknbcaaGreat.Qnt
open Go Go.RowKit Lw Grd Lin Con Shp Sk Exa Lev Stk Pcs Spn
set_option linter.unusedVariables false
/-- The pieces with which one goes on, from the piece i of the level on; none: what is left of the rank does not fit. -/
def wayQ (pt : Nat → Int → Int) : Nat → Nat → Int → Option (List (Nat × Nat))
  | 0, i, _ => some [(0, i)]
  | L + 1, i, k =>
    if k ≤ pt L ((2 * i : Nat) : Int) then (wayQ pt L (2 * i) k).map (fun l => (L + 1, i) :: l)
    else if Wid.fit64 (k - pt L ((2 * i : Nat) : Int)) = true then (wayQ pt L (2 * i + 1) (k - pt L ((2 * i : Nat) : Int))).map (fun l => (L + 1, i) :: l)
    else none
/-- The way's last piece's index. -/
def keyQ (l : List (Nat × Nat)) : Nat := ((l.getLast?).map (fun p => p.2)).getD 0
theorem keyQ_cons (p : Nat × Nat) {l : List (Nat × Nat)} (h : l ≠ []) : keyQ (p :: l) = keyQ l := by
  unfold keyQ
  cases l with
  | nil => exact absurd rfl h
  | cons q l => simp
theorem wayQ_left {pt : Nat → Int → Int} {L i : Nat} {k : Int} (h : k ≤ pt L ((2 * i : Nat) : Int)) : wayQ pt (L + 1) i k = (wayQ pt L (2 * i) k).map (fun l => (L + 1, i) :: l) := by
  rw [wayQ, if_pos h]
theorem wayQ_right {pt : Nat → Int → Int} {L i : Nat} {k : Int} (h : ¬ k ≤ pt L ((2 * i : Nat) : Int)) (hf : Wid.fit64 (k - pt L ((2 * i : Nat) : Int)) = true) : wayQ pt (L + 1) i k = (wayQ pt L (2 * i + 1) (k - pt L ((2 * i : Nat) : Int))).map (fun l => (L + 1, i) :: l) := by
  rw [wayQ, if_neg h, if_pos hf]
theorem wayQ_none {pt : Nat → Int → Int} {L i : Nat} {k : Int} (h : ¬ k ≤ pt L ((2 * i : Nat) : Int)) (hf : Wid.fit64 (k - pt L ((2 * i : Nat) : Int)) = false) : wayQ pt (L + 1) i k = none := by
  rw [wayQ, if_neg h, if_neg (by rw [hf]; decide)]
/-- One piece more behind those that were gone through. -/
theorem way_push {pt : Nat → Int → Int} {L i j : Nat} {k m : Int} {xs : List (Nat × Nat)} {o : Option (List (Nat × Nat))} (h : o = (wayQ pt (L + 1) i k).map (fun l => xs ++ l)) (h2 : wayQ pt (L + 1) i k = (wayQ pt L j m).map (fun l => (L + 1, i) :: l)) : o = (wayQ pt L j m).map (fun l => (xs ++ [(L + 1, i)]) ++ l) := by
  rw [h, h2, Option.map_map]
  congr 1
  funext l
  simp
/-- A way from a piece down to a key, from half to half. -/
inductive Path : Nat → Nat → List (Nat × Nat) → Prop
  | key (i : Nat) : Path 0 i [(0, i)]
  | half {L i j : Nat} {l : List (Nat × Nat)} (hj : j = 2 * i ∨ j = 2 * i + 1) (h : Path L j l) : Path (L + 1) i ((L + 1, i) :: l)
theorem wayQ_path {pt : Nat → Int → Int} : ∀ {L i : Nat} {k : Int} {l : List (Nat × Nat)}, wayQ pt L i k = some l → Path L i l
  | 0, i, k, l, h => by
    injection h with h
    subst h
    exact .key i
  | L + 1, i, k, l, h => by
    by_cases h1 : k ≤ pt L ((2 * i : Nat) : Int)
    · rw [wayQ_left h1] at h
      obtain ⟨m, h2, rfl⟩ := Option.map_eq_some_iff.1 h
      exact .half (.inl rfl) (wayQ_path h2)
    · cases hf : Wid.fit64 (k - pt L ((2 * i : Nat) : Int)) with
      | true =>
        rw [wayQ_right h1 hf] at h
        obtain ⟨m, h2, rfl⟩ := Option.map_eq_some_iff.1 h
        exact .half (.inr rfl) (wayQ_path h2)
      | false =>
        rw [wayQ_none h1 hf] at h
        cases h
theorem Path.ne {L i : Nat} {l : List (Nat × Nat)} (h : Path L i l) : l ≠ [] := by
  cases h <;> simp
theorem Path.len {L i : Nat} {l : List (Nat × Nat)} (h : Path L i l) : l.length = L + 1 := by
  induction h with
  | key i => rfl
  | half hj h ih => rw [List.length_cons, ih]
theorem Path.first {L i : Nat} {l : List (Nat × Nat)} (h : Path L i l) : l[0]? = some (L, i) := by
  cases h <;> rfl
/-- The key lies in the piece. -/
theorem Path.in {L i : Nat} {l : List (Nat × Nat)} (h : Path L i l) : i * 2 ^ L ≤ keyQ l ∧ keyQ l < (i + 1) * 2 ^ L := by
  induction h with
  | key i =>
    show i * 2 ^ 0 ≤ i ∧ i < (i + 1) * 2 ^ 0
    rw [Nat.pow_zero]
    omega
  | @half L i j l hj h ih =>
    rw [keyQ_cons _ h.ne]
    have e1 : i * 2 ^ (L + 1) = (2 * i) * 2 ^ L := by rw [Nat.pow_succ, Nat.mul_comm 2 i, Nat.mul_assoc, Nat.mul_comm 2]
    have e2 : (i + 1) * 2 ^ (L + 1) = (2 * i + 1 + 1) * 2 ^ L := by
      have e3 : 2 * i + 1 + 1 = 2 * (i + 1) := by omega
      rw [e3, Nat.pow_succ, Nat.mul_comm 2 (i + 1), Nat.mul_assoc, Nat.mul_comm 2]
    have e4 : (2 * i + 1) * 2 ^ L = 2 * i * 2 ^ L + 2 ^ L := by rw [Nat.succ_mul]
    have e5 : (2 * i + 1 + 1) * 2 ^ L = 2 * i * 2 ^ L + 2 ^ L + 2 ^ L := by rw [Nat.succ_mul, Nat.succ_mul]
    have hp := Nat.two_pow_pos L
    rw [e1, e2, e5]
    rcases hj with rfl | rfl
    · rw [e4] at ih
      omega
    · rw [e4, e5] at ih
      omega
/-- Each piece of the way: its level, and of which it is a half. -/
theorem Path.at {L i : Nat} {l : List (Nat × Nat)} (h : Path L i l) : ∀ (j : Nat) (p : Nat × Nat), l[j]? = some p → p.1 + j = L ∧ i * 2 ^ j ≤ p.2 ∧ p.2 < (i + 1) * 2 ^ j := by
  induction h with
  | key i =>
    intro j p hj
    cases j with
    | zero =>
      simp at hj
      subst hj
      simp
    | succ j => simp at hj
  | @half L i j0 l hj h ih =>
    intro j p hjp
    cases j with
    | zero =>
      simp at hjp
      subst hjp
      simp
    | succ j =>
      have h2 := ih j p (by simpa using hjp)
      have hp := Nat.two_pow_pos j
      have e1 : i * 2 ^ (j + 1) = (2 * i) * 2 ^ j := by rw [Nat.pow_succ, Nat.mul_comm 2 i, Nat.mul_assoc, Nat.mul_comm 2]
      have e2 : (i + 1) * 2 ^ (j + 1) = (2 * i + 1 + 1) * 2 ^ j := by
        have e3 : 2 * i + 1 + 1 = 2 * (i + 1) := by omega
        rw [e3, Nat.pow_succ, Nat.mul_comm 2 (i + 1), Nat.mul_assoc, Nat.mul_comm 2]
      have e4 : (2 * i + 1) * 2 ^ j = 2 * i * 2 ^ j + 2 ^ j := by rw [Nat.succ_mul]
      have e5 : (2 * i + 1 + 1) * 2 ^ j = 2 * i * 2 ^ j + 2 ^ j + 2 ^ j := by rw [Nat.succ_mul, Nat.succ_mul]
      rw [e1, e2, e5]
      obtain ⟨g1, g2, g3⟩ := h2
      rcases hj with rfl | rfl
      · rw [e4] at g3
        omega
      · rw [e4] at g2
        rw [e5] at g3
        omega
theorem Path.next {L i : Nat} {l : List (Nat × Nat)} (h : Path L i l) : ∀ (j : Nat) (p q : Nat × Nat), l[j]? = some p → l[j + 1]? = some q → q.1 + 1 = p.1 ∧ (q.2 = 2 * p.2 ∨ q.2 = 2 * p.2 + 1) := by
  induction h with
  | key i =>
    intro j p q _ hq
    simp at hq
  | @half L i j0 l hj h ih =>
    intro j p q hp hq
    cases j with
    | zero =>
      simp at hp hq
      subst hp
      rw [h.first] at hq
      injection hq with hq
      subst hq
      exact ⟨rfl, hj⟩
    | succ j => exact ih j p q (by simpa using hp) (by simpa using hq)
theorem Path.last {L i : Nat} {l : List (Nat × Nat)} (h : Path L i l) : l[L]? = some (0, keyQ l) := by
  induction h with
  | key i => rfl
  | @half L i j l hj h ih =>
    rw [keyQ_cons _ h.ne]
    simpa using ih
/-- What keys below the piece have. -/
theorem has_piece {us : Ups} (hu : ∀ u ∈ us, 0 ≤ u.1) (L i : Nat) : hasK ((i : Nat) : Int) (upN us L) = btw (i * 2 ^ L) (i * 2 ^ L + 2 ^ L) us := by
  have h := btw_piece (lo := i * 2 ^ L) (L := L) ⟨i, Nat.mul_comm _ _⟩ us hu
  rw [Nat.mul_div_cancel _ (Nat.two_pow_pos L)] at h
  exact h
theorem below_half {us : Ups} (L i : Nat) : btw 0 ((2 * i) * 2 ^ L) us = btw 0 (i * 2 ^ (L + 1)) us := by
  have e1 : i * 2 ^ (L + 1) = (2 * i) * 2 ^ L := by rw [Nat.pow_succ, Nat.mul_comm 2 i, Nat.mul_assoc, Nat.mul_comm 2]
  rw [e1]
theorem below_right {us : Ups} (hu : ∀ u ∈ us, 0 ≤ u.1) (L i : Nat) : btw 0 ((i + 1) * 2 ^ L) us = btw 0 (i * 2 ^ L) us + hasK ((i : Nat) : Int) (upN us L) := by
  rw [has_piece hu, btw_add (Nat.zero_le _) (Nat.le_add_right _ _), Nat.succ_mul]
theorem has_halves {us : Ups} (hu : ∀ u ∈ us, 0 ≤ u.1) (L i : Nat) : hasK ((i : Nat) : Int) (upN us (L + 1)) = hasK ((2 * i : Nat) : Int) (upN us L) + hasK ((2 * i + 1 : Nat) : Int) (upN us L) := by
  have h1 := below_right hu (L + 1) i
  have h2 := below_right hu L (2 * i)
  have h3 := below_right hu L (2 * i + 1)
  have e1 : (2 * i + 1 + 1) * 2 ^ L = (i + 1) * 2 ^ (L + 1) := by
    have e3 : 2 * i + 1 + 1 = 2 * (i + 1) := by omega
    rw [e3, Nat.pow_succ, Nat.mul_comm 2 (i + 1), Nat.mul_assoc, Nat.mul_comm 2]
  rw [e1] at h3
  rw [below_half] at h2
  omega
/-- How much too much is told of a piece's first half. -/
def ovQ (pt : Nat → Int → Int) (us : Ups) (p : Nat × Nat) : Int := if p.1 = 0 then 0 else pt (p.1 - 1) ((2 * p.2 : Nat) : Int) - hasK ((2 * p.2 : Nat) : Int) (upN us (p.1 - 1))
/-- All below the key have less than the rank, and it is not more than what all up to it have, and how much too much is told on the way. -/
theorem way_bounds {pt : Nat → Int → Int} {us : Ups} (hu : ∀ u ∈ us, 0 ≤ u.1) {B : Nat} (ho : ∀ (L i : Nat), L ≤ B → i < 2 ^ (B - L) → hasK ((i : Nat) : Int) (upN us L) ≤ pt L ((i : Nat) : Int)) :
    ∀ {L i : Nat} {k O : Int} {l : List (Nat × Nat)}, L ≤ B → i < 2 ^ (B - L) → wayQ pt L i k = some l → 1 ≤ k → 0 ≤ O → k ≤ hasK ((i : Nat) : Int) (upN us L) + O →
      btw 0 (keyQ l) us < k + btw 0 (i * 2 ^ L) us ∧ k + btw 0 (i * 2 ^ L) us ≤ btw 0 (keyQ l + 1) us + O + (l.map (ovQ pt us)).sum
  | 0, i, k, O, l, hL, hi, h, k1, hO, hk => by
    injection h with h
    subst h
    have e1 : keyQ [(0, i)] = i := rfl
    have e2 := below_right hu 0 i
    rw [Nat.pow_zero, Nat.mul_one, Nat.mul_one] at e2
    rw [e1, Nat.pow_zero, Nat.mul_one, e2]
    have e3 : ([(0, i)].map (ovQ pt us)).sum = 0 := by simp [ovQ]
    rw [e3]
    omega
  | L + 1, i, k, O, l, hL, hi, h, k1, hO, hk => by
    have hpw : 2 ^ (B - L) = 2 * 2 ^ (B - (L + 1)) := by
      have e : B - L = B - (L + 1) + 1 := by omega
      rw [e, Nat.pow_succ, Nat.mul_comm]
    have hov := ho L (2 * i) (by omega) (by omega)
    have e1 := has_halves hu L i
    have e2 := below_half (us := us) L i
    have e3 := below_right hu L (2 * i)
    have eo : ovQ pt us (L + 1, i) = pt L ((2 * i : Nat) : Int) - hasK ((2 * i : Nat) : Int) (upN us L) := by
      unfold ovQ
      rw [if_neg (by simp)]
      rfl
    by_cases h1 : k ≤ pt L ((2 * i : Nat) : Int)
    · rw [wayQ_left h1] at h
      obtain ⟨m, h2, rfl⟩ := Option.map_eq_some_iff.1 h
      have ih := way_bounds hu ho (O := pt L ((2 * i : Nat) : Int) - hasK ((2 * i : Nat) : Int) (upN us L)) (by omega) (by omega) h2 k1 (by omega) (by omega)
      rw [keyQ_cons _ (wayQ_path h2).ne, List.map_cons, List.sum_cons, eo]
      omega
    · cases hf : Wid.fit64 (k - pt L ((2 * i : Nat) : Int)) with
      | true =>
        rw [wayQ_right h1 hf] at h
        obtain ⟨m, h2, rfl⟩ := Option.map_eq_some_iff.1 h
        have ih := way_bounds hu ho (O := O) (by omega) (by omega) h2 (by omega) hO (by omega)
        rw [keyQ_cons _ (wayQ_path h2).ne, List.map_cons, List.sum_cons, eo]
        omega
      | false =>
        rw [wayQ_none h1 hf] at h
        cases h
theorem way_over {pt : Nat → Int → Int} {us : Ups} {B : Nat} (ho : ∀ (L i : Nat), L ≤ B → i < 2 ^ (B - L) → hasK ((i : Nat) : Int) (upN us L) ≤ pt L ((i : Nat) : Int)) {l : List (Nat × Nat)} (hl : Path B 0 l) : 0 ≤ (l.map (ovQ pt us)).sum := by
  have h2 : ∀ p ∈ l, (fun _ => (0 : Int)) p ≤ ovQ pt us p := by
    intro p hp
    obtain ⟨j, hj⟩ := List.getElem?_of_mem hp
    obtain ⟨g1, g2, g3⟩ := hl.at j p hj
    show 0 ≤ ovQ pt us p
    unfold ovQ
    by_cases h0 : p.1 = 0
    · rw [if_pos h0]
      exact Int.le_refl _
    · rw [if_neg h0]
      have e : B - (p.1 - 1) = j + 1 := by omega
      have h3 := ho (p.1 - 1) (2 * p.2) (by omega) (by rw [e, Nat.pow_succ]; omega)
      omega
  have h3 := sum_le h2
  have h4 : (l.map (fun _ => (0 : Int))).sum = 0 := by
    clear h2 h3 hl
    induction l with
    | nil => rfl
    | cons p l ih => rw [List.map_cons, List.sum_cons, ih]; rfl
  omega
/-- The rank always fits, where no more than M is told of any piece. -/
theorem way_fits {pt : Nat → Int → Int} {B : Nat} {M : Int} (hM : 0 ≤ M) (hp : ∀ (L i : Nat), L ≤ B → i < 2 ^ (B - L) → -M ≤ pt L ((i : Nat) : Int)) : ∀ {L i : Nat} {k : Int}, L ≤ B → i < 2 ^ (B - L) → 1 ≤ k → k + M * L ≤ 4611686018427387904 → ∃ l, wayQ pt L i k = some l
  | 0, i, k, _, _, _, _ => ⟨_, rfl⟩
  | L + 1, i, k, hL, hi, k1, hk => by
    have hpw : 2 ^ (B - L) = 2 * 2 ^ (B - (L + 1)) := by
      have e : B - L = B - (L + 1) + 1 := by omega
      rw [e, Nat.pow_succ, Nat.mul_comm]
    have e : M * ((L + 1 : Nat) : Int) = M * (L : Int) + M := by rw [Int.natCast_add, Int.mul_add]; simp
    have hML : 0 ≤ M * (L : Int) := Int.mul_nonneg hM (by omega)
    have h2 := hp L (2 * i) (by omega) (by omega)
    rw [e] at hk
    by_cases h1 : k ≤ pt L ((2 * i : Nat) : Int)
    · obtain ⟨l, hl⟩ := way_fits hM hp (L := L) (i := 2 * i) (k := k) (by omega) (by omega) k1 (by omega)
      exact ⟨_, by rw [wayQ_left h1, hl]; rfl⟩
    · have hf : Wid.fit64 (k - pt L ((2 * i : Nat) : Int)) = true := decide_eq_true (by omega)
      obtain ⟨l, hl⟩ := way_fits hM hp (L := L) (i := 2 * i + 1) (k := k - pt L ((2 * i : Nat) : Int)) (by omega) (by omega) (by omega) (by omega)
      exact ⟨_, by rw [wayQ_right h1 hf, hl]; rfl⟩
/-- A greater rank never leads to a lesser key. -/
theorem way_rises {pt : Nat → Int → Int} : ∀ {L i : Nat} {k m : Int} {l1 l2 : List (Nat × Nat)}, wayQ pt L i k = some l1 → wayQ pt L i m = some l2 → k ≤ m → keyQ l1 ≤ keyQ l2
  | 0, i, k, m, l1, l2, h1, h2, _ => by
    injection h1 with h1
    injection h2 with h2
    subst h1
    subst h2
    exact Nat.le_refl _
  | L + 1, i, k, m, l1, l2, h1, h2, hkm => by
    by_cases a1 : k ≤ pt L ((2 * i : Nat) : Int)
    · rw [wayQ_left a1] at h1
      obtain ⟨x1, g1, rfl⟩ := Option.map_eq_some_iff.1 h1
      rw [keyQ_cons _ (wayQ_path g1).ne]
      by_cases a2 : m ≤ pt L ((2 * i : Nat) : Int)
      · rw [wayQ_left a2] at h2
        obtain ⟨x2, g2, rfl⟩ := Option.map_eq_some_iff.1 h2
        rw [keyQ_cons _ (wayQ_path g2).ne]
        exact way_rises g1 g2 hkm
      · cases hf : Wid.fit64 (m - pt L ((2 * i : Nat) : Int)) with
        | true =>
          rw [wayQ_right a2 hf] at h2
          obtain ⟨x2, g2, rfl⟩ := Option.map_eq_some_iff.1 h2
          rw [keyQ_cons _ (wayQ_path g2).ne]
          have b1 := (wayQ_path g1).in
          have b2 := (wayQ_path g2).in
          omega
        | false =>
          rw [wayQ_none a2 hf] at h2
          cases h2
    · have a2 : ¬ m ≤ pt L ((2 * i : Nat) : Int) := by omega
      cases hf : Wid.fit64 (k - pt L ((2 * i : Nat) : Int)) with
      | true =>
        rw [wayQ_right a1 hf] at h1
        obtain ⟨x1, g1, rfl⟩ := Option.map_eq_some_iff.1 h1
        cases hf2 : Wid.fit64 (m - pt L ((2 * i : Nat) : Int)) with
        | true =>
          rw [wayQ_right a2 hf2] at h2
          obtain ⟨x2, g2, rfl⟩ := Option.map_eq_some_iff.1 h2
          rw [keyQ_cons _ (wayQ_path g1).ne, keyQ_cons _ (wayQ_path g2).ne]
          exact way_rises g1 g2 (by omega)
        | false =>
          rw [wayQ_none a2 hf2] at h2
          cases h2
      | false =>
        rw [wayQ_none a1 hf] at h1
        cases h1
/-- Where just what is there is told, the key is the first one up to which all have the rank. -/
theorem btw_rises {us : Ups} (hn : ∀ (i : Nat), 0 ≤ hasK ((i : Nat) : Int) us) (hu : ∀ u ∈ us, 0 ≤ u.1) {a : Nat} : ∀ {b : Nat}, a ≤ b → btw 0 a us ≤ btw 0 b us
  | 0, h => by
    obtain rfl : a = 0 := by omega
    exact Int.le_refl _
  | b + 1, h => by
    by_cases e : a = b + 1
    · subst e
      exact Int.le_refl _
    · have ih := btw_rises hn hu (a := a) (b := b) (by omega)
      have h2 := below_right hu 0 b
      rw [Nat.pow_zero, Nat.mul_one, Nat.mul_one] at h2
      have h3 := hn b
      have h4 : upN us 0 = us := by
        unfold upN
        have : (fun u : Int × Int => (upK u.1 0, u.2)) = id := by
          funext u
          simp [upK]
        rw [this, List.map_id]
      rw [h4] at h2
      omega
/-- What Way and Quantile answer. -/
def qnC (c : Cfg) (pt : Nat → Int → Int) (k : Int) : Int := if k < 1 ∨ pt c.bt.toNat 0 < k then 6 else if (wayQ pt c.bt.toNat 0 k).isSome = true then 0 else 4
def qnL (c : Cfg) (pt : Nat → Int → Int) (k : Int) : List (Nat × Nat) := if qnC c pt k = 0 then (wayQ pt c.bt.toNat 0 k).getD [] else []
def qnV (c : Cfg) (pt : Nat → Int → Int) (k : Int) : Int := ((keyQ (qnL c pt k) : Nat) : Int)
theorem qn_yes {c : Cfg} {pt : Nat → Int → Int} {k : Int} {l : List (Nat × Nat)} (h1 : 1 ≤ k) (h2 : k ≤ pt c.bt.toNat 0) (h : wayQ pt c.bt.toNat 0 k = some l) : qnC c pt k = 0 ∧ qnL c pt k = l ∧ qnV c pt k = ((keyQ l : Nat) : Int) := by
  have e1 : qnC c pt k = 0 := by unfold qnC; rw [if_neg (by omega), h]; rfl
  have e2 : qnL c pt k = l := by unfold qnL; rw [if_pos e1, h]; rfl
  exact ⟨e1, e2, by unfold qnV; rw [e2]⟩
theorem qn_over {c : Cfg} {pt : Nat → Int → Int} {k : Int} (h1 : 1 ≤ k) (h2 : k ≤ pt c.bt.toNat 0) (h : wayQ pt c.bt.toNat 0 k = none) : qnC c pt k = 4 ∧ qnL c pt k = [] ∧ qnV c pt k = 0 := by
  have e1 : qnC c pt k = 4 := by unfold qnC; rw [if_neg (by omega), h]; rfl
  have e2 : qnL c pt k = [] := by unfold qnL; rw [if_neg (by omega)]
  exact ⟨e1, e2, by unfold qnV; rw [e2]; rfl⟩
theorem qn_rank {c : Cfg} {pt : Nat → Int → Int} {k : Int} (h : k < 1 ∨ pt c.bt.toNat 0 < k) : qnC c pt k = 6 ∧ qnL c pt k = [] ∧ qnV c pt k = 0 := by
  have e1 : qnC c pt k = 6 := by unfold qnC; rw [if_pos h]
  have e2 : qnL c pt k = [] := by unfold qnL; rw [if_neg (by omega)]
  exact ⟨e1, e2, by unfold qnV; rw [e2]; rfl⟩
end Go.Proofs.YtiblpdjehknbcaaGreat.Qnt
/- An array of sixty pieces, of which the first are laid. By hand. -/
namespace Go.Proofs.YtiblpdjehknbcaaGreat.Qnt
open Go Go.RowKit Lw
set_option linter.unusedVariables false
/-- The j-th cell of the array whose first pieces are these. -/
def celP (ps : List (Nat × Nat)) (j : Nat) : Value := if j % 2 = 0 then .int .i64 ((((ps[j / 2]?).map (fun p => p.1)).getD 0 : Nat) : Int) else .int .u64 ((((ps[j / 2]?).map (fun p => p.2)).getD 0 : Nat) : Int)
def arrP (ps : List (Nat × Nat)) : Array Value := ((List.range 120).map (celP ps)).toArray
theorem arrP_size (ps : List (Nat × Nat)) : (arrP ps).size = 120 := by unfold arrP; simp
theorem arrP_get {ps : List (Nat × Nat)} {j : Nat} (h : j < 120) : (arrP ps)[j]? = some (celP ps j) := by
  unfold arrP
  rw [List.getElem?_toArray, List.getElem?_map, List.getElem?_range h]
  rfl
theorem celP_lev {ps : List (Nat × Nat)} {j : Nat} {p : Nat × Nat} (h : ps[j]? = some p) : celP ps (j * 2) = .int .i64 (p.1 : Int) := by
  unfold celP
  rw [if_pos (by omega), Nat.mul_div_cancel _ (by omega), h]
  rfl
theorem celP_ix {ps : List (Nat × Nat)} {j : Nat} {p : Nat × Nat} (h : ps[j]? = some p) : celP ps (j * 2 + 1) = .int .u64 (p.2 : Int) := by
  have e : (j * 2 + 1) / 2 = j := by omega
  unfold celP
  rw [if_neg (by omega), e, h]
  rfl
theorem celP_one (ps : List (Nat × Nat)) (j : Nat) : (celP ps j).oneCell' = true := by
  unfold celP
  split <;> rfl
theorem arrP_one (ps : List (Nat × Nat)) : (arrP ps).all (·.oneCell') = true := by
  rw [Array.all_eq_true_iff_forall_mem]
  intro v hv
  unfold arrP at hv
  simp only [List.mem_toArray, List.mem_map] at hv
  obtain ⟨j, -, rfl⟩ := hv
  exact celP_one ps j
/-- One piece more. -/
theorem arrP_set {ps : List (Nat × Nat)} {j L i : Nat} (hl : ps.length = j) (hj : j < 60) : ((arrP ps).setIfInBounds (j * 2) (.int .i64 (L : Int))).setIfInBounds (j * 2 + 1) (.int .u64 (i : Int)) = arrP (ps ++ [(L, i)]) := by
  apply Array.ext_getElem?
  intro m
  rw [Array.getElem?_setIfInBounds, Array.getElem?_setIfInBounds]
  have hat : (ps ++ [(L, i)])[j]? = some (L, i) := by
    subst hl
    rw [List.getElem?_append_right (Nat.le_refl _)]
    simp
  by_cases hm : m < 120
  · rw [arrP_get hm, arrP_get hm]
    by_cases h1 : j * 2 + 1 = m
    · subst h1
      rw [if_pos rfl, if_pos (by rw [Array.size_setIfInBounds, arrP_size]; exact hm), celP_ix hat]
    · rw [if_neg h1]
      by_cases h2 : j * 2 = m
      · subst h2
        rw [if_pos rfl, if_pos (by rw [arrP_size]; exact hm), celP_lev hat]
      · rw [if_neg h2]
        congr 1
        unfold celP
        have h3 : m / 2 ≠ j := by omega
        have h4 : (ps ++ [(L, i)])[m / 2]? = ps[m / 2]? := by
          by_cases h5 : m / 2 < ps.length
          · rw [List.getElem?_append_left h5]
          · rw [List.getElem?_eq_none (by rw [List.length_append, List.length_singleton]; omega), List.getElem?_eq_none (by omega)]
        rw [h4]
  · have h1 : ¬ j * 2 + 1 = m := by omega
    have h2 : ¬ j * 2 = m := by omega
    rw [if_neg h1, if_neg h2, Array.getElem?_eq_none (by rw [arrP_size]; omega), Array.getElem?_eq_none (by rw [arrP_size]; omega)]
theorem celP_nil (j : Nat) : celP [] j = if j % 2 = 0 then .int .i64 0 else .int .u64 0 := by
  unfold celP
  split <;> rfl
theorem celP_nil_ix (j : Nat) : celP [] (j * 2 + 1) = .int .u64 0 := by
  rw [celP_nil, if_neg (by omega)]
/-- The pieces' cells, in order. -/
theorem flat_arr {ps : List (Nat × Nat)} (h : ps.length ≤ 60) : ∀ (j : Nat) (v : Value), (Pcs.flatP (Pcs.ints ps))[j]? = some v → (arrP ps)[j]? = some v := by
  intro j v hv
  have hlen : (Pcs.flatP (Pcs.ints ps)).length = 2 * ps.length := by rw [Pcs.flatP_len, Pcs.ints_len]
  have hj : j < 2 * ps.length := by
    have := (List.getElem?_eq_some_iff.1 hv).1
    omega
  rw [arrP_get (by omega)]
  obtain ⟨p, hp⟩ : ∃ p, ps[j / 2]? = some p := ⟨_, List.getElem?_eq_getElem (by omega)⟩
  have h2 := Pcs.flatP_get (Pcs.ints_get hp)
  by_cases hm : j % 2 = 0
  · have e : j = j / 2 * 2 := by omega
    rw [e] at hv ⊢
    rw [h2.1] at hv
    rw [celP_lev hp]
    exact hv
  · have e : j = j / 2 * 2 + 1 := by omega
    rw [e] at hv ⊢
    rw [h2.2] at hv
    rw [celP_ix hp]
    exact hv
theorem way_size : (Tryz.prog.info? 86).map (·.size) = some 120 := by kernel_rfl
theorem way_und : Tryz.prog.underlying 86 = some (.array 60 61) := by kernel_rfl
theorem way_zero : Tryz.zeroCells86 = arrP [] := by kernel_rfl
end Go.Proofs.YtiblpdjehknbcaaGreat.Qnt
/- add of layer 16's laws; the low bits of a number. Printed by wip/gen/spn8.py. -/
namespace Go.Proofs.YtiblpdjehknbcaaGreat.Spn
open Go Go.RowKit Lw Grd Lin Con Shp Sk Exa Lev Stk Pcs
set_option linter.unusedVariables false
set_option linter.unusedSimpArgs false
theorem and_low (a : Int) (m : Nat) (hm : m < 4611686018427387904) : ∃ v : Nat, v ≤ m ∧ bits .and .i64 a (m : Int) = (v : Int) := by
  refine ⟨(BitVec.ofInt 64 a &&& BitVec.ofInt 64 (m : Int)).toNat, ?_, ?_⟩
  · rw [BitVec.toNat_and]
    have h : (BitVec.ofInt 64 (m : Int)).toNat = m := by
      rw [BitVec.toNat_ofInt]
      omega
    rw [h]
    exact Nat.and_le_right
  · rw [and_i64, BitVec.toInt_eq_toNat_cond]
    have h : (BitVec.ofInt 64 a &&& BitVec.ofInt 64 (m : Int)).toNat ≤ m := by
      rw [BitVec.toNat_and]
      have h : (BitVec.ofInt 64 (m : Int)).toNat = m := by
        rw [BitVec.toNat_ofInt]
        omega
      rw [h]
      exact Nat.and_le_right
    rw [if_pos (by omega)]
theorem wrap3 (x : Int) (h0 : -18446744073709551616 ≤ x) (h1 : x ≤ 18446744073709551614) : (Wid.fit64 x = true ∧ wrap64 x = x) ∨ (Wid.fit64 x = false ∧ 9223372036854775808 ≤ x ∧ wrap64 x = x - 18446744073709551616) ∨ (Wid.fit64 x = false ∧ x < -9223372036854775808 ∧ wrap64 x = x + 18446744073709551616) := by
  by_cases h : -9223372036854775808 ≤ x ∧ x < 9223372036854775808
  · exact .inl ⟨decide_eq_true h, IntWalk.wrap64_in _ ⟨by omega, by omega⟩⟩
  · have hf : Wid.fit64 x = false := decide_eq_false h
    by_cases h2 : 9223372036854775808 ≤ x
    · refine .inr (.inl ⟨hf, h2, ?_⟩)
      unfold wrap64
      omega
    · refine .inr (.inr ⟨hf, by omega, ?_⟩)
      unfold wrap64
      omega
end Go.Proofs.YtiblpdjehknbcaaGreat.Spn
/- The document's Cut of layer 15. Printed by wip/gen/stk.py. -/
namespace Go.Proofs.YtiblpdjehknbcaaGreat.Stk
open Go Go.RowKit Lw Grd Lin Con Shp Sk Exa Lev
set_option linter.unusedVariables false
set_option linter.unusedSimpArgs false
set_option maxRecDepth 100000 in
set_option maxHeartbeats 4000000 in
theorem rcut15_any (c : Cfg) (k d : Int) (w : World) (h : c.Ok) (k0 : 0 ≤ k) (k1 : k ≤ 18446744073709551615) (d0 : -9223372036854775808 ≤ d) (d1 : d ≤ 9223372036854775807) (hK : 1 ≤ keys c 0) :
    Calls Tryz.prog 27 #[.agg #[.int .i64 c.bt, .int .i64 c.rw, .int .i64 c.wd, .int .i64 c.md, .int .u64 c.sd], .agg #[.int .u64 k, .int .i64 d]] w fun e w' => e = .returned (.agg #[.int .u64 (cutU c 0 (k, d)).1, .int .i64 (cutU c 0 (k, d)).2]) ∧ Below w.heap.size w w' := by
  have HO := Lib.hid h
  obtain ⟨K, hKK⟩ : ∃ K, keys c 0 = K := ⟨_, rfl⟩
  have CK := Lib.hid (fun w => rkeys_any c 0 w h (by omega) (by omega))
  rw [hKK] at CK hK
  obtain ⟨r1, r2, r3⟩ := rem_key k K k0 k1 hK
  have hKn : ¬ K = 0 := by omega
  have h1 := tmod_bd d
  obtain ⟨t, ht⟩ : ∃ t, Int.tmod d 1099511627776 = t := ⟨_, rfl⟩
  have hdv : (cutU c 0 (k, d)).2 = if c.md = 2 ∧ t < 0 then -t else t := by
    unfold cutU dv
    simp only [decide_eq_true_eq, ht]
    split <;> split <;> first | rfl | omega
  have hck : (cutU c 0 (k, d)).1 = k % K := by unfold cutU; rw [hKK]
  obtain ⟨R, hR⟩ : ∃ R, k % K = R := ⟨_, rfl⟩
  rw [hR] at r1 r2 r3 hck
  rw [hck]
  rw [ht] at h1
  obtain ⟨D, hD⟩ : ∃ D, (cutU c 0 (k, d)).2 = D := ⟨_, rfl⟩
  rw [hD] at hdv ⊢
  clear hKK hck hR hD h
  have go : ∀ b : Bool, (c.md == 2) = b → ∀ (s : Bool), decide (t < 0) = s → D = (if b = true ∧ s = true then -t else t) → Calls Tryz.prog 27 #[.agg #[.int .i64 c.bt, .int .i64 c.rw, .int .i64 c.wd, .int .i64 c.md, .int .u64 c.sd], .agg #[.int .u64 k, .int .i64 d]] w fun e w' => e = .returned (.agg #[.int .u64 R, .int .i64 D]) ∧ Below w.heap.size w w' := by
    clear hdv
    intro b hb s hs hd
    have HD := Lib.hid hd
    clear hd
    have hts : (s = true ∧ t < 0 ∧ t ≤ -t) ∨ (s = false ∧ 0 ≤ t ∧ -t ≤ t) := by
      cases s with
      | true => left; have := of_decide_eq_true hs; exact ⟨rfl, this, by omega⟩
      | false => right; have := of_decide_eq_false hs; exact ⟨rfl, by omega, by omega⟩
    clear hs
    cases b with
    | false =>
      go_enter Tryz.func27, Tryz.ntmps27
      go_wp2
      go_region_held3 (fun w' => w'.cell? ⟨w.heap.size, 0, none⟩ = some (.int .i64 c.bt) ∧ w'.cell? ⟨w.heap.size, 1, none⟩ = some (.int .i64 c.rw) ∧ w'.cell? ⟨w.heap.size, 2, none⟩ = some (.int .i64 c.wd) ∧ w'.cell? ⟨w.heap.size, 3, none⟩ = some (.int .i64 c.md) ∧ w'.cell? ⟨w.heap.size, 4, none⟩ = some (.int .u64 c.sd) ∧ w'.cell? ⟨w.heap.size + 1, 0, none⟩ = some (.int .u64 k)) (simp [go_sem]) (first | (go_at_call 24; (with_reducible refine (CK.out _).mono ?_); rintro e w' ⟨rfl, hb⟩; obtain ⟨bs, dd, rfl⟩ := below_grow hb; clear hb))
      go_wp2
      go_returns
      exact ⟨by rw [HD.out]; rfl, (by repeat' (first | (with_reducible exact Below.refl _ _) | (with_reducible assumption) | (with_reducible refine below_over ?_ _ _) | (with_reducible refine Lw.below_alloc ?_ _) | (with_reducible refine Below.drew ?_) | (with_reducible refine below_drewN ?_ _) | (with_reducible refine Below.setCell ?_ ?_ _) | go_size))⟩
    | true =>
      rcases hts with ⟨rfl, ht0, ht1⟩ | ⟨rfl, ht0, ht1⟩
      · skip
        go_enter Tryz.func27, Tryz.ntmps27
        go_wp2
        go_region_held3 (fun w' => w'.cell? ⟨w.heap.size, 0, none⟩ = some (.int .i64 c.bt) ∧ w'.cell? ⟨w.heap.size, 1, none⟩ = some (.int .i64 c.rw) ∧ w'.cell? ⟨w.heap.size, 2, none⟩ = some (.int .i64 c.wd) ∧ w'.cell? ⟨w.heap.size, 3, none⟩ = some (.int .i64 c.md) ∧ w'.cell? ⟨w.heap.size, 4, none⟩ = some (.int .u64 c.sd) ∧ w'.cell? ⟨w.heap.size + 1, 0, none⟩ = some (.int .u64 k)) (simp [go_sem]) (first | (go_at_call 24; (with_reducible refine (CK.out _).mono ?_); rintro e w' ⟨rfl, hb⟩; obtain ⟨bs, dd, rfl⟩ := below_grow hb; clear hb))
        go_wp2
        go_returns
        exact ⟨by rw [HD.out]; rfl, (by repeat' (first | (with_reducible exact Below.refl _ _) | (with_reducible assumption) | (with_reducible refine below_over ?_ _ _) | (with_reducible refine Lw.below_alloc ?_ _) | (with_reducible refine Below.drew ?_) | (with_reducible refine below_drewN ?_ _) | (with_reducible refine Below.setCell ?_ ?_ _) | go_size))⟩
      · skip
        go_enter Tryz.func27, Tryz.ntmps27
        go_wp2
        go_region_held3 (fun w' => w'.cell? ⟨w.heap.size, 0, none⟩ = some (.int .i64 c.bt) ∧ w'.cell? ⟨w.heap.size, 1, none⟩ = some (.int .i64 c.rw) ∧ w'.cell? ⟨w.heap.size, 2, none⟩ = some (.int .i64 c.wd) ∧ w'.cell? ⟨w.heap.size, 3, none⟩ = some (.int .i64 c.md) ∧ w'.cell? ⟨w.heap.size, 4, none⟩ = some (.int .u64 c.sd) ∧ w'.cell? ⟨w.heap.size + 1, 0, none⟩ = some (.int .u64 k)) (simp [go_sem]) (first | (go_at_call 24; (with_reducible refine (CK.out _).mono ?_); rintro e w' ⟨rfl, hb⟩; obtain ⟨bs, dd, rfl⟩ := below_grow hb; clear hb))
        go_wp2
        go_returns
        exact ⟨by rw [HD.out]; rfl, (by repeat' (first | (with_reducible exact Below.refl _ _) | (with_reducible assumption) | (with_reducible refine below_over ?_ _ _) | (with_reducible refine Lw.below_alloc ?_ _) | (with_reducible refine Below.drew ?_) | (with_reducible refine below_drewN ?_ _) | (with_reducible refine Below.setCell ?_ ?_ _) | go_size))⟩
  refine go (c.md == 2) rfl (decide (t < 0)) rfl ?_
  rw [hdv]
  simp

end Go.Proofs.YtiblpdjehknbcaaGreat.Stk
/- The document's Has: what the keys of a prefix have. Printed by wip/gen/stk3.py. -/
namespace Go.Proofs.YtiblpdjehknbcaaGreat.Stk
open Go Go.RowKit Lw Grd Lin Con Shp Sk Exa Lev
set_option linter.unusedVariables false
set_option linter.unusedSimpArgs false
theorem lt_sz {a b : Nat} (h : a < b) (x : Nat) : a < b + x := by omega
theorem shr_at {U : Int} {n : Nat} (hn : n ≤ 63) : U / 2 ^ min n 64 = upK U n := by
  unfold upK
  rw [Nat.min_eq_left (by omega)]
  simp
theorem upN_snoc (us : Ups) (u : Int × Int) (n : Nat) (i : Int) : hasK i (upN (us ++ [u]) n) = hasK i (upN us n) + (if upK u.1 n = i then u.2 else 0) := by
  rw [upN_app, hasK_app]
  congr 1
  exact has_one i (upK u.1 n, u.2)
theorem hasN_bd {c : Cfg} (hk : 1 ≤ keys c 0) (qs : Ups) (j n : Nat) (i : Int) (hj : j ≤ 60) : -65970697666560 ≤ hasK i (upN (upsR c 0 qs 0 j) n) ∧ hasK i (upN (upsR c 0 qs 0 j) n) ≤ 65970697666560 := by
  have h := upsR_in hk qs 0 j
  have hl := upsR_len c 0 qs 0 j
  have h2 := hasK_bd (k := i) (b := 1099511627776) (by omega) (us := upN (upsR c 0 qs 0 j) n) (fun v hv => by
    obtain ⟨u, hu, rfl⟩ := List.mem_map.1 hv
    exact ⟨(h.1 u hu).2.2.1, (h.1 u hu).2.2.2⟩)
  rw [upN_len] at h2
  omega
set_option maxRecDepth 100000 in
set_option maxHeartbeats 4000000 in
theorem rhas_any (c : Cfg) (A : Option Addr) (n0 k0 : Nat) (qs : Ups) (n : Nat) (i : Int) (w : World) (hco : c.Ok) (hkeys : 1 ≤ keys c 0) (hq : UpdV w A n0 k0 qs) (hn : n ≤ 63) (i0 : 0 ≤ i) (i1 : i ≤ 18446744073709551615) :
    Calls Tryz.prog 22 #[.agg #[.int .i64 c.bt, .int .i64 c.rw, .int .i64 c.wd, .int .i64 c.md, .int .u64 c.sd], .slice A n0 k0, .agg #[.int .i64 (n : Int), .int .u64 i]] w fun e w' => e = .returned (.int .i64 (hasK i (upN (upsR c 0 qs 0 60) n))) ∧ Below w.heap.size w w' := by
  have HQ := Lib.hid hq
  have HL := Lib.hid hq.len
  have hnc := hq.nc
  have hcm := hq.cm
  unfold maxLen at hcm
  have HKY := Lib.hid hkeys
  have HBD := Lib.hid (fun j (hj : j ≤ 60) => hasN_bd (c := c) hkeys qs j n i hj)
  have HSR := Lib.hid (fun U => shr_at (U := U) hn)
  have CC0 := Lib.hid (fun w k d h0 h1 h2 h3 => rcut15_any c k d w hco h0 h1 h2 h3 hkeys)
  have HBX : Hid (Have w ((w.alloc (.cells #[.int .i64 c.bt, .int .i64 c.rw, .int .i64 c.wd, .int .i64 c.md, .int .u64 c.sd] 24)).alloc (.cells #[.int .i64 (n : Int), .int .u64 i] 61)) [boxT (w.heap.size + 1) 61 #[.int .i64 (n : Int), .int .u64 i], boxT w.heap.size 24 #[.int .i64 c.bt, .int .i64 c.rw, .int .i64 c.wd, .int .i64 c.md, .int .u64 c.sd]]) := Lib.hid (two_boxs w _ _ _ _)
  have hu : IntKind.u64.wrap (n : Int) = n := by rw [IntKind.wrap_u64]; omega
  clear hq hkeys hco
  go_enter Tryz.func22, Tryz.ntmps22
  go_wp2
  go_loopw [7, 8] (fun sv iv wr => ∃ (j : Nat), j ≤ n0 ∧ j ≤ 60 ∧ iv = .int .i64 j ∧ sv = .int .i64 (hasK i (upN (upsR c 0 qs 0 j) n)) ∧ Have w wr [boxT (w.heap.size + 1) 61 #[.int .i64 (n : Int), .int .u64 i], boxT w.heap.size 24 #[.int .i64 c.bt, .int .i64 c.rw, .int .i64 c.wd, .int .i64 c.md, .int .u64 c.sd]]) (fun _ iv _ => n0 - (intOf iv).toNat)
  case atStart => exact ⟨0, Nat.zero_le _, Nat.zero_le _, rfl, by rw [upsR_zero]; rfl, HBX.out⟩
  case round =>
    obtain ⟨j, hj, hj6, rfl, rfl, hv⟩ := hrel
    have HVr := Lib.hid hv
    have hwb := hv.below
    have hbd := HBD.out j hj6
    obtain ⟨X, hX⟩ : ∃ X, hasK i (upN (upsR c 0 qs 0 j) n) = X := ⟨_, rfl⟩
    have HX := Lib.hid hX
    rw [hX] at hbd ⊢
    clear hv hX
    by_cases hlt : j < n0 ∧ j < 60
    · obtain ⟨hj1, hj2⟩ := hlt
      obtain ⟨q, hq1⟩ : ∃ q, qs[j]? = some q := ⟨_, List.getElem?_eq_getElem (by rw [HL.out]; omega)⟩
      have hnx := upsR_next (c := c) (l := 0) hq1 (Nat.zero_le j)
      have hsn := upN_snoc (upsR c 0 qs 0 j) (cutU c 0 q) n i
      rw [← hnx, HX.out] at hsn
      have hcu := cutU_ok HKY.out q
      obtain ⟨a, g, o, rfl, hadd, d1w, d2w, kb, db⟩ := HQ.out.at hq1
      obtain ⟨qk, qd⟩ := q
      simp only at d1w d2w kb db
      have d1 := cell_up d1w hwb
      have d2 := cell_up d2w hwb
      obtain ⟨e1, e2, e3, e4, e5⟩ := box5 HVr.out.i1
      have p1 := box_cell (i := 0) HVr.out.i0 rfl
      have p2 := box_cell (i := 1) HVr.out.i0 rfl
      have CC := Lib.hid (fun w => CC0.out w qk qd kb.1 kb.2 db.1 db.2)
      obtain ⟨U, hU⟩ : ∃ U, (cutU c 0 (qk, qd)).1 = U := ⟨_, rfl⟩
      obtain ⟨D, hD⟩ : ∃ D, (cutU c 0 (qk, qd)).2 = D := ⟨_, rfl⟩
      rw [hU, hD] at CC hcu hsn
      have hsr := HSR.out U
      obtain ⟨V, hV⟩ : ∃ V, upK U n = V := ⟨_, rfl⟩
      rw [hV] at hsr hsn
      have hsr2 : U / 2 ^ n = V := by rw [← hsr, Nat.min_eq_left (by omega)]
      have hdb : -1099511627776 ≤ D ∧ D ≤ 1099511627776 := ⟨hcu.2.2.1, hcu.2.2.2.1⟩
      have wx : wrap64 (X + D) = X + D := IntWalk.wrap64_in _ ⟨by omega, by omega⟩
      have wx2 : IntKind.i64.wrap (X + D) = X + D := IntWalk.i64_in _ ⟨by omega, by omega⟩
      obtain ⟨Y, hY⟩ : ∃ Y, X + D = Y := ⟨_, rfl⟩
      have wy : wrap64 (X + D) = Y := by rw [wx, hY]
      have wy2 : IntKind.i64.wrap (X + D) = Y := by rw [wx2, hY]
      have hsz := box_lt HVr.out.i0
      have lz := lt_sz hsz
      clear hq1 hnx hU hD hV hcu d1w d2w hwb wx wx2
      by_cases hvi : V = i
      · rw [if_pos hvi, hY] at hsn
        have HSN := Lib.hid hsn
        subst hvi
        clear hsn hY hdb hbd
        go_upto_region 6 with fail
        go_region_held3 (fun w' => w'.cell? ⟨w.heap.size, 0, none⟩ = some (.int .i64 c.bt) ∧ w'.cell? ⟨w.heap.size, 1, none⟩ = some (.int .i64 c.rw) ∧ w'.cell? ⟨w.heap.size, 2, none⟩ = some (.int .i64 c.wd) ∧ w'.cell? ⟨w.heap.size, 3, none⟩ = some (.int .i64 c.md) ∧ w'.cell? ⟨w.heap.size, 4, none⟩ = some (.int .u64 c.sd) ∧ w'.cell? ⟨g, o, none⟩ = some (.int .u64 qk) ∧ w'.cell? ⟨g, o + 1, none⟩ = some (.int .i64 qd)) (first | (refine ⟨?_, ?_, ?_, ?_, ?_, ?_, ?_⟩ <;> (first | (with_reducible assumption) | (with_reducible refine cell_up e1 ?_) | (with_reducible refine cell_up e2 ?_) | (with_reducible refine cell_up e3 ?_) | (with_reducible refine cell_up e4 ?_) | (with_reducible refine cell_up e5 ?_) | (with_reducible refine cell_up d1 ?_) | (with_reducible refine cell_up d2 ?_)) <;> (repeat' (first | (with_reducible exact Below.refl _ _) | (with_reducible assumption) | (with_reducible refine below_over ?_ _ _) | (with_reducible refine Lw.below_alloc ?_ _) | (with_reducible refine Below.drew ?_) | (with_reducible refine below_drewN ?_ _) | (with_reducible refine Below.setCell ?_ ?_ _) | go_size)))) (first | (go_at_call 27; (with_reducible refine (CC.out _).mono ?_); rintro e w' ⟨rfl, hb⟩; obtain ⟨bs, dd, rfl⟩ := below_grow hb; clear hb))
        all_goals go_wp2
        all_goals go_roundw
        all_goals first
          | exact ⟨j + 1, by omega, by omega, by go_num, by rw [HSN.out], HVr.out.up (by repeat' (first | (with_reducible exact Below.refl _ _) | (with_reducible assumption) | (with_reducible refine below_over ?_ _ _) | (with_reducible refine Lw.below_alloc ?_ _) | (with_reducible refine Below.drew ?_) | (with_reducible refine below_drewN ?_ _) | (with_reducible refine Below.setCell ?_ ?_ _) | go_size))⟩
          | (simp [intOf]; omega)
      · rw [if_neg hvi, Int.add_zero] at hsn
        have HSN := Lib.hid hsn
        have hvb : (V == i) = false := by simpa using hvi
        clear hsn hY hdb hbd wy wy2
        go_upto_region 6 with fail
        go_region_held3 (fun w' => w'.cell? ⟨w.heap.size, 0, none⟩ = some (.int .i64 c.bt) ∧ w'.cell? ⟨w.heap.size, 1, none⟩ = some (.int .i64 c.rw) ∧ w'.cell? ⟨w.heap.size, 2, none⟩ = some (.int .i64 c.wd) ∧ w'.cell? ⟨w.heap.size, 3, none⟩ = some (.int .i64 c.md) ∧ w'.cell? ⟨w.heap.size, 4, none⟩ = some (.int .u64 c.sd) ∧ w'.cell? ⟨g, o, none⟩ = some (.int .u64 qk) ∧ w'.cell? ⟨g, o + 1, none⟩ = some (.int .i64 qd)) (first | (refine ⟨?_, ?_, ?_, ?_, ?_, ?_, ?_⟩ <;> (first | (with_reducible assumption) | (with_reducible refine cell_up e1 ?_) | (with_reducible refine cell_up e2 ?_) | (with_reducible refine cell_up e3 ?_) | (with_reducible refine cell_up e4 ?_) | (with_reducible refine cell_up e5 ?_) | (with_reducible refine cell_up d1 ?_) | (with_reducible refine cell_up d2 ?_)) <;> (repeat' (first | (with_reducible exact Below.refl _ _) | (with_reducible assumption) | (with_reducible refine below_over ?_ _ _) | (with_reducible refine Lw.below_alloc ?_ _) | (with_reducible refine Below.drew ?_) | (with_reducible refine below_drewN ?_ _) | (with_reducible refine Below.setCell ?_ ?_ _) | go_size)))) (first | (go_at_call 27; (with_reducible refine (CC.out _).mono ?_); rintro e w' ⟨rfl, hb⟩; obtain ⟨bs, dd, rfl⟩ := below_grow hb; clear hb))
        all_goals go_wp2
        all_goals go_roundw
        all_goals first
          | exact ⟨j + 1, by omega, by omega, by go_num, by rw [HSN.out], HVr.out.up (by repeat' (first | (with_reducible exact Below.refl _ _) | (with_reducible assumption) | (with_reducible refine below_over ?_ _ _) | (with_reducible refine Lw.below_alloc ?_ _) | (with_reducible refine Below.drew ?_) | (with_reducible refine below_drewN ?_ _) | (with_reducible refine Below.setCell ?_ ?_ _) | go_size))⟩
          | (simp [intOf]; omega)
    · have hend : upsR c 0 qs 0 j = upsR c 0 qs 0 60 := upsR_end hj6 (by rw [HL.out]; omega)
      have hXe := HX.out
      rw [hend] at hXe
      have HXE := Lib.hid hXe
      have hcases : ((j : Int) < n0 ∧ ¬ (j : Int) < 60) ∨ ¬ (j : Int) < n0 := by omega
      clear hend hXe hlt hbd
      rcases hcases with ⟨hc1, hc2⟩ | hc1
      all_goals go_wp2
      all_goals go_ret
      all_goals exact ⟨by first | (rw [HXE.out]; rfl) | rfl, HVr.out.below⟩
end Go.Proofs.YtiblpdjehknbcaaGreat.Stk
/- The document's Between of layer 16. Printed by wip/gen/spn5.py. -/
namespace Go.Proofs.YtiblpdjehknbcaaGreat.Spn
open Go Go.RowKit Lw Grd Lin Con Shp Sk Exa Lev Stk Pcs
set_option linter.unusedVariables false
set_option linter.unusedSimpArgs false
/-- What the keys from lo to hi have. -/
def bt (lo hi : Int) : Ups → Int
  | [] => 0
  | u :: us => (if lo ≤ u.1 ∧ u.1 ≤ hi then u.2 else 0) + bt lo hi us
theorem bt_btw {lo hi : Int} (h0 : 0 ≤ lo) (h1 : 0 ≤ hi) : ∀ us : Ups, bt lo hi us = btw lo.toNat (hi.toNat + 1) us
  | [] => rfl
  | u :: us => by
    simp only [bt, btw]
    rw [bt_btw h0 h1 us]
    congr 1
    by_cases h : lo ≤ u.1 ∧ u.1 ≤ hi
    · rw [if_pos h, if_pos (by omega)]
    · rw [if_neg h, if_neg (by omega)]
theorem bt_snoc (lo hi : Int) (u : Int × Int) : ∀ us : Ups, bt lo hi (us ++ [u]) = bt lo hi us + (if lo ≤ u.1 ∧ u.1 ≤ hi then u.2 else 0)
  | [] => by simp [bt]
  | v :: us => by
    have ih := bt_snoc lo hi u us
    simp only [List.cons_append, bt]
    rw [ih]
    omega
theorem bt_bd {lo hi b : Int} (hb : 0 ≤ b) : ∀ {us : Ups}, (∀ u ∈ us, -b ≤ u.2 ∧ u.2 ≤ b) → -(b * us.length) ≤ bt lo hi us ∧ bt lo hi us ≤ b * us.length
  | [], _ => by simp [bt]
  | u :: us, h => by
    have ih := bt_bd (lo := lo) (hi := hi) hb (us := us) (fun v hv => h v (List.mem_cons_of_mem _ hv))
    have h1 := h u (by simp)
    have e : b * ((us.length + 1 : Nat) : Int) = b * (us.length : Int) + b := by
      rw [Int.natCast_add, Int.mul_add]
      simp
    rw [List.length_cons, e]
    simp only [bt]
    split <;> omega
theorem btR_bd {c : Cfg} (hk : 1 ≤ keys c 0) (qs : Ups) (j : Nat) (lo hi : Int) (hj : j ≤ 60) : -65970697666560 ≤ bt lo hi (upsR c 0 qs 0 j) ∧ bt lo hi (upsR c 0 qs 0 j) ≤ 65970697666560 := by
  have h := upsR_in hk qs 0 j
  have hl := upsR_len c 0 qs 0 j
  have h2 := bt_bd (lo := lo) (hi := hi) (b := 1099511627776) (by omega) (us := upsR c 0 qs 0 j) (fun u hu => ⟨(h.1 u hu).2.2.1, (h.1 u hu).2.2.2⟩)
  omega
set_option maxRecDepth 100000 in
set_option maxHeartbeats 4000000 in
theorem rbtw_any (c : Cfg) (A : Option Addr) (n0 k0 : Nat) (qs : Ups) (lo hi : Int) (w : World) (hco : c.Ok) (hkeys : 1 ≤ keys c 0) (hq : UpdV w A n0 k0 qs) (l0 : 0 ≤ lo) (l1 : lo ≤ 18446744073709551615) (i0 : 0 ≤ hi) (i1 : hi ≤ 18446744073709551615) :
    Calls Tryz.prog 26 #[.agg #[.int .i64 c.bt, .int .i64 c.rw, .int .i64 c.wd, .int .i64 c.md, .int .u64 c.sd], .slice A n0 k0, .int .u64 lo, .int .u64 hi] w fun e w' => e = .returned (.int .i64 (bt lo hi (upsR c 0 qs 0 60))) ∧ Below w.heap.size w w' := by
  have HQ := Lib.hid hq
  have HL := Lib.hid hq.len
  have hnc := hq.nc
  have hcm := hq.cm
  unfold maxLen at hcm
  have HKY := Lib.hid hkeys
  have HBD := Lib.hid (fun j (hj : j ≤ 60) => btR_bd (c := c) hkeys qs j lo hi hj)
  have CC0 := Lib.hid (fun w k d h0 h1 h2 h3 => rcut15_any c k d w hco h0 h1 h2 h3 hkeys)
  have HBX : Hid (Have w (w.alloc (.cells #[.int .i64 c.bt, .int .i64 c.rw, .int .i64 c.wd, .int .i64 c.md, .int .u64 c.sd] 24)) [boxT w.heap.size 24 #[.int .i64 c.bt, .int .i64 c.rw, .int .i64 c.wd, .int .i64 c.md, .int .u64 c.sd]]) := Lib.hid (box_new w _ _)
  clear hq hkeys hco
  go_enter Tryz.func26, Tryz.ntmps26
  go_wp2
  go_loopw [9, 10] (fun sv iv wr => ∃ (j : Nat), j ≤ n0 ∧ j ≤ 60 ∧ iv = .int .i64 j ∧ sv = .int .i64 (bt lo hi (upsR c 0 qs 0 j)) ∧ Have w wr [boxT w.heap.size 24 #[.int .i64 c.bt, .int .i64 c.rw, .int .i64 c.wd, .int .i64 c.md, .int .u64 c.sd]]) (fun _ iv _ => n0 - (intOf iv).toNat)
  case atStart => exact ⟨0, Nat.zero_le _, Nat.zero_le _, rfl, by rw [upsR_zero]; rfl, HBX.out⟩
  case round =>
    obtain ⟨j, hj, hj6, rfl, rfl, hv⟩ := hrel
    have HVr := Lib.hid hv
    have hwb := hv.below
    have hbd := HBD.out j hj6
    obtain ⟨X, hX⟩ : ∃ X, bt lo hi (upsR c 0 qs 0 j) = X := ⟨_, rfl⟩
    have HX := Lib.hid hX
    rw [hX] at hbd ⊢
    clear hv hX
    by_cases hlt : j < n0 ∧ j < 60
    · obtain ⟨hj1, hj2⟩ := hlt
      obtain ⟨q, hq1⟩ : ∃ q, qs[j]? = some q := ⟨_, List.getElem?_eq_getElem (by rw [HL.out]; omega)⟩
      have hnx := upsR_next (c := c) (l := 0) hq1 (Nat.zero_le j)
      have hsn := bt_snoc lo hi (cutU c 0 q) (upsR c 0 qs 0 j)
      rw [← hnx, HX.out] at hsn
      have hcu := cutU_ok HKY.out q
      obtain ⟨a, g, o, rfl, hadd, d1w, d2w, kb, db⟩ := HQ.out.at hq1
      obtain ⟨qk, qd⟩ := q
      simp only at d1w d2w kb db
      have d1 := cell_up d1w hwb
      have d2 := cell_up d2w hwb
      obtain ⟨e1, e2, e3, e4, e5⟩ := box5 HVr.out.i0
      have CC := Lib.hid (fun w => CC0.out w qk qd kb.1 kb.2 db.1 db.2)
      obtain ⟨U, hU⟩ : ∃ U, (cutU c 0 (qk, qd)).1 = U := ⟨_, rfl⟩
      obtain ⟨D, hD⟩ : ∃ D, (cutU c 0 (qk, qd)).2 = D := ⟨_, rfl⟩
      rw [hU, hD] at CC hcu hsn
      have hdb : -1099511627776 ≤ D ∧ D ≤ 1099511627776 := ⟨hcu.2.2.1, hcu.2.2.2.1⟩
      have wx : wrap64 (X + D) = X + D := IntWalk.wrap64_in _ ⟨by omega, by omega⟩
      have wx2 : IntKind.i64.wrap (X + D) = X + D := IntWalk.i64_in _ ⟨by omega, by omega⟩
      obtain ⟨Y, hY⟩ : ∃ Y, X + D = Y := ⟨_, rfl⟩
      have wy : wrap64 (X + D) = Y := by rw [wx, hY]
      have wy2 : IntKind.i64.wrap (X + D) = Y := by rw [wx2, hY]
      have hsz := box_lt HVr.out.i0
      have lz := lt_sz hsz
      clear hq1 hnx hU hD hcu d1w d2w hwb wx wx2
      by_cases hlo : lo ≤ U
      · by_cases hhi : U ≤ hi
        · rw [if_pos ⟨hlo, hhi⟩, hY] at hsn
          have HSN := Lib.hid hsn
          clear hsn hY hdb hbd
          go_upto_region 5 with fail
          go_region_held3 (fun w' => w'.cell? ⟨w.heap.size, 0, none⟩ = some (.int .i64 c.bt) ∧ w'.cell? ⟨w.heap.size, 1, none⟩ = some (.int .i64 c.rw) ∧ w'.cell? ⟨w.heap.size, 2, none⟩ = some (.int .i64 c.wd) ∧ w'.cell? ⟨w.heap.size, 3, none⟩ = some (.int .i64 c.md) ∧ w'.cell? ⟨w.heap.size, 4, none⟩ = some (.int .u64 c.sd) ∧ w'.cell? ⟨g, o, none⟩ = some (.int .u64 qk) ∧ w'.cell? ⟨g, o + 1, none⟩ = some (.int .i64 qd)) (first | (refine ⟨?_, ?_, ?_, ?_, ?_, ?_, ?_⟩ <;> (first | (with_reducible assumption) | (with_reducible refine cell_up e1 ?_) | (with_reducible refine cell_up e2 ?_) | (with_reducible refine cell_up e3 ?_) | (with_reducible refine cell_up e4 ?_) | (with_reducible refine cell_up e5 ?_) | (with_reducible refine cell_up d1 ?_) | (with_reducible refine cell_up d2 ?_)) <;> (repeat' (first | (with_reducible exact Below.refl _ _) | (with_reducible assumption) | (with_reducible refine below_over ?_ _ _) | (with_reducible refine Lw.below_alloc ?_ _) | (with_reducible refine Below.drew ?_) | (with_reducible refine below_drewN ?_ _) | (with_reducible refine Below.setCell ?_ ?_ _) | go_size)))) (first | (go_at_call 27; (with_reducible refine (CC.out _).mono ?_); rintro e w' ⟨rfl, hb⟩; obtain ⟨bs, dd, rfl⟩ := below_grow hb; clear hb))
          all_goals go_wp2
          all_goals go_roundw
          all_goals first
            | exact ⟨j + 1, by omega, by omega, by go_num, by rw [HSN.out], HVr.out.up (by repeat' (first | (with_reducible exact Below.refl _ _) | (with_reducible assumption) | (with_reducible refine below_over ?_ _ _) | (with_reducible refine Lw.below_alloc ?_ _) | (with_reducible refine Below.drew ?_) | (with_reducible refine below_drewN ?_ _) | (with_reducible refine Below.setCell ?_ ?_ _) | go_size))⟩
            | (simp [intOf]; omega)
        · rw [if_neg (fun h => hhi h.2), Int.add_zero] at hsn
          have HSN := Lib.hid hsn
          clear hsn hY hdb hbd wy wy2
          go_upto_region 5 with fail
          go_region_held3 (fun w' => w'.cell? ⟨w.heap.size, 0, none⟩ = some (.int .i64 c.bt) ∧ w'.cell? ⟨w.heap.size, 1, none⟩ = some (.int .i64 c.rw) ∧ w'.cell? ⟨w.heap.size, 2, none⟩ = some (.int .i64 c.wd) ∧ w'.cell? ⟨w.heap.size, 3, none⟩ = some (.int .i64 c.md) ∧ w'.cell? ⟨w.heap.size, 4, none⟩ = some (.int .u64 c.sd) ∧ w'.cell? ⟨g, o, none⟩ = some (.int .u64 qk) ∧ w'.cell? ⟨g, o + 1, none⟩ = some (.int .i64 qd)) (first | (refine ⟨?_, ?_, ?_, ?_, ?_, ?_, ?_⟩ <;> (first | (with_reducible assumption) | (with_reducible refine cell_up e1 ?_) | (with_reducible refine cell_up e2 ?_) | (with_reducible refine cell_up e3 ?_) | (with_reducible refine cell_up e4 ?_) | (with_reducible refine cell_up e5 ?_) | (with_reducible refine cell_up d1 ?_) | (with_reducible refine cell_up d2 ?_)) <;> (repeat' (first | (with_reducible exact Below.refl _ _) | (with_reducible assumption) | (with_reducible refine below_over ?_ _ _) | (with_reducible refine Lw.below_alloc ?_ _) | (with_reducible refine Below.drew ?_) | (with_reducible refine below_drewN ?_ _) | (with_reducible refine Below.setCell ?_ ?_ _) | go_size)))) (first | (go_at_call 27; (with_reducible refine (CC.out _).mono ?_); rintro e w' ⟨rfl, hb⟩; obtain ⟨bs, dd, rfl⟩ := below_grow hb; clear hb))
          all_goals go_wp2
          all_goals go_roundw
          all_goals first
            | exact ⟨j + 1, by omega, by omega, by go_num, by rw [HSN.out], HVr.out.up (by repeat' (first | (with_reducible exact Below.refl _ _) | (with_reducible assumption) | (with_reducible refine below_over ?_ _ _) | (with_reducible refine Lw.below_alloc ?_ _) | (with_reducible refine Below.drew ?_) | (with_reducible refine below_drewN ?_ _) | (with_reducible refine Below.setCell ?_ ?_ _) | go_size))⟩
            | (simp [intOf]; omega)
      · rw [if_neg (fun h => hlo h.1), Int.add_zero] at hsn
        have HSN := Lib.hid hsn
        clear hsn hY hdb hbd wy wy2
        go_upto_region 5 with fail
        go_region_held3 (fun w' => w'.cell? ⟨w.heap.size, 0, none⟩ = some (.int .i64 c.bt) ∧ w'.cell? ⟨w.heap.size, 1, none⟩ = some (.int .i64 c.rw) ∧ w'.cell? ⟨w.heap.size, 2, none⟩ = some (.int .i64 c.wd) ∧ w'.cell? ⟨w.heap.size, 3, none⟩ = some (.int .i64 c.md) ∧ w'.cell? ⟨w.heap.size, 4, none⟩ = some (.int .u64 c.sd) ∧ w'.cell? ⟨g, o, none⟩ = some (.int .u64 qk) ∧ w'.cell? ⟨g, o + 1, none⟩ = some (.int .i64 qd)) (first | (refine ⟨?_, ?_, ?_, ?_, ?_, ?_, ?_⟩ <;> (first | (with_reducible assumption) | (with_reducible refine cell_up e1 ?_) | (with_reducible refine cell_up e2 ?_) | (with_reducible refine cell_up e3 ?_) | (with_reducible refine cell_up e4 ?_) | (with_reducible refine cell_up e5 ?_) | (with_reducible refine cell_up d1 ?_) | (with_reducible refine cell_up d2 ?_)) <;> (repeat' (first | (with_reducible exact Below.refl _ _) | (with_reducible assumption) | (with_reducible refine below_over ?_ _ _) | (with_reducible refine Lw.below_alloc ?_ _) | (with_reducible refine Below.drew ?_) | (with_reducible refine below_drewN ?_ _) | (with_reducible refine Below.setCell ?_ ?_ _) | go_size)))) (first | (go_at_call 27; (with_reducible refine (CC.out _).mono ?_); rintro e w' ⟨rfl, hb⟩; obtain ⟨bs, dd, rfl⟩ := below_grow hb; clear hb))
        all_goals go_wp2
        all_goals go_roundw
        all_goals first
          | exact ⟨j + 1, by omega, by omega, by go_num, by rw [HSN.out], HVr.out.up (by repeat' (first | (with_reducible exact Below.refl _ _) | (with_reducible assumption) | (with_reducible refine below_over ?_ _ _) | (with_reducible refine Lw.below_alloc ?_ _) | (with_reducible refine Below.drew ?_) | (with_reducible refine below_drewN ?_ _) | (with_reducible refine Below.setCell ?_ ?_ _) | go_size))⟩
          | (simp [intOf]; omega)
    · have hend : upsR c 0 qs 0 j = upsR c 0 qs 0 60 := upsR_end hj6 (by rw [HL.out]; omega)
      have hXe := HX.out
      rw [hend] at hXe
      have HXE := Lib.hid hXe
      have hcases : ((j : Int) < n0 ∧ ¬ (j : Int) < 60) ∨ ¬ (j : Int) < n0 := by omega
      clear hend hXe hlt hbd
      rcases hcases with ⟨hc1, hc2⟩ | hc1
      all_goals go_wp2
      all_goals go_ret
      all_goals exact ⟨by first | (rw [HXE.out]; rfl) | rfl, HVr.out.below⟩
end Go.Proofs.YtiblpdjehknbcaaGreat.Spn
/- The code's stack as a thing. Printed by wip/gen/stk.py. -/
namespace Go.Proofs.YtiblpdjehknbcaaGreat.Stk
open Go Go.RowKit Lw Grd Lin Con Shp Sk Exa Lev
set_option linter.unusedVariables false
set_option linter.unusedSimpArgs false
/-- A stack of the code at p, in the blocks F. -/
def ST (w : World) (p : Addr) (F : Nat → Prop) (c : Cfg) (sts : List LS) : Prop :=
  IsRight c ∧ c.Ok ∧ sts.length = c.bt.toNat + 1 ∧ ∃ (b B0 : Nat) (hdr : Value) (vals : List Value) (ts : List Thing), p = ⟨b, 0, none⟩ ∧ LRow elvT c vals ts sts ∧ (manyT (boxT b 73 #[.int .i64 c.bt, .int .i64 c.rw, .int .i64 c.wd, .int .i64 c.md, .int .u64 c.sd, hdr] :: ownT B0 75 hdr vals :: ts)).I w ∧ F = (manyT (boxT b 73 #[.int .i64 c.bt, .int .i64 c.rw, .int .i64 c.wd, .int .i64 c.md, .int .u64 c.sd, hdr] :: ownT B0 75 hdr vals :: ts)).F
def stT (p : Addr) (F : Nat → Prop) (c : Cfg) (sts : List LS) : Thing where
  I := fun w => ST w p F c sts
  F := F
  keep := fun w w' H h hk hf => by
    obtain ⟨h1, h2, h3, b, B0, hdr, vals, ts, e, hr, hm, rfl⟩ := h
    exact ⟨h1, h2, h3, b, B0, hdr, vals, ts, e, hr, (manyT _).keep w w' H hm hk hf, rfl⟩
  lt := fun w h k hk => by
    obtain ⟨h1, h2, h3, b, B0, hdr, vals, ts, e, hr, hm, rfl⟩ := h
    exact (manyT _).lt w hm k hk
theorem stI {w : World} {p : Addr} {F : Nat → Prop} {c : Cfg} {sts : List LS} (h : (stT p F c sts).I w) : ST w p F c sts := h
theorem ST.right {w : World} {p : Addr} {F : Nat → Prop} {c : Cfg} {sts : List LS} (h : ST w p F c sts) : IsRight c ∧ c.Ok ∧ sts.length = c.bt.toNat + 1 := ⟨h.1, h.2.1, h.2.2.1⟩
theorem ST.up {w w' : World} {p : Addr} {F : Nat → Prop} {c : Cfg} {sts : List LS} (h : ST w p F c sts) (hb : Below w.heap.size w w') : ST w' p F c sts :=
  (stT p F c sts).keep w w' (fun _ => False) h (Kept.of_below hb) (fun _ _ h => h)
/-- A level's cells, if there is such a level. -/
def lvFl (sts : List LS) (n : Int) : List Int := if 0 ≤ n then ((sts[n.toNat]?).map LS.fl).getD [] else []
def spV (c : Cfg) (sts : List LS) (n i : Int) : Int := if 0 ≤ n then ((sts[n.toNat]?).map (fun st => lsPtV c n st i)).getD 0 else 0
def spC (c : Cfg) (sts : List LS) (n i : Int) : Int := if 0 ≤ n then ((sts[n.toNat]?).map (fun st => lsPtC c n st i)).getD 2 else 2
end Go.Proofs.YtiblpdjehknbcaaGreat.Stk
/- What Point tells of a stack of the code is a number of 64 bits. For stages from 16 on. -/
namespace Go.Proofs.YtiblpdjehknbcaaGreat.Spn
open Go Go.RowKit Lw Grd Lin Con Shp Sk Exa Lev Stk Pcs
set_option linter.unusedVariables false
theorem flat_in16 {m n : Nat} {L : List (List Int)} (h : Dims m n L) : In64 L.flatten := fun v hv => by
  obtain ⟨r, hr, h2⟩ := List.mem_flatten.1 hv
  exact (h.rows r hr).2 v h2
theorem named_in16 : ∀ {L : List (List Int)} {cs : List Int}, In64 L.flatten → ∀ v ∈ named L cs, -9223372036854775808 ≤ v ∧ v ≤ 9223372036854775807
  | [], _, _ => fun v hv => by simp [named] at hv
  | _ :: _, [], _ => fun v hv => by simp [named] at hv
  | r :: L, k :: cs, h => fun v hv => by
    rcases List.mem_cons.1 (show v ∈ (r[k.toNat]?.getD 0) :: named L cs from hv) with e | e
    · subst e
      cases h1 : r[k.toNat]? with
      | none => simp
      | some y => exact h y (by rw [List.flatten_cons]; exact List.mem_append_left _ (List.mem_of_getElem? h1))
    · exact named_in16 (fun x hx => h x (by rw [List.flatten_cons]; exact List.mem_append_right _ hx)) v e
theorem pt_in16 (c : Cfg) (l i : Int) {st : LS} (h : In64 st.fl) : -9223372036854775808 ≤ lsPtV c l st i ∧ lsPtV c l st i ≤ 9223372036854775807 := by
  cases st with
  | A L =>
    show _ ≤ Exa.ptV L i ∧ Exa.ptV L i ≤ _
    unfold Exa.ptV
    split
    · omega
    · unfold num
      cases h1 : L[i.toNat]? with
      | none => simp
      | some y => exact h y (List.mem_of_getElem? h1)
  | S L =>
    show _ ≤ ptVal c l L i ∧ ptVal c l L i ≤ _
    unfold ptVal
    split
    · omega
    · split
      · exact Ord.kv_in _ _ _ _ (by omega) (by omega) (named_in16 h)
      · exact Ord.kv_in _ _ _ _ (by omega) (by omega) (named_in16 h)
theorem st_in16 {w : World} {p : Addr} {F : Nat → Prop} {c : Cfg} {sts : List LS} (h : ST w p F c sts) {n : Nat} {st : LS} (hs : sts[n]? = some st) : In64 st.fl := by
  obtain ⟨hr, hc, hlen, b, B0, hdr, vals, ts, rfl, hrow, hI, rfl⟩ := h
  obtain ⟨st2, v, Q, e1, e2, e3⟩ := hrow.at (j := n) ((List.getElem?_eq_some_iff.1 hs).1)
  rw [hs] at e1
  injection e1 with e1
  subst e1
  have h1 : ELV w v Q c (n : Int) st := hI.1 (elvT v Q c (n : Int) st) (List.mem_cons_of_mem _ (List.mem_cons_of_mem _ (List.mem_of_getElem? e3)))
  cases st with
  | A L =>
    obtain ⟨p, rfl, h2⟩ := h1.2
    exact h2.in64
  | S L =>
    obtain ⟨p, rfl, h2⟩ := h1.2
    exact flat_in16 h2.dims
theorem sp_in16 {w : World} {p : Addr} {F : Nat → Prop} {c : Cfg} {sts : List LS} (h : ST w p F c sts) (n i : Int) : -9223372036854775808 ≤ spV c sts n i ∧ spV c sts n i ≤ 9223372036854775807 := by
  unfold spV
  split
  · cases hs : sts[n.toNat]? with
    | none => simp
    | some st => exact pt_in16 c n i (st_in16 h hs)
  · omega
theorem parts_in16 {w : World} {p : Addr} {F : Nat → Prop} {c : Cfg} {sts : List LS} (h : ST w p F c sts) (lo hi : Int) : In64 (ptL c (fun L i => spV c sts (L : Int) i) lo hi) := by
  unfold ptL
  split
  · unfold parts
    intro v hv
    obtain ⟨q, hq, rfl⟩ := List.mem_map.1 hv
    exact sp_in16 h _ _
  · intro v hv
    simp at hv
theorem parts_len16 {c : Cfg} (hr : IsRight c) (pt : Nat → Int → Int) (lo hi : Int) (lo0 : 0 ≤ lo) : (ptL c pt lo hi).length ≤ 1000 := by
  unfold ptL
  split
  next h =>
    have hb := hr.1
    have hb2 := hr.2.1
    have h1 : ¬ hi < lo := fun h1 => by unfold ptC2 at h; rw [if_pos h1] at h; exact absurd h (by decide)
    have h2 : ¬ keys c 0 ≤ hi := fun h2 => by unfold ptC2 at h; rw [if_neg h1, if_pos h2] at h; exact absurd h (by decide)
    have e0 : keys c 0 = 2 ^ (c.bt - 0).toNat := keys_yes hr (by omega) (by omega)
    have e9 : (c.bt - 0).toNat = c.bt.toNat := by omega
    rw [e9] at e0
    have h5 : ((2 ^ c.bt.toNat : Nat) : Int) = 2 ^ c.bt.toNat := by simp
    unfold parts
    rw [List.length_map]
    unfold covL
    split
    next hx =>
      have h3 := (Classical.choose_spec hx).len (by omega) (by omega)
      omega
    next => simp
  next => simp
end Go.Proofs.YtiblpdjehknbcaaGreat.Spn
