/- Texts that the statement LevelPlays leans on, put together: LevLoad, LevShr, LevPlN. -/
import Derived.Test.YtkannodfamnmcaaGreatQl
import Derived.Test.YtkannodfamnmcaaGreatQm
import Derived.Test.YtkannodfamnmcaaGreatQn
import Derived.Deep.LoopGhost
import Derived.Deep.RegionHeld3
import Derived.Deep.DeepCutAuto
import Derived.Deep.QuietTactic
import Derived.BigQuiet
/- The walk of gaugerref13's Load. Printed by wip/gen/levload.py. -/
namespace Go.Proofs.YtkannodfamnmcaaGreat.Lev
open Go Go.RowKit Lw Grd Lin Con Shp Sk Exa
set_option linter.unusedVariables false
set_option linter.unusedSimpArgs false
set_option maxRecDepth 100000 in
set_option maxHeartbeats 4000000 in
theorem lload_A (p : Addr) (F : Nat → Prop) (c : Cfg) (l : Int) (L : List Int) (ad : Addr) (n capz : Nat) (zs : List Int) (w : World) (h : DLA w p F c l L) (hrd : Rd .i64 w (some ad) zs) (hl : zs.length = n) (hz : In64 zs) (hn : n ≤ 128) :
    Calls Tryz.prog 18 #[.pointer (some p), .slice (some ad) n capz] w fun e w' => e = .returned (.tuple #[]) ∧ ∃ F', DLA w' p F' c l zs ∧ Kept F w w' ∧ (∀ k, F' k → F k ∨ w.heap.size ≤ k) := by
  obtain ⟨i0, hi, hz0, hz1, hz2⟩ := info_parts Exa.i64_info
  obtain ⟨a, G, b, rfl, hb, ht, hnb, rfl⟩ := h
  have c0 := grd_cell hb 0 (v := .pointer (some a)) rfl
  obtain ⟨h1, h2, h3, ba, g, cap, rfl, hba, hm, h4, h5, h6, rfl⟩ := daI ht
  have f6 := grd_cell hba 6 (v := .slice (some ⟨g, 0, none⟩) L.length cap) rfl
  have hne1 : ¬ b = ba := fun e => hnb (.inl e)
  have hne2 : ¬ ba = b := fun e => hne1 e.symm
  have hbl := size_of_heap hb
  have hal := size_of_heap hba
  have HRD := Lib.hid hrd
  have HBA := Lib.hid hba
  have HFZ : Hid (∀ w', Below w.heap.size w w' → w'.frozen? ⟨ba, 6, none⟩ = false) := Lib.hid (fun w' hbw => by
    have := (Kept.of_below (F := fun _ => False) hbw).heap HBA.out (fun h => h)
    exact boxs_frozen (e := 101) (vs := #[.int .i64 c.bt, .int .i64 c.rw, .int .i64 c.wd, .int .i64 c.md, .int .u64 c.sd, .int .i64 l, .slice (some ⟨g, 0, none⟩) L.length cap]) this 6)
  have HT : Hid (∀ w' g4 cap4, Below w.heap.size w w' → Ord.Mid w' g4 0 zs → w.heap.size ≤ g4 → n ≤ cap4 → cap4 ≤ maxLen → ∃ F', DLA (w'.setCell ⟨ba, 6, none⟩ (.slice (some ⟨g4, 0, none⟩) n cap4)) ⟨b, 0, none⟩ F' c l zs ∧ Kept (fun k => k = b ∨ (daT ⟨ba, 0, none⟩ (fun k => k = ba ∨ k = g) c l L).F k) w (w'.setCell ⟨ba, 6, none⟩ (.slice (some ⟨g4, 0, none⟩) n cap4)) ∧ (∀ q, F' q → (q = b ∨ (daT ⟨ba, 0, none⟩ (fun k => k = ba ∨ k = g) c l L).F q) ∨ w.heap.size ≤ q)) := Lib.hid (fun w' g4 cap4 hbw hm4 hg4 hc1 hc2 => by
    have hB := (Kept.of_below (F := fun _ => False) hbw).heap HBA.out (fun h => h)
    have hs := boxs_set (e := 101) (vs := #[.int .i64 c.bt, .int .i64 c.rw, .int .i64 c.wd, .int .i64 c.md, .int .u64 c.sd, .int .i64 l, .slice (some ⟨g, 0, none⟩) L.length cap]) hB 6 (.slice (some ⟨g4, 0, none⟩) n cap4)
    have hk : Kept (fun q => q = ba) w' (w'.setCell ⟨ba, 6, none⟩ (.slice (some ⟨g4, 0, none⟩) n cap4)) := (Kept.refl (fun q => q = ba) w').set (.inl rfl) _ _
    have hda : DA (w'.setCell ⟨ba, 6, none⟩ (.slice (some ⟨g4, 0, none⟩) n cap4)) ⟨ba, 0, none⟩ (fun k => k = ba ∨ k = g4) c l zs := by
      refine ⟨h1, by omega, hz, ba, g4, cap4, rfl, ?_, hm4.keep hk (fun e => by omega), by omega, hc2, by omega, rfl⟩
      rw [hl]
      exact hs
    have hkk : Kept (daT ⟨ba, 0, none⟩ (fun k => k = ba ∨ k = g) c l L).F w (w'.setCell ⟨ba, 6, none⟩ (.slice (some ⟨g4, 0, none⟩) n cap4)) := (Kept.of_below hbw).trans (hk.mono (fun q _ e => .inl e)) (fun q hq e => e)
    obtain ⟨F', g1, g2, g3⟩ := dl_turn (t := daT ⟨ba, 0, none⟩ (fun k => k = ba ∨ k = g) c l L) (t' := daT ⟨ba, 0, none⟩ (fun k => k = ba ∨ k = g4) c l zs) hb hnb hda hkk (fun q hq => by
      rcases hq with h | h
      · exact .inl (.inl h)
      · exact .inr (by omega))
    exact ⟨F', ⟨_, _, g1⟩, g2, g3⟩)
  clear hb ht hnb hba hm h1 h3 h4 h5 h6 hz hrd HBA
  go_enter Tryz.func18, Tryz.ntmps18
  go_upto_region 1 with fail
  go_region_held3 (fun w' => w'.cell? ⟨b, 0, none⟩ = some (.pointer (some ⟨ba, 0, none⟩))) (first | (with_reducible assumption) | (with_reducible exact y9 _) | (with_reducible refine cell_up c0 ?_ <;> (repeat' (first | (with_reducible exact Below.refl _ _) | (with_reducible assumption) | (with_reducible refine below_over ?_ _ _) | (with_reducible refine Lw.below_alloc ?_ _) | (with_reducible refine Below.drew ?_) | (with_reducible refine below_drewN ?_ _) | (with_reducible refine Below.setCell ?_ ?_ _) | go_size)))) (first
    | (refine app_step .i64 rfl _ _ 45 rfl w.heap.size 2 i0 8 Exa.i64s_u hi hz0 hz1 hz2 (.slice (some ⟨w.heap.size, 0, none⟩) 0 0) 0 [] rfl (own_empty w.drew _ _ _ (Nat.le_refl _)) (fun h => by cases h) (some ad) n capz zs rfl (fun h => by cases h) hl (HRD.out.up (by repeat' (first | (with_reducible exact Below.refl _ _) | (with_reducible assumption) | (with_reducible refine below_over ?_ _ _) | (with_reducible refine Lw.below_alloc ?_ _) | (with_reducible refine Below.drew ?_) | (with_reducible refine below_drewN ?_ _) | (with_reducible refine Below.setCell ?_ ?_ _) | go_size))) (by unfold maxLen; omega) (by omega) (by simp) ?_; intro A4 cap4 w4 hown4 hgrow4 hrd4 hcap6 hcap7; have hb4 : Below w.heap.size w w4 := app_below2 (by repeat' (first | (with_reducible exact Below.refl _ _) | (with_reducible assumption) | (with_reducible refine below_over ?_ _ _) | (with_reducible refine Lw.below_alloc ?_ _) | (with_reducible refine Below.drew ?_) | (with_reducible refine below_drewN ?_ _) | (with_reducible refine Below.setCell ?_ ?_ _) | go_size)) hgrow4 (Nat.le_refl _); (try simp only [Nat.zero_add, List.nil_append] at hown4 hcap6); (try simp only [Nat.zero_add]); have y0 := cell_up c0 hb4; have y6 := cell_up f6 hb4; have z6 := HFZ.out w4 hb4; have y9 : ∀ v, (w4.setCell ⟨ba, 6, none⟩ v).cell? ⟨b, 0, none⟩ = some (.pointer (some ⟨ba, 0, none⟩)) := fun v => ((Kept.refl (fun q => q = ba) w4).set (.inl rfl) 6 v).cell y0 hne1; have HO4 := Lib.hid hown4; have HB4 := Lib.hid hb4; have HC4 := Lib.hid (And.intro hcap6 hcap7); clear hown4 hgrow4 hrd4 hcap6 hcap7))
  all_goals go_wp2
  all_goals refine bodyPost_ret (results_none rfl _ _ _) rfl ?_
  all_goals (obtain ⟨g4, hA4, hg4, hm4⟩ := Ord.mid_own HO4.out)
  all_goals subst hA4
  all_goals exact ⟨rfl, HT.out w4 g4 cap4 HB4.out hm4 hg4 HC4.out.1 HC4.out.2⟩
set_option maxRecDepth 100000 in
set_option maxHeartbeats 8000000 in
theorem lload_S (p : Addr) (F : Nat → Prop) (c : Cfg) (l : Int) (L : List (List Int)) (ad : Addr) (N capz : Nat) (zs : List Int) (w : World) (h : DLS w p F c l L) (hrd : Rd .i64 w (some ad) zs) (hl : zs.length = N) (hz : In64 zs) (hn : N = rws c * wds c) (hap : ¬ F ad.block) :
    Calls Tryz.prog 18 #[.pointer (some p), .slice (some ad) N capz] w fun e w' => e = .returned (.tuple #[]) ∧ ∃ F' L', DLS w' p F' c l L' ∧ L'.flatten = zs ∧ Kept F w w' ∧ (∀ k, F' k → F k ∨ w.heap.size ≤ k) := by
  obtain ⟨a, G0, b, rfl, hb, ht, hnb, rfl⟩ := h
  have c0w := grd_cell hb 0 (v := .pointer none) rfl
  have c1w := grd_cell hb 1 (v := .pointer (some a)) rfl
  obtain ⟨hr, hok, hl0, hl1, bs, gp, G, rfl, hbs, hg, hGb, rfl⟩ := dsI ht
  have e6w := grd_cell hbs 6 (v := .pointer (some gp)) rfl
  have hbl := size_of_heap hb
  have hsl := size_of_heap hbs
  obtain ⟨m, hmm⟩ : ∃ m, rws c = m := ⟨_, rfl⟩
  obtain ⟨n, hnn⟩ : ∃ n, wds c = n := ⟨_, rfl⟩
  have hm8 : 1 ≤ m ∧ m ≤ 8 := by have := rws_bd hr; omega
  have hn8 : 1 ≤ n ∧ n ≤ 128 := by have := wds_bd hr; omega
  have hGbb : ¬ G b := fun h => hnb (.inr h)
  have hGs : ¬ G bs := hGb
  have hGa : ¬ G ad.block := fun h => hap (.inr (.inr h))
  have HT : Hid (∀ w' L', DG w' gp G m n L' → Kept G w w' → ∃ F', DLS w' ⟨b, 0, none⟩ F' c l L' ∧ Kept (fun k => k = b ∨ (dsT ⟨bs, 0, none⟩ (fun k => k = bs ∨ G k) c l L).F k) w w' ∧ (∀ q, F' q → (q = b ∨ (dsT ⟨bs, 0, none⟩ (fun k => k = bs ∨ G k) c l L).F q) ∨ w.heap.size ≤ q)) := Lib.hid (fun w' L' h1 h2 => by
    have hds : DS w' ⟨bs, 0, none⟩ (fun k => k = bs ∨ G k) c l L' := ⟨hr, hok, hl0, hl1, bs, gp, G, rfl, h2.heap hbs hGb, by rw [hmm, hnn]; exact h1, hGb, rfl⟩
    obtain ⟨F', g1, g2, g3⟩ := dl_turn (t := dsT ⟨bs, 0, none⟩ (fun k => k = bs ∨ G k) c l L) (t' := dsT ⟨bs, 0, none⟩ (fun k => k = bs ∨ G k) c l L') hb hnb hds (h2.mono (fun q _ e => .inr e)) (fun q hq => .inl hq)
    exact ⟨F', ⟨_, _, g1⟩, g2, g3⟩)
  rw [hmm, hnn] at hg hn
  have HG := Lib.hid hg
  have HR := Lib.hid hrd
  have HL := Lib.hid hl
  have HZ := Lib.hid hz
  have HN := Lib.hid hn
  have HFL : Hid (L.flatten.length = N) := Lib.hid (by rw [flat_dims hg.dims, hn])
  have hN1 : N ≤ 1024 := by rw [hn]; exact Nat.le_trans (Nat.mul_le_mul hm8.2 hn8.2) (by decide)
  obtain ⟨gb, hdr, R0, hgp, hg1, hg2, hg3, hg4⟩ := hg
  subst hgp
  clear hb ht hnb hbs hr hok hl0 hl1 hrd hl hz hn hap hGb hg1 hg2 hg3 hg4 hmm hnn
  go_enter Tryz.func18, Tryz.ntmps18
  go_wp2
  go_loopw [4, 5] (fun av iv wr => ∃ (r : Nat) (Lj : List (List Int)), r ≤ m ∧ av = .int .i64 ((r * n : Nat) : Int) ∧ iv = .int .i64 r ∧ DG wr ⟨gb, 0, none⟩ G m n Lj ∧ Lj.flatten = upto2 L.flatten zs (r * n) ∧ Kept G w wr) (fun _ iv _ => m - (intOf iv).toNat)
  case atStart => exact ⟨0, L, Nat.zero_le _, by simp, rfl, HG.out, by rw [Nat.zero_mul, upto2_start], Kept.refl G w⟩
  case round =>
    obtain ⟨r, Lj, hrm, rfl, rfl, hdg, hfl, hk⟩ := hrel
    have HK := Lib.hid hk
    have HFJ := Lib.hid hfl
    have HD := Lib.hid hdg
    have c0 := hk.cell c0w hGbb
    have c1 := hk.cell c1w hGbb
    have e6 := hk.cell e6w hGs
    obtain ⟨gb', hdr', R, hgp, hg1, hg2, hg3, hg4⟩ := hdg
    injection hgp with hgp
    subst hgp
    obtain ⟨A, cap, hhd, hcap, hA, hcell⟩ := hg1.hd
    have hb0 := cell_of_row wr gb 0 _ _ _ hg1.cell
    rw [hhd] at hb0
    simp only [List.getElem?_toArray, List.getElem?_cons_zero] at hb0
    have hRl : R.length = m := by rw [← nums_len, hg2, hg4.len]
    rw [hRl] at hb0
    clear hhd hcell hA hg1 hg2 hg3 hg4 hRl hfl hk hcap
    by_cases hlt : r < m
    · have hlti : (r : Int) < (m : Int) := by omega
      go_wp2
      obtain ⟨wo, rfl⟩ : ∃ wo, wo = wr := ⟨_, rfl⟩
      clear c0 c1 e6 hb0
      go_loopw [4, 6] (fun av cv wi => ∃ (q : Nat) (Lj : List (List Int)), q ≤ n ∧ av = .int .i64 ((r * n + q : Nat) : Int) ∧ cv = .int .i64 q ∧ DG wi ⟨gb, 0, none⟩ G m n Lj ∧ Lj.flatten = upto2 L.flatten zs (r * n + q) ∧ Kept G w wi) (fun _ cv _ => n - (intOf cv).toNat)
      case atStart => exact ⟨0, Lj, Nat.zero_le _, by simp, rfl, HD.out, HFJ.out, HK.out⟩
      case round =>
        clear HD HFJ HK
        obtain ⟨q, Lk, hqn, rfl, rfl, hdg, hfl, hk⟩ := hrel
        have HK := Lib.hid hk
        have HFK := Lib.hid hfl
        have HD := Lib.hid hdg
        have c0 := hk.cell c0w hGbb
        have c1 := hk.cell c1w hGbb
        have e6 := hk.cell e6w hGs
        obtain ⟨gb', hdr', R, hgp, hg1, hg2, hg3, hg4⟩ := hdg
        injection hgp with hgp
        subst hgp
        obtain ⟨A, cap, hhd, hcap, hA, hcell⟩ := hg1.hd
        have hb0 := cell_of_row wr gb 0 _ _ _ hg1.cell
        rw [hhd] at hb0
        simp only [List.getElem?_toArray, List.getElem?_cons_zero] at hb0
        have hRl : R.length = m := by rw [← nums_len, hg2, hg4.len]
        obtain ⟨ro, hro⟩ : ∃ ro, R[r]? = some ro := ⟨_, List.getElem?_eq_getElem (by omega)⟩
        obtain ⟨ad2, rfl, hcr⟩ := hcell r ro hro
        have hrom := List.mem_of_getElem? hro
        have hrl : ro.2.2.length = n := by have := (hg4.rows ro.2.2 (by rw [← hg2]; exact nums_mem hrom)).1; exact this
        rw [hRl] at hb0
        have hput := hg1.put hro
        have hnum : ∀ v, ro.2.2[q]? = some v → wr.cell? ⟨ro.1, q, none⟩ = some (.int .i64 v) := fun v hv => by
          have := hg1.numAt hrom hv
          rwa [Ord.add_at, Nat.zero_add] at this
        have hfz0 : wr.frozen? ⟨ro.1, q, none⟩ = false := by
          have := (hg1.rows _ hrom).frozenAt (g := ro.1) (cap := ro.2.1) q
          exact this
        have hin2 : q < n → in2 (nums R) r q = true := fun h => by
          unfold in2
          have hget : (nums R)[(r : Int).toNat]?.getD [] = ro.2.2 := by simp [nums, hro]
          rw [hget, nums_len]
          exact decide_eq_true (by omega)
        have HPUT : Hid (q < n → ∀ z, -9223372036854775808 ≤ z → z ≤ 9223372036854775807 → DG (wr.setCell ⟨ro.1, q, none⟩ (.int .i64 z)) ⟨gb, 0, none⟩ G m n (setL Lk r q z) ∧ Kept G w (wr.setCell ⟨ro.1, q, none⟩ (.int .i64 z))) := Lib.hid (fun hq z z0 z1 => by
          have hp : put2 R r q z = set2 R r q z := by unfold put2; rw [if_pos (hin2 hq), Int.toNat_natCast, Int.toNat_natCast]
          refine ⟨⟨gb, _, put2 R r q z, rfl, by rw [hp]; exact hput q z, by rw [nums_put2, hg2], fun k => (hg3 k).trans (RF_put k).symm, hg4.set r q z0 z1⟩, hk.trans ((Kept.refl G wr).set (.inl ((hg3 _).2 (.inr (.inr ⟨_, hrom, rfl⟩)))) q _) (fun x _ e => e)⟩)
        unfold rowHd at hcr
        rw [hrl] at hcr
        obtain ⟨g, gc, xs⟩ := ro
        simp only at hcr hnum hfz0 HPUT hrl
        obtain ⟨gad, hgad⟩ : ∃ gad : Addr, (⟨g, 0, none⟩ : Addr) = gad := ⟨_, rfl⟩
        have hga2 : (⟨g, q, none⟩ : Addr) = gad.add q := by rw [← hgad, Ord.add_at, Nat.zero_add]
        rw [hgad] at hcr
        rw [hga2] at hfz0 HPUT
        have HNUM := Lib.hid hnum
        have HGA := Lib.hid hga2
        have HRL := Lib.hid hrl
        clear hhd hcell hA hg1 hg2 hg3 hg4 hRl hfl hk hcap hro hrom hput hnum hin2 hgad hga2 hrl
        by_cases hlq : q < n
        · have hlt9 : r * n + q < N := by
            rw [HN.out]
            have := Nat.mul_le_mul_right n (show r + 1 ≤ m by omega)
            rw [Nat.succ_mul] at this
            omega
          obtain ⟨z, hz⟩ : ∃ z, zs[r * n + q]? = some z := ⟨_, List.getElem?_eq_getElem (by rw [HL.out]; exact hlt9)⟩
          have zb := HZ.out.at hz
          have hcz := HK.out.cell (HR.out.at hz) (by have e : (ad.add (r * n + q)).block = ad.block := by { unfold Addr.add; split <;> rfl }
                                                     rw [e]; exact hGa)
          obtain ⟨v, hv⟩ : ∃ v, xs[q]? = some v := ⟨_, List.getElem?_eq_getElem (by rw [HRL.out]; exact hlq)⟩
          have hcv := HNUM.out v hv
          rw [HGA.out] at hcv
          have HPZ := Lib.hid (HPUT.out hlq z zb.1 zb.2)
          have HFP : Hid ((setL Lk r q z).flatten = upto2 L.flatten zs (r * n + (q + 1))) := Lib.hid (by
            rw [flat_put HD.out.dims z (by omega) (by omega) (by omega) (by omega), HFK.out, Int.toNat_natCast, Int.toNat_natCast, upto2_set HFL.out HL.out hz, Nat.add_assoc])
          obtain ⟨AT, hAT⟩ : ∃ AT, r * n + q = AT := ⟨_, rfl⟩
          have HAT := Lib.hid hAT
          rw [hAT] at hcz hlt9 ⊢
          have hq1 : (q : Int) < (n : Int) := by omega
          have ha1 : (AT : Int) < (N : Int) := by omega
          clear hz hv zb hAT
          go_wp2
          go_region
          clear c0 c1 e6 hb0 hcr hcz hcv hfz0
          go_wp2
          go_roundw
          case rel => exact ⟨q + 1, _, by omega, by have := HAT.out; go_num, by go_num, dg_up HPZ.out.1 (by repeat' (first | (with_reducible exact Below.refl _ _) | (with_reducible assumption) | (with_reducible refine below_over ?_ _ _) | (with_reducible refine Lw.below_alloc ?_ _) | (with_reducible refine Below.drew ?_) | (with_reducible refine below_drewN ?_ _) | (with_reducible refine Below.setCell ?_ ?_ _) | go_size)), HFP.out, HPZ.out.2.trans (Kept.of_below (F := G) (by repeat' (first | (with_reducible exact Below.refl _ _) | (with_reducible assumption) | (with_reducible refine below_over ?_ _ _) | (with_reducible refine Lw.below_alloc ?_ _) | (with_reducible refine Below.drew ?_) | (with_reducible refine below_drewN ?_ _) | (with_reducible refine Below.setCell ?_ ?_ _) | go_size))) (fun x _ e => e)⟩
          case measure => simp [intOf]; omega
        · have e : n = q := by omega
          subst e
          have hadv : r * n + n = (r + 1) * n := by rw [Nat.succ_mul]
          have HFQ := Lib.hid HFK.out
          rw [hadv] at HFQ
          go_wp2
          go_roundw
          case rel => exact ⟨r + 1, Lk, by omega, by rw [hadv], by go_num, HD.out, HFQ.out, HK.out⟩
          case measure => simp [intOf]; omega
    · have e : m = r := by omega
      subst e
      go_wp2
      all_goals go_end0
      obtain ⟨F', h1, h2, h3⟩ := HT.out _ _ HD.out HK.out
      exact ⟨rfl, F', Lj, h1, by rw [HFJ.out, ← HN.out, upto2_end HFL.out HL.out], h2, h3⟩
end Go.Proofs.YtkannodfamnmcaaGreat.Lev
/- What several laws of layer 13 share. Printed by wip/gen/levplays.py. -/
namespace Go.Proofs.YtkannodfamnmcaaGreat.Lev
open Go Go.RowKit Lw Grd Lin Con Shp Sk Exa Inn
set_option linter.unusedVariables false
set_option linter.unusedSimpArgs false
theorem open_opl_u : Tryz.prog.underlying 25 = some (.slice 36) := by kernel_rfl
theorem open_opl_c : Tryz.prog.cellsOf 36 = 3 := by kernel_rfl
set_option maxRecDepth 100000 in
theorem open_opl {H : Type} {enc : TypeId × Value → H} {w : World} {base fuel : Nat} {spare : Nat → Bool} {held : Bool} {cs : List Value} {x : DataW H × List MemPlace} (h : DataW.trod enc Tryz.prog w base spare held fuel 25 cs = some x) :
    ∃ (A : Option Addr) (len cap : Nat) (qs : List (Int × Int × Int)), cs = [.slice A len cap] ∧ (A = none → len = 0 ∧ cap = 0) ∧ len ≤ cap ∧ cap ≤ maxLen ∧ qs.length = len ∧ ∀ (i : Nat) q, qs[i]? = some q → ∃ a, A = some a ∧ w.cell? (a.add (i * 3)) = some (.int .i64 (q.1)) ∧ w.cell? (a.add (i * 3 + 1)) = some (.int .u64 (q.2.1)) ∧ w.cell? (a.add (i * 3 + 2)) = some (.int .i64 (q.2.2)) ∧ (-9223372036854775808 ≤ (q.1) ∧ (q.1) ≤ 9223372036854775807) ∧ (0 ≤ (q.2.1) ∧ (q.2.1) ≤ 18446744073709551615) ∧ (-9223372036854775808 ≤ (q.2.2) ∧ (q.2.2) ≤ 9223372036854775807) := by
  rcases Go.Deep.open_slice open_opl_u h with ⟨rfl, _⟩ | ⟨a, len, cap, m, n, D, Pl, rfl, hb, hl, hm, hmm, _, hx⟩
  · exact ⟨none, 0, 0, [], rfl, fun _ => ⟨rfl, rfl⟩, Nat.le_refl _, by simp, rfl, fun i q hq => by simp at hq⟩
  have hlm : len ≤ m := by rw [hmm]; split <;> omega
  have each : ∀ i, i < len → ∃ q : Int × Int × Int, w.cell? (a.add (i * 3)) = some (.int .i64 (q.1)) ∧ w.cell? (a.add (i * 3 + 1)) = some (.int .u64 (q.2.1)) ∧ w.cell? (a.add (i * 3 + 2)) = some (.int .i64 (q.2.2)) ∧ (-9223372036854775808 ≤ (q.1) ∧ (q.1) ≤ 9223372036854775807) ∧ (0 ≤ (q.2.1) ∧ (q.2.1) ≤ 18446744073709551615) ∧ (-9223372036854775808 ≤ (q.2.2) ∧ (q.2.2) ≤ 9223372036854775807) := by
    intro i hi
    obtain ⟨cs', h1, h2⟩ := hx i (by omega)
    rw [open_opl_c] at h1
    obtain ⟨_, hlen, hcell⟩ := World.cells?_some h1
    obtain ⟨xs, k, _, _, _, hxl, hf⟩ := DataW.trod_struct Tryz.underlying36 h2
    match xs, hxl, cs', hlen with
    | [y0, y1, y2], _, [v0, v1, v2], _ =>
      have g0 := hf 0 _ rfl
      have g1 := hf 1 _ rfl
      have g2 := hf 2 _ rfl
      have e0 := hcell 0 (by omega)
      have e1 := hcell 1 (by omega)
      have e2 := hcell 2 (by omega)
      rw [add_add'] at e0 e1 e2
      simp [show Tryz.prog.cellsOf 3 = 1 from by kernel_rfl, show Tryz.prog.cellsOf 22 = 1 from by kernel_rfl, show Tryz.prog.cellsOf 2 = 1 from by kernel_rfl] at g0 g1 g2
      obtain ⟨x0, f0, _, w0⟩ := DataW.trod_int (show Tryz.prog.underlying 3 = some (.int .i64) by kernel_rfl) g0
      obtain ⟨x1, f1, _, w1⟩ := DataW.trod_int (show Tryz.prog.underlying 22 = some (.int .u64) by kernel_rfl) g1
      obtain ⟨x2, f2, _, w2⟩ := DataW.trod_int (show Tryz.prog.underlying 2 = some (.int .i64) by kernel_rfl) g2
      simp at f0 f1 f2
      subst f0 f1 f2
      exact ⟨(x0, x1, x2), by simpa using e0, by simpa using e1, by simpa using e2, Lw.wf_i64 w0, Lw.wf_u64 w1, Lw.wf_i64 w2⟩
  have each2 : ∀ i, ∃ q : Int × Int × Int, i < len → (w.cell? (a.add (i * 3)) = some (.int .i64 (q.1)) ∧ w.cell? (a.add (i * 3 + 1)) = some (.int .u64 (q.2.1)) ∧ w.cell? (a.add (i * 3 + 2)) = some (.int .i64 (q.2.2)) ∧ (-9223372036854775808 ≤ (q.1) ∧ (q.1) ≤ 9223372036854775807) ∧ (0 ≤ (q.2.1) ∧ (q.2.1) ≤ 18446744073709551615) ∧ (-9223372036854775808 ≤ (q.2.2) ∧ (q.2.2) ≤ 9223372036854775807)) := fun i => by
    by_cases hi : i < len
    · obtain ⟨q, hq⟩ := each i hi
      exact ⟨q, fun _ => hq⟩
    · exact ⟨(0, 0, 0), fun h => absurd h hi⟩
  refine ⟨some a, len, cap, (List.range len).map fun i => Classical.choose (each2 i), rfl, (fun h => by cases h), hl, hm, by simp, ?_⟩
  intro i q hq
  rw [List.getElem?_map] at hq
  obtain ⟨j, hj, rfl⟩ := Option.map_eq_some_iff.1 hq
  have hj2 := List.getElem?_eq_some_iff.1 hj
  obtain ⟨hj3, hj4⟩ := hj2
  simp at hj3 hj4
  subst hj4
  exact ⟨a, rfl, Classical.choose_spec (each2 i) hj3⟩
theorem ce_refl (c : Cfg) (l : Int) : cfgE c c = true ∧ l = l := ⟨decide_eq_true ⟨rfl, rfl, rfl, rfl, rfl⟩, rfl⟩
theorem mgA_p {c : Cfg} {l : Int} {L M : List Int} : mgC 1 c c l l L M = exJ 1 L M ∧ mgR 1 c c l l L M = exM 1 L M := by
  have hs : ¬ ((1 : Int) = -1 ∧ c.md = 2) := by omega
  unfold mgC mgR
  rw [if_pos (ce_refl c l), if_pos (ce_refl c l), if_neg hs, if_neg hs]
  exact ⟨rfl, rfl⟩
theorem mgA_m {c : Cfg} {l : Int} {L M : List Int} (hm : ¬ c.md = 2) : mgC (-1) c c l l L M = exJ (-1) L M ∧ mgR (-1) c c l l L M = exM (-1) L M := by
  have hs : ¬ ((-1 : Int) = -1 ∧ c.md = 2) := fun h => hm h.2
  unfold mgC mgR
  rw [if_pos (ce_refl c l), if_pos (ce_refl c l), if_neg hs, if_neg hs]
  exact ⟨rfl, rfl⟩
theorem mgA_c {c : Cfg} {l : Int} {L M : List Int} (hm : c.md = 2) : mgC (-1) c c l l L M = 3 ∧ mgR (-1) c c l l L M = L := by
  have hs : (-1 : Int) = -1 ∧ c.md = 2 := ⟨rfl, hm⟩
  unfold mgC mgR
  rw [if_pos (ce_refl c l), if_pos (ce_refl c l), if_pos hs, if_pos hs]
  exact ⟨rfl, rfl⟩
theorem mgS_p {c : Cfg} {l : Int} {L M : List (List Int)} : mgCode 1 c c l l L M = jcode 1 (rws c) (wds c) (rws c) (wds c) L M ∧ mgRes 1 c c l l L M = jres 1 (rws c) (wds c) (rws c) (wds c) L M := by
  have hs : ¬ ((1 : Int) = -1 ∧ c.md = 2) := by omega
  unfold mgCode mgRes
  rw [if_pos (ce_refl c l), if_pos (ce_refl c l), if_neg hs, if_neg hs]
  exact ⟨rfl, rfl⟩
theorem mgS_m {c : Cfg} {l : Int} {L M : List (List Int)} (hm : ¬ c.md = 2) : mgCode (-1) c c l l L M = jcode (-1) (rws c) (wds c) (rws c) (wds c) L M ∧ mgRes (-1) c c l l L M = jres (-1) (rws c) (wds c) (rws c) (wds c) L M := by
  have hs : ¬ ((-1 : Int) = -1 ∧ c.md = 2) := fun h => hm h.2
  unfold mgCode mgRes
  rw [if_pos (ce_refl c l), if_pos (ce_refl c l), if_neg hs, if_neg hs]
  exact ⟨rfl, rfl⟩
theorem mgS_c {c : Cfg} {l : Int} {L M : List (List Int)} (hm : c.md = 2) : mgCode (-1) c c l l L M = 3 ∧ mgRes (-1) c c l l L M = L := by
  have hs : (-1 : Int) = -1 ∧ c.md = 2 := ⟨rfl, hm⟩
  unfold mgCode mgRes
  rw [if_pos (ce_refl c l), if_pos (ce_refl c l), if_pos hs, if_pos hs]
  exact ⟨rfl, rfl⟩
theorem linner_A (p : Addr) (F : Nat → Prop) (c : Cfg) (l : Int) (L : List Int) (q : Addr) (F9 : Nat → Prop) (M : List Int) (w : World) (h : DLA w p F c l L) (h9 : DLA w q F9 c l M) :
    Calls Tryz.prog 21 #[.pointer (some p), .pointer (some q)] w fun e w' => e = .returned (.tuple #[.agg #[.int .i64 (aiH c.md L M), .int .u64 (aiL c.md L M)], .int .i64 (aiC c.md L M)]) ∧ Below w.heap.size w w' := by
  unfold aiH aiL aiC
  by_cases hm : c.md = 1
  · rw [if_pos hm, if_pos hm, if_pos hm]
    cases ho : dok L M with
    | true => exact linner_Ayes p F c l L q F9 M w h h9 hm ho
    | false => exact linner_Aover p F c l L q F9 M w h h9 hm ho
  · rw [if_neg hm, if_neg hm, if_neg hm]
    exact linner_Amode p F c l L q F9 M w h h9 hm
theorem linner_S (p : Addr) (F : Nat → Prop) (c : Cfg) (l : Int) (L : List (List Int)) (q : Addr) (F9 : Nat → Prop) (M : List (List Int)) (w : World) (h : DLS w p F c l L) (h9 : DLS w q F9 c l M) (hL : L.length = rws c) (hM : M.length = rws c) :
    Calls Tryz.prog 21 #[.pointer (some p), .pointer (some q)] w fun e w' => e = .returned (.tuple #[.agg #[.int .i64 (Wid.fh (inVal c c l l L M)), .int .u64 (Wid.fl (inVal c c l l L M))], .int .i64 (inCode c c l l L M)]) ∧ Below w.heap.size w w' := by
  by_cases hm : c.md = 1
  · exact linner_Slin p F c l L q F9 M w h h9 hL hM hm
  · have hi := in_mode (l := l) (L := L) (M := M) hm
    rw [hi.1, hi.2, (show Wid.fh 0 = 0 by decide), (show Wid.fl 0 = 0 by decide)]
    exact linner_Smode p F c l L q F9 M w h h9 hm
theorem DLS.dims {w : World} {p : Addr} {F : Nat → Prop} {c : Cfg} {l : Int} {L : List (List Int)} (h : DLS w p F c l L) : Dims (rws c) (wds c) L := by
  obtain ⟨a, G, b, rfl, hb, ht, hn, rfl⟩ := h
  obtain ⟨hr, hok, hl0, hl1, bs, gp, G0, rfl, hbs, hg, hGb, rfl⟩ := dsI ht
  exact hg.dims
theorem flat_inj {m n : Nat} {L M : List (List Int)} (hL : Dims m n L) (hM : Dims m n M) (h : L.flatten = M.flatten) : L = M := by
  refine sz_ext (sz_of_dims hL) (sz_of_dims hM) fun r q hr hq => ?_
  rw [cel_flat (sz_of_dims hL) hr hq, cel_flat (sz_of_dims hM) hr hq, h]
theorem mid_apA {w0 w : World} {g : Nat} {zs : List Int} {t1 t2 t3 : Thing} {q : Addr} {G : Nat → Prop} {c : Cfg} {l : Int} {M : List Int} {ts : List Thing} (h : Have w0 w (midT g zs :: t1 :: t2 :: t3 :: exT q G c l M :: ts)) : ¬ G g := h.2.2.1 (exT q G c l M) (by simp) g rfl
theorem mid_apS {w0 w : World} {g : Nat} {zs : List Int} {t1 t2 t3 : Thing} {q : Addr} {G : Nat → Prop} {c : Cfg} {l : Int} {M : List (List Int)} {ts : List Thing} (h : Have w0 w (midT g zs :: t1 :: t2 :: t3 :: skT q G c l M :: ts)) : ¬ G g := h.2.2.1 (skT q G c l M) (by simp) g rfl
theorem dl_ltS {w0 w : World} {r q : Addr} {R Q : Nat → Prop} {c : Cfg} {l : Int} {L M : List (List Int)} {t : Thing} {ts : List Thing} {x : Nat} (h : Have w0 w (dlST r R c l L :: t :: dlST q Q c l M :: ts)) (hx : w.heap.size ≤ x) : ¬ Q x := fun hq => by
  have := (dlST q Q c l M).lt w h.i2 x hq
  omega
theorem dl_apA {w0 w : World} {r q : Addr} {R Q : Nat → Prop} {c : Cfg} {l : Int} {L M : List Int} {t : Thing} {ts : List Thing} (h : Have w0 w (dlAT r R c l L :: t :: dlAT q Q c l M :: ts)) : ∀ k, R k → ¬ Q k := h.ap02
theorem dl_apS {w0 w : World} {r q : Addr} {R Q : Nat → Prop} {c : Cfg} {l : Int} {L M : List (List Int)} {t : Thing} {ts : List Thing} (h : Have w0 w (dlST r R c l L :: t :: dlST q Q c l M :: ts)) : ∀ k, R k → ¬ Q k := h.ap02
end Go.Proofs.YtkannodfamnmcaaGreat.Lev
/- The nil checks of method values, as the goals of drawn regions show them. Printed by wip/gen/levplays.py (FUEL: the seat's number). -/
namespace Go.Proofs.YtkannodfamnmcaaGreat.Lev
open Go Go.RowKit Lw Grd Lin Con Shp Sk Exa Inn
set_option linter.unusedVariables false
set_option linter.unusedSimpArgs false
theorem naA_Config (p : Addr) (w : World) : (nilAhead 333 76 (.pointer (some p)) "Config").run Tryz.prog w = .ok (some false) w := by kernel_rfl
theorem naA_Level (p : Addr) (w : World) : (nilAhead 333 76 (.pointer (some p)) "Level").run Tryz.prog w = .ok (some false) w := by kernel_rfl
theorem naA_Check (p : Addr) (w : World) : (nilAhead 333 76 (.pointer (some p)) "Check").run Tryz.prog w = .ok (some false) w := by kernel_rfl
theorem naA_Update (p : Addr) (w : World) : (nilAhead 333 76 (.pointer (some p)) "Update").run Tryz.prog w = .ok (some false) w := by kernel_rfl
theorem naA_Point (p : Addr) (w : World) : (nilAhead 333 76 (.pointer (some p)) "Point").run Tryz.prog w = .ok (some false) w := by kernel_rfl
theorem naA_Cells (p : Addr) (w : World) : (nilAhead 333 76 (.pointer (some p)) "Cells").run Tryz.prog w = .ok (some false) w := by kernel_rfl
theorem naA_Load (p : Addr) (w : World) : (nilAhead 333 76 (.pointer (some p)) "Load").run Tryz.prog w = .ok (some false) w := by kernel_rfl
theorem naS_Config (p : Addr) (w : World) : (nilAhead 333 68 (.pointer (some p)) "Config").run Tryz.prog w = .ok (some false) w := by kernel_rfl
theorem naS_Level (p : Addr) (w : World) : (nilAhead 333 68 (.pointer (some p)) "Level").run Tryz.prog w = .ok (some false) w := by kernel_rfl
theorem naS_Check (p : Addr) (w : World) : (nilAhead 333 68 (.pointer (some p)) "Check").run Tryz.prog w = .ok (some false) w := by kernel_rfl
theorem naS_Update (p : Addr) (w : World) : (nilAhead 333 68 (.pointer (some p)) "Update").run Tryz.prog w = .ok (some false) w := by kernel_rfl
theorem naS_Point (p : Addr) (w : World) : (nilAhead 333 68 (.pointer (some p)) "Point").run Tryz.prog w = .ok (some false) w := by kernel_rfl
theorem naS_Cells (p : Addr) (w : World) : (nilAhead 333 68 (.pointer (some p)) "Cells").run Tryz.prog w = .ok (some false) w := by kernel_rfl
theorem naS_Load (p : Addr) (w : World) : (nilAhead 333 68 (.pointer (some p)) "Load").run Tryz.prog w = .ok (some false) w := by kernel_rfl
end Go.Proofs.YtkannodfamnmcaaGreat.Lev
