/- Texts that the statement LevelPlays leans on, put together: SkDocC, InnDoc, LevDef, LevRef, LevInn. -/
import Derived.Test.YtkannodfamnmcaaGreatMa
import Derived.Test.YtkannodfamnmcaaGreatMb
import Derived.Test.YtkannodfamnmcaaGreatMc
import Derived.Test.YtkannodfamnmcaaGreatMd
import Derived.Test.YtkannodfamnmcaaGreatQi
import Derived.Test.YtkannodfamnmcaaGreatQj
import Derived.Test.YtkannodfamnmcaaGreatQl
import Derived.Test.YtkannodfamnmcaaGreatQm
import Derived.Deep.LoopGhost
import Derived.Deep.RegionHeld3
import Derived.Deep.DeepCutAuto
import Derived.Deep.QuietTactic
import Derived.BigQuiet
/- The document's sketch: Copy. Printed by wip/gen/skdocc.py. -/
namespace Go.Proofs.YtkannodfamnmcaaGreat.Sk
open Go Go.RowKit Lw Grd Lin Con Shp
set_option linter.unusedVariables false
set_option linter.unusedSimpArgs false
/-- A row of a grid of the document's is put in the place of another one. -/
theorem _root_.Go.Proofs.YtkannodfamnmcaaGreat.Grd.RG.setRow {w : World} {b gh cap : Nat} {R : List Row} (h : RG w b (.slice (some ⟨gh, 0, none⟩) R.length cap) R) {K : Nat} (hK : K < R.length) (g c : Nat) (zs : List Int) (hown : w.ownsRow 0 2 1 (rowHd (g, c, zs)) zs.length (zs.map (Value.int .i64))) (hf : ¬ RF b (.slice (some ⟨gh, 0, none⟩) R.length cap) R g) :
    RG (w.setCell ⟨gh, K, none⟩ (rowHd (g, c, zs))) b (.slice (some ⟨gh, 0, none⟩) (R.set K (g, c, zs)).length cap) (R.set K (g, c, zs)) := by
  have hgh : g ≠ gh := fun e => hf (.inr (.inl (by rw [e]; rfl)))
  have hgb : g ≠ b := fun e => hf (.inl e)
  have hgr : ∀ r ∈ R, r.1 ≠ g := fun r hr e => hf (.inr (.inr ⟨r, hr, e⟩))
  have hk : Kept (fun q => q = gh) w (w.setCell ⟨gh, K, none⟩ (rowHd (g, c, zs))) := Kept.set (F := fun q => q = gh) (Kept.refl _ w) (.inl rfl) K _
  have hbg : b ≠ gh := fun e => h.apart1 (by rw [e]; rfl)
  rw [List.length_set]
  refine ⟨hk.heap h.cell hbg, ?_, ?_, h.apart1, ?_, ?_⟩
  · have hs := (h.outer.stored (g := gh) (cap := cap) K (rowHd (g, c, zs))).1
    rw [List.length_set, List.map_set]
    exact hs
  · intro x hx
    rcases List.mem_or_eq_of_mem_set hx with hx | rfl
    · exact hk.own (h.rows x hx) (fun q hq e => (h.apart2 x hx).2 (by simp [rowHd, Value.ownBlock] at hq ⊢; omega))
    · exact hk.own hown (fun q hq e => hgh (by simp [rowHd, Value.ownBlock] at hq; omega))
  · intro x hx
    rcases List.mem_or_eq_of_mem_set hx with hx | rfl
    · exact h.apart2 x hx
    · exact ⟨hgb, fun e => hgh (by simp [Value.ownBlock] at e; exact e.symm)⟩
  · rw [List.map_set]
    have hnd := h.nd
    refine List.pairwise_iff_getElem.2 fun i j hi hj hij => ?_
    have hi2 : i < (R.map (·.1)).length := by simpa using hi
    have hj2 : j < (R.map (·.1)).length := by simpa using hj
    have hne := List.pairwise_iff_getElem.1 hnd i j hi2 hj2 hij
    rw [List.getElem_set, List.getElem_set]
    by_cases h1 : K = i
    · rw [if_pos h1, if_neg (by omega)]
      intro e
      have hm := List.getElem_mem (l := R) (n := j) (by simpa using hj2)
      exact hgr _ hm (by simpa using e.symm)
    · rw [if_neg h1]
      by_cases h2 : K = j
      · rw [if_pos h2]
        intro e
        have hm := List.getElem_mem (l := R) (n := i) (by simpa using hi2)
        exact hgr _ hm (by simpa using e)
      · rw [if_neg h2]
        exact hne
theorem nums_set (R : List Row) (K : Nat) (x : Row) : nums (R.set K x) = (nums R).set K x.2.2 := by unfold nums; rw [List.map_set]
theorem take_drop_set {L Z : List (List Int)} {r : Nat} {xs : List Int} (h : L[r]? = some xs) (hl : L.length = Z.length) : (L.take r ++ Z.drop r).set r xs = L.take (r + 1) ++ Z.drop (r + 1) := by
  obtain ⟨h1, h2⟩ := List.getElem?_eq_some_iff.1 h
  apply List.ext_getElem?
  intro j
  rw [List.getElem?_set, List.getElem?_append, List.getElem?_append]
  simp only [List.length_append, List.length_take, List.length_drop]
  by_cases hj : r = j
  · subst hj
    rw [if_pos rfl, if_pos (by omega), if_pos (by omega), List.getElem?_take, if_pos (by omega), h]
  · rw [if_neg hj]
    by_cases hj2 : j < r
    · rw [if_pos (by omega), if_pos (by omega), List.getElem?_take, List.getElem?_take, if_pos hj2, if_pos (by omega)]
    · rw [if_neg (by omega), if_neg (by omega), List.getElem?_drop, List.getElem?_drop]
      congr 1
      omega
theorem own_zero {w : World} {B : Nat} {e : TypeId} {v : Value} {n : Nat} {xs : List Value} (h : w.ownsRow B e 1 v n xs) : w.ownsRow 0 e 1 v n xs := by
  refine ⟨h.1, ?_⟩
  rcases h.2 with h1 | ⟨g, cap, cur, h1, h2, h3⟩
  · exact .inl h1
  · exact .inr ⟨g, cap, cur, h1, Nat.zero_le _, h3⟩
theorem frozen_below {w w' : World} {g j : Nat} (h : Below w.heap.size w w') (hg : g < w.heap.size) : w'.frozen? ⟨g, j, none⟩ = w.frozen? ⟨g, j, none⟩ := by
  unfold World.frozen?
  rw [h.block g hg]
set_option maxRecDepth 100000 in
set_option maxHeartbeats 8000000 in
theorem rscopy_any (p : Addr) (F : Nat → Prop) (c : Cfg) (l : Int) (L : List (List Int)) (w : World) (h : DS w p F c l L) :
    Calls Tryz.prog 39 #[.pointer (some p)] w fun e w' => ∃ (q : Addr) (Q : Nat → Prop), e = .returned (.pointer (some q)) ∧ DS w' q Q c l L ∧ (∀ k, Q k → w.heap.size ≤ k) ∧ Below w.heap.size w w' := by
  obtain ⟨i0, hi, hz0, hz1, hz2⟩ := info_parts i64_info
  obtain ⟨hr, hok, hl0, hl1, b, gp, G, rfl, hb, hg, hGb, rfl⟩ := h
  have hbl := size_of_heap hb
  have c0 := grd_cell hb 0 (v := .int .i64 c.bt) rfl
  have c1 := grd_cell hb 1 (v := .int .i64 c.rw) rfl
  have c2 := grd_cell hb 2 (v := .int .i64 c.wd) rfl
  have c3 := grd_cell hb 3 (v := .int .i64 c.md) rfl
  have c4 := grd_cell hb 4 (v := .int .u64 c.sd) rfl
  have c5 := grd_cell hb 5 (v := .int .i64 l) rfl
  have c6 := grd_cell hb 6 (v := .pointer (some gp)) rfl
  have CN := Lib.hid (fun w => rsnew_any c l w hok hr hl0 hl1)
  have HR := Lib.hid (And.intro hr (And.intro hok (And.intro hl0 hl1)))
  have hd := hg.dims
  obtain ⟨gb, hdr, R, rfl, hrg, hnum, hGF, -⟩ := hg
  obtain ⟨A, cap, rfl, hcap, hA, hrow⟩ := hrg.hd
  have hlen : R.length = rws c := by have := hd.len; rw [← hnum, nums_len] at this; exact this
  have hpos := rws_bd hr
  have hwb := wds_bd hr
  cases A with
  | none => have := hA rfl; omega
  | some gh =>
    have c7w : w.cell? ⟨gb, 0, none⟩ = some (.slice (some gh) R.length cap) := grd_cell hrg.cell 0 rfl
    have RW : Hid (∀ (r : Nat) xs, L[r]? = some xs → ∃ (rb rc : Nat), w.cell? (gh.add r) = some (.slice (some ⟨rb, 0, none⟩) (wds c) rc) ∧ Rd .i64 w (some ⟨rb, 0, none⟩) xs ∧ xs.length = wds c) := Lib.hid (fun r xs hx => by
      rw [← hnum] at hx
      unfold nums at hx
      rw [List.getElem?_map] at hx
      cases hr2 : R[r]? with
      | none => rw [hr2] at hx; cases hx
      | some ro =>
        rw [hr2] at hx
        injection hx with hx
        subst hx
        have hm := List.mem_of_getElem? hr2
        obtain ⟨ad, had, hc⟩ := hrow r ro hr2
        injection had with had
        subst had
        have hdr := hd.rows ro.2.2 (by rw [← hnum]; exact nums_mem hm)
        refine ⟨ro.1, ro.2.1, ?_, fun j v hv => ⟨_, rfl, hrg.numAt hm hv⟩, hdr.1⟩
        rw [hc]
        unfold rowHd
        rw [hdr.1])
    obtain ⟨m, hmm⟩ : ∃ m, rws c = m := ⟨_, rfl⟩
    obtain ⟨n, hnn⟩ : ∃ n, wds c = n := ⟨_, rfl⟩
    rw [hlen, hmm] at c7w
    rw [hmm, hnn] at CN
    rw [hnn] at RW
    have hm8 : 1 ≤ m ∧ m ≤ 8 := by rw [← hmm]; exact ⟨hpos.1, hpos.2.1⟩
    have hn8 : 1 ≤ n ∧ n ≤ 128 := by rw [← hnn]; exact ⟨hwb.1, hwb.2.1⟩
    have HLN : Hid (L.length = m) := Lib.hid (by rw [← hmm]; exact hd.len)
    have HDD : Hid (Dims m n L) := Lib.hid (by rw [← hmm, ← hnn]; exact hd)
    have HMN := Lib.hid (And.intro hmm hnn)
    have C6 := Lib.hid c6
    have C7 := Lib.hid c7w
    clear hb hr hok hl0 hl1 hrg hnum hGF hrow hlen hpos hwb hA hcap hmm hnn hd hGb
    go_enter Tryz.func39, Tryz.ntmps39
    go_upto_region 1 with fail
    go_region_held3 (fun w' => w'.cell? ⟨b, 0, none⟩ = some (.int .i64 c.bt) ∧ w'.cell? ⟨b, 1, none⟩ = some (.int .i64 c.rw) ∧ w'.cell? ⟨b, 2, none⟩ = some (.int .i64 c.wd) ∧ w'.cell? ⟨b, 3, none⟩ = some (.int .i64 c.md) ∧ w'.cell? ⟨b, 4, none⟩ = some (.int .u64 c.sd) ∧ w'.cell? ⟨b, 5, none⟩ = some (.int .i64 l)) (first | (refine ⟨?_, ?_, ?_, ?_, ?_, ?_⟩ <;> (first | (with_reducible assumption) | (with_reducible refine cell_up c0 ?_) | (with_reducible refine cell_up c1 ?_) | (with_reducible refine cell_up c2 ?_) | (with_reducible refine cell_up c3 ?_) | (with_reducible refine cell_up c4 ?_) | (with_reducible refine cell_up c5 ?_)) <;> repeat' (first | (with_reducible exact Below.refl _ _) | (with_reducible assumption) | (with_reducible refine below_over ?_ _ _) | (with_reducible refine Lw.below_alloc ?_ _) | (with_reducible refine Below.drew ?_) | (with_reducible refine below_drewN ?_ _) | (with_reducible refine Below.setCell ?_ ?_ _) | go_size))) (first
      | (go_at_call 35; (with_reducible refine (CN.out _).mono ?_); rintro e w1 ⟨q, Q, rfl, hds, hq, hb1⟩; have HB1 : Hid (Below w.heap.size w w1) := Lib.hid (below_call (show Below w.heap.size w _ from (by repeat' (first | (with_reducible exact Below.refl _ _) | (with_reducible assumption) | (with_reducible refine below_over ?_ _ _) | (with_reducible refine Lw.below_alloc ?_ _) | (with_reducible refine Below.drew ?_) | (with_reducible refine below_drewN ?_ _) | (with_reducible refine Below.setCell ?_ ?_ _) | go_size))) hb1 (Nat.le_refl _)); have HDS := Lib.hid hds; have HQF : Hid (∀ k, Q k → w.heap.size ≤ k) := Lib.hid (fun k hk => Nat.le_trans (Below.size (show Below w.heap.size w _ from (by repeat' (first | (with_reducible exact Below.refl _ _) | (with_reducible assumption) | (with_reducible refine below_over ?_ _ _) | (with_reducible refine Lw.below_alloc ?_ _) | (with_reducible refine Below.drew ?_) | (with_reducible refine below_drewN ?_ _) | (with_reducible refine Below.setCell ?_ ?_ _) | go_size)))) (hq k hk)); have hbw1 := HB1.out; clear hds hq hb1))
    all_goals go_wp2
    clear c0 c1 c2 c3 c4 c5 c6
    have hds := HDS.out
    obtain ⟨-, -, -, -, bq, gq, Gq, rfl, hbq, ⟨gqb, hdq, R0, rfl, hrg0, hnum0, hGF0, -⟩, hGbq, rfl⟩ := hds
    (try rw [HMN.out.1, HMN.out.2] at hnum0)
    obtain ⟨Aq, capq, rfl, hcapq, hAq, -⟩ := hrg0.hd
    have hl0 : R0.length = m := by have := congrArg List.length hnum0; rw [nums_len] at this; rw [this]; simp [zerosL]
    have hAq2 : ∃ gqh, Aq = some ⟨gqh, 0, none⟩ := by
      rcases hrg0.outer.2 with ⟨h1, h2⟩ | ⟨gx, cx, cur, h1, h2, h3, h4, h5, h6, h7⟩
      · omega
      · injection h1 with h1 h2 h3
        exact ⟨gx, h1⟩
    obtain ⟨gqh, rfl⟩ := hAq2
    have hq1 := HQF.out bq (.inl rfl)
    have hq2 : w.heap.size ≤ gqb := HQF.out gqb (.inr ((hGF0 gqb).2 (.inl rfl)))
    have hq3 : w.heap.size ≤ gqh := HQF.out gqh (.inr ((hGF0 gqh).2 (.inr (.inl rfl))))
    have hb2 : bq ≠ gqh := fun e => hGbq ((hGF0 bq).2 (.inr (.inl (by rw [e]; rfl))))
    have hrows0 : ∀ r ∈ R0, w.heap.size ≤ r.1 ∧ r.1 ≠ bq := fun r hr => ⟨HQF.out r.1 (.inr ((hGF0 r.1).2 (.inr (.inr ⟨r, hr, rfl⟩)))), fun e => hGbq ((hGF0 bq).2 (.inr (.inr ⟨r, hr, e⟩)))⟩
    have hnb : gqb ≠ bq := fun e => hGbq ((hGF0 bq).2 (.inl e.symm))
    rw [hl0] at hrg0
    have HST : Hid (∃ (R' : List Row), RG w1 gqb (.slice (some ⟨gqh, 0, none⟩) m capq) R' ∧ nums R' = (L.take 0 ++ (zerosL m n).drop 0) ∧ R'.length = m ∧ (∀ r ∈ R', w.heap.size ≤ r.1 ∧ r.1 ≠ bq)) := Lib.hid ⟨R0, hrg0, by rw [hnum0]; simp, hl0, hrows0⟩
    have HBQ := Lib.hid hbq
    clear hrg0 hnum0 hGF0 hGbq hAq hl0 hrows0 HQF HDS hbq hcapq
    go_loopw [4] (fun iv wr => ∃ (r : Nat) (R' : List Row), r ≤ m ∧ iv = .int .i64 r ∧ Below w.heap.size w wr ∧ wr.heap[bq]? = some (.cells #[.int .i64 c.bt, .int .i64 c.rw, .int .i64 c.wd, .int .i64 c.md, .int .u64 c.sd, .int .i64 l, .pointer (some ⟨gqb, 0, none⟩)] 107 (0, 0)) ∧ RG wr gqb (.slice (some ⟨gqh, 0, none⟩) m capq) R' ∧ nums R' = (L.take r ++ (zerosL m n).drop r) ∧ R'.length = m ∧ (∀ x ∈ R', w.heap.size ≤ x.1 ∧ x.1 ≠ bq)) (fun iv _ => m - (intOf iv).toNat)
    case atStart =>
      obtain ⟨R', h1, h2, h3, h4⟩ := HST.out
      exact ⟨0, R', Nat.zero_le _, rfl, HB1.out, HBQ.out, h1, h2, h3, h4⟩
    case round =>
      obtain ⟨r, R', hrm, rfl, hbel, hbq, hrg, hnum, hl', hrows⟩ := hrel
      have c6 := cell_up C6.out hbel
      have c7 := cell_up C7.out hbel
      by_cases hlt : r < m
      · obtain ⟨xs, hxs⟩ : ∃ xs, L[r]? = some xs := ⟨_, List.getElem?_eq_getElem (by rw [HLN.out]; exact hlt)⟩
        obtain ⟨rb, rc, hrw, hrd, hxl⟩ := RW.out r xs hxs
        have c8 := cell_up hrw hbel
        have HXR := Lib.hid (hrd.up hbel)
        have e6 := grd_cell hbq 6 (v := .pointer (some ⟨gqb, 0, none⟩)) rfl
        have e7 : wr.cell? ⟨gqb, 0, none⟩ = some (.slice (some ⟨gqh, 0, none⟩) m capq) := grd_cell hrg.cell 0 rfl
        obtain ⟨ro, hro⟩ : ∃ ro, R'[r]? = some ro := ⟨_, List.getElem?_eq_getElem (by rw [hl']; exact hlt)⟩
        have hgql : gqh < wr.heap.size := own_lt hrg.outer rfl
        obtain ⟨aq, haq⟩ : ∃ aq : Addr, (⟨gqh, 0, none⟩ : Addr) = aq := ⟨_, rfl⟩
        have hcq : wr.cell? ⟨gqh, r, none⟩ = some (rowHd ro) := by
          have h9 := hrg.outer.cells (g := gqh) rfl r (rowHd ro) (by rw [List.getElem?_map, hro]; rfl)
          rw [Ord.add_at, Nat.zero_add] at h9
          exact h9
        have hfq : wr.frozen? ⟨gqh, r, none⟩ = false := by
          rcases hrg.outer.2 with ⟨h1, h2⟩ | ⟨gx, cx, cur, h1, h2, h3, h4, h5, h6, h7⟩
          · cases h1
          · injection h1 with h1 h2 h3
            injection h1 with h1
            injection h1 with h1
            subst h1
            simp [World.frozen?, h3]
        have FZ : Hid (∀ w', Below wr.heap.size wr w' → w'.frozen? (aq.add r) = false) := Lib.hid (fun w' hb => by
          rw [← haq, Ord.add_at, Nat.zero_add]
          rw [frozen_below hb hgql]
          exact hfq)
        have CO4 : Hid (∀ w', Below wr.heap.size wr w' → w'.cell? (aq.add r) = some (rowHd ro)) := Lib.hid (fun w' hb => by
          rw [← haq, Ord.add_at, Nat.zero_add]
          exact cell_up hcq hb)
        have HNX : Hid (∀ x : Row, x.2.2 = xs → nums (R'.set r x) = (L.take (r + 1) ++ (zerosL m n).drop (r + 1))) := Lib.hid (fun x hx => by
          rw [nums_set, hnum, hx]
          exact take_drop_set hxs (by rw [HLN.out]; simp [zerosL]))
        have HRG := Lib.hid hrg
        have HBQ2 := Lib.hid hbq
        have HRS := Lib.hid hrows
        have hszw := hbel.size
        have hr1 : (r : Int) < (m : Int) := by omega
        have HBL := Lib.hid hbel
        have SKP : Hid (∀ (w' : World) (v : Value) (a : Addr) (u : Value), w'.cell? a = some u → a.block ≠ gqh → (w'.setCell (aq.add r) v).cell? a = some u) := Lib.hid (fun w' v a u h1 h2 => by
          rw [← haq, Ord.add_at, Nat.zero_add]
          exact (Kept.set (F := fun k => k = gqh) (Kept.refl _ w') (.inl rfl) r v).cell h1 h2)
        have hne6 : b ≠ gqh := by omega
        have hne7 : gqb ≠ gqh := fun e => hrg.apart1 (by rw [e]; rfl)
        have hne8 : gb ≠ gqh := by have := cell_lt C7.out; simp only at this; omega
        have hne9 : (gh.add r).block ≠ gqh := by have := cell_lt hrw; omega
        rw [haq] at e7
        clear hxs hrw hrd hro hcq hfq hnum hbq hrows
        go_upto_region 5 with fail
        go_region_held3 (fun w' => w'.cell? ⟨bq, 6, none⟩ = some (.pointer (some ⟨gqb, 0, none⟩)) ∧ w'.cell? ⟨gqb, 0, none⟩ = some (.slice (some aq) m capq) ∧ w'.cell? ⟨b, 6, none⟩ = some (.pointer (some ⟨gb, 0, none⟩)) ∧ w'.cell? ⟨gb, 0, none⟩ = some (.slice (some gh) m cap) ∧ w'.cell? (gh.add r) = some (.slice (some ⟨rb, 0, none⟩) n rc)) (first | (refine ⟨?_, ?_, ?_, ?_, ?_⟩ <;> (first | (with_reducible assumption) | (with_reducible refine cell_up e6 ?_) | (with_reducible refine cell_up e7 ?_) | (with_reducible refine cell_up c6 ?_) | (with_reducible refine cell_up c7 ?_) | (with_reducible refine cell_up c8 ?_)) <;> (repeat' (first | (with_reducible exact Below.refl _ _) | (with_reducible assumption) | (with_reducible refine below_over ?_ _ _) | (with_reducible refine Lw.below_alloc ?_ _) | (with_reducible refine Below.drew ?_) | (with_reducible refine below_drewN ?_ _) | (with_reducible refine Below.setCell ?_ ?_ _) | go_size)))) (first
          | (refine app_step .i64 rfl _ _ 45 rfl wr.heap.size 2 i0 8 i64s_u hi hz0 hz1 hz2 (.slice (some ⟨wr.heap.size, 0, none⟩) 0 0) 0 [] rfl (own_empty wr.drew _ _ _ (Nat.le_refl _)) (fun h => by cases h) (some ⟨rb, 0, none⟩) n rc xs rfl (fun h => by cases h) hxl (HXR.out.up (by repeat' (first | (with_reducible exact Below.refl _ _) | (with_reducible assumption) | (with_reducible refine below_over ?_ _ _) | (with_reducible refine Lw.below_alloc ?_ _) | (with_reducible refine Below.drew ?_) | (with_reducible refine below_drewN ?_ _) | (with_reducible refine Below.setCell ?_ ?_ _) | go_size))) (by unfold maxLen; omega) (by omega) (by simp) ?_; intro A4 cap4 w4 hown4 hgrow4 hrd4 hcap6 hcap7; have hb4 : Below wr.heap.size wr w4 := app_below2 (by repeat' (first | (with_reducible exact Below.refl _ _) | (with_reducible assumption) | (with_reducible refine below_over ?_ _ _) | (with_reducible refine Lw.below_alloc ?_ _) | (with_reducible refine Below.drew ?_) | (with_reducible refine below_drewN ?_ _) | (with_reducible refine Below.setCell ?_ ?_ _) | go_size)) hgrow4 (Nat.le_refl _); (try simp only [Nat.zero_add, List.nil_append] at hown4 hcap6); (try simp only [Nat.zero_add]); have HO4 := Lib.hid hown4; have HB4 := Lib.hid hb4; have fz4 := FZ.out w4 hb4; have co4 := CO4.out w4 hb4; have q6 := SKP.out w4 (.slice (some A4) n cap4) _ _ (cell_up e6 hb4) hb2; have q7 := SKP.out w4 (.slice (some A4) n cap4) _ _ (cell_up e7 hb4) hne7; have q8 := SKP.out w4 (.slice (some A4) n cap4) _ _ (cell_up c6 hb4) hne6; have q9 := SKP.out w4 (.slice (some A4) n cap4) _ _ (cell_up c7 hb4) hne8; have q10 := SKP.out w4 (.slice (some A4) n cap4) _ _ (cell_up c8 hb4) hne9; clear hown4 hgrow4 hrd4))
        all_goals go_wp2
        go_roundw
        case rel =>
          obtain ⟨g4, rfl, hg4, -⟩ := Ord.mid_own HO4.out
          have hrg4 := HRG.out.keep (F := fun _ => False) (Kept.of_below HB4.out) (fun q hq h => h)
          have hnf : ¬ RF gqb (.slice (some ⟨gqh, 0, none⟩) m capq) R' g4 := fun hk => by have := HRG.out.blt hk; omega
          have hown0 : w4.ownsRow 0 2 1 (rowHd (g4, cap4, xs)) xs.length (xs.map (Value.int .i64)) := by
            have h9 := own_zero HO4.out
            unfold rowHd
            rw [hxl]
            exact h9
          have hwe : w4.setCell (aq.add r) (.slice (some ⟨g4, 0, none⟩) n cap4) = w4.setCell ⟨gqh, r, none⟩ (rowHd (g4, cap4, xs)) := by
            rw [← haq, Ord.add_at, Nat.zero_add]
            unfold rowHd
            rw [hxl]
          have hset : RG (w4.setCell ⟨gqh, r, none⟩ (rowHd (g4, cap4, xs))) gqb (.slice (some ⟨gqh, 0, none⟩) m capq) (R'.set r (g4, cap4, xs)) := by
            have h8 := RG.setRow (w := w4) (b := gqb) (gh := gqh) (cap := capq) (R := R') (by rw [hl']; exact hrg4) (K := r) (by rw [hl']; exact hlt) g4 cap4 xs hown0 (by rw [hl']; exact hnf)
            rw [List.length_set, hl'] at h8
            exact h8
          have hb4 : Below w.heap.size w w4 := below_call HBL.out HB4.out (Nat.le_refl _)
          have hbqs := size_of_heap HBQ2.out
          have hks : Kept (fun q => q = gqh) w4 (w4.setCell ⟨gqh, r, none⟩ (rowHd (g4, cap4, xs))) := Kept.set (F := fun q => q = gqh) (Kept.refl _ w4) (.inl rfl) r _
          rw [hwe]
          refine ⟨r + 1, R'.set r (g4, cap4, xs), by omega, by go_num, Below.setCell hb4 hq3 _, ?_, hset, HNX.out _ rfl, by rw [List.length_set]; exact hl', fun x hx => ?_⟩
          · refine hks.heap ?_ hb2
            rw [HB4.out.block bq hbqs]
            exact HBQ2.out
          · rcases List.mem_or_eq_of_mem_set hx with hx | rfl
            · exact HRS.out x hx
            · exact ⟨by show w.heap.size ≤ g4; omega, by show g4 ≠ bq; omega⟩
        case measure => simp [intOf]; omega
      · have e : r = m := by omega
        subst e
        have hlt3 : ¬ (r : Int) < (r : Int) := by omega
        have hnl : nums R' = L := by
          rw [hnum, List.take_of_length_le (by rw [HLN.out]; exact Nat.le_refl _), List.drop_of_length_le (by simp [zerosL]), List.append_nil]
        have HRG := Lib.hid hrg
        have HBQ2 := Lib.hid hbq
        have HRS := Lib.hid hrows
        have HBL := Lib.hid hbel
        have HNL := Lib.hid hnl
        clear hrg hbq hrows hbel hnl hnum hl'
        go_wp2
        go_ret
        refine ⟨⟨bq, 0, none⟩, rfl, fun k => k = bq ∨ RF gqb (.slice (some ⟨gqh, 0, none⟩) r capq) R' k, ⟨HR.out.1, HR.out.2.1, HR.out.2.2.1, HR.out.2.2.2, bq, ⟨gqb, 0, none⟩, RF gqb (.slice (some ⟨gqh, 0, none⟩) r capq) R', rfl, HBQ2.out, ⟨gqb, _, R', rfl, HRG.out, HNL.out, fun _ => Iff.rfl, by rw [HMN.out.1, HMN.out.2]; exact HDD.out⟩, fun hk => ?_, rfl⟩, fun k hk => ?_, HBL.out⟩
        · rcases hk with h1 | h1 | ⟨x, hx, h1⟩
          · exact hnb h1.symm
          · simp [Value.ownBlock] at h1
            exact hb2 h1.symm
          · exact (HRS.out x hx).2 h1
        · rcases hk with rfl | h1 | h1 | ⟨x, hx, h1⟩
          · exact hq1
          · rw [h1]; exact hq2
          · simp [Value.ownBlock] at h1
            rw [← h1]; exact hq3
          · rw [← h1]; exact (HRS.out x hx).1
end Go.Proofs.YtkannodfamnmcaaGreat.Sk
/- The document's Inner, of two sketches of one config and level. Printed by wip/gen/rinn.py. -/
namespace Go.Proofs.YtkannodfamnmcaaGreat.Inn
open Go Go.RowKit Lw Grd Lin Con Shp Sk
set_option linter.unusedVariables false
set_option linter.unusedSimpArgs false
/-- What a sketch of the document lies in, cell for cell. -/
theorem _root_.Go.Proofs.YtkannodfamnmcaaGreat.Sk.DS.row {w : World} {p : Addr} {F : Nat → Prop} {c : Cfg} {l : Int} {L : List (List Int)} (h : DS w p F c l L) : ∃ (b gb : Nat) (gh : Addr) (cap : Nat), p = ⟨b, 0, none⟩ ∧ w.cell? ⟨b, 0, none⟩ = some (.int .i64 c.bt) ∧ w.cell? ⟨b, 1, none⟩ = some (.int .i64 c.rw) ∧ w.cell? ⟨b, 2, none⟩ = some (.int .i64 c.wd) ∧ w.cell? ⟨b, 3, none⟩ = some (.int .i64 c.md) ∧ w.cell? ⟨b, 4, none⟩ = some (.int .u64 c.sd) ∧ w.cell? ⟨b, 5, none⟩ = some (.int .i64 l) ∧ w.cell? ⟨b, 6, none⟩ = some (.pointer (some ⟨gb, 0, none⟩)) ∧ w.cell? ⟨gb, 0, none⟩ = some (.slice (some gh) (rws c) cap) ∧ rws c ≤ cap ∧ ∀ (r : Nat) xs, L[r]? = some xs → ∃ (rb rc : Nat), w.cell? (gh.add r) = some (.slice (some ⟨rb, 0, none⟩) (wds c) rc) ∧ Rd .i64 w (some ⟨rb, 0, none⟩) xs ∧ xs.length = wds c ∧ In64 xs := by
  obtain ⟨hr, hok, hl0, hl1, b, gp, G, rfl, hb, ⟨gb, hdr, R, rfl, hg, rfl, hG, hd⟩, hGb, rfl⟩ := h
  obtain ⟨A, cap, rfl, hcap, hA, hrow⟩ := hg.hd
  have hlen : R.length = rws c := by have := hd.len; rwa [nums_len] at this
  have hpos := (rws_bd hr).1
  cases A with
  | none => have := hA rfl; omega
  | some gh =>
    refine ⟨b, gb, gh, cap, rfl, grd_cell hb 0 rfl, grd_cell hb 1 rfl, grd_cell hb 2 rfl, grd_cell hb 3 rfl, grd_cell hb 4 rfl, grd_cell hb 5 rfl, grd_cell hb 6 rfl, by rw [← hlen]; exact grd_cell hg.cell 0 rfl, by omega, fun r xs hx => ?_⟩
    unfold nums at hx
    rw [List.getElem?_map] at hx
    cases hr2 : R[r]? with
    | none => rw [hr2] at hx; cases hx
    | some ro =>
      rw [hr2] at hx
      injection hx with hx
      subst hx
      have hm := List.mem_of_getElem? hr2
      obtain ⟨ad, had, hc⟩ := hrow r ro hr2
      injection had with had
      subst had
      have hdr := hd.rows ro.2.2 (nums_mem hm)
      refine ⟨ro.1, ro.2.1, ?_, fun j v hv => ⟨_, rfl, hg.numAt hm hv⟩, hdr.1, hdr.2⟩
      rw [hc]
      unfold rowHd
      rw [hdr.1]
theorem lmin_take0 (zs : List Int) : lmin (zs.take 0) = 0 := by simp [lmin]
set_option maxRecDepth 100000 in
set_option maxHeartbeats 8000000 in
theorem rinner_mode (p : Addr) (F : Nat → Prop) (c : Cfg) (l : Int) (L : List (List Int)) (q : Addr) (G : Nat → Prop) (M : List (List Int)) (w : World) (h : DS w p F c l L) (g : DS w q G c l M) (hm : c.md ≠ 1) :
    Calls Tryz.prog 55 #[.pointer (some p), .pointer (some q)] w fun e w' => e = .returned (.tuple #[.agg #[.int .i64 0, .int .u64 0], .int .i64 3]) ∧ Below w.heap.size w w' := by
  obtain ⟨b, gb, gh, cap, rfl, c0w, c1w, c2w, c3w, c4w, c5w, c6w, c7w, hcap, RL⟩ := h.row
  obtain ⟨b2, gb2, gh2, cap2, rfl, e0w, e1w, e2w, e3w, e4w, e5w, e6w, e7w, hcap2, RM⟩ := g.row
  have hmf : (c.md != 1) = true := by simpa using hm
  clear RL RM h g hm
  have HBX : Hid (Have w (w.alloc (.cells #[.int .i64 0, .int .u64 0] 49)) [boxT w.heap.size 49 #[.int .i64 0, .int .u64 0]]) := Lib.hid (box_new w _ _)
  go_enter Tryz.func55, Tryz.ntmps55
  go_upto_region 1 with fail
  obtain ⟨w1, hw1⟩ : ∃ w1, w1 = w.alloc (.cells #[.int .i64 0, .int .u64 0] 49) := ⟨_, rfl⟩
  have HV1 : Hid (Have w w1 [boxT w.heap.size 49 #[.int .i64 0, .int .u64 0]]) := Lib.hid (by rw [hw1]; exact HBX.out)
  have c0 := cell_up c0w HV1.out.below
  have c1 := cell_up c1w HV1.out.below
  have c2 := cell_up c2w HV1.out.below
  have c3 := cell_up c3w HV1.out.below
  have c4 := cell_up c4w HV1.out.below
  have c5 := cell_up c5w HV1.out.below
  have e0 := cell_up e0w HV1.out.below
  have e1 := cell_up e1w HV1.out.below
  have e2 := cell_up e2w HV1.out.below
  have e3 := cell_up e3w HV1.out.below
  have e4 := cell_up e4w HV1.out.below
  have e5 := cell_up e5w HV1.out.below
  have c6 := cell_up c6w HV1.out.below
  have c7 := cell_up c7w HV1.out.below
  have e6 := cell_up e6w HV1.out.below
  have e7 := cell_up e7w HV1.out.below
  have hs1 : w1.heap.size = w.heap.size + 1 := by rw [hw1]; simp
  rw [← hw1]
  clear hw1 HBX
  go_quiet (fail)
  all_goals (obtain ⟨r0, r1⟩ := box2 HV1.out.i0)
  all_goals (have q0 := boxs_frozen HV1.out.i0 0)
  all_goals (have q1 := boxs_frozen HV1.out.i0 1)
  all_goals (have hbw := HV1.out.below)
  all_goals go_wp2
  all_goals refine bodyPost_ret (v := .tuple #[.agg #[.int .i64 0, .int .u64 0], .int .i64 3]) (by simp [results, Tryz.results55, go_sem, r0, r1, q0, q1]) rfl ?_
  all_goals exact ⟨rfl, (by repeat' (first | (with_reducible exact Below.refl _ _) | (with_reducible assumption) | (with_reducible refine below_over ?_ _ _) | (with_reducible refine Lw.below_alloc ?_ _) | (with_reducible refine Below.drew ?_) | (with_reducible refine below_drewN ?_ _) | (with_reducible refine Below.setCell ?_ ?_ _) | go_size))⟩
set_option maxRecDepth 100000 in
set_option maxHeartbeats 8000000 in
theorem rinner_lin (p : Addr) (F : Nat → Prop) (c : Cfg) (l : Int) (L : List (List Int)) (q : Addr) (G : Nat → Prop) (M : List (List Int)) (w : World) (h : DS w p F c l L) (g : DS w q G c l M) (hL : L.length = rws c) (hM : M.length = rws c) (hmd : c.md = 1) :
    Calls Tryz.prog 55 #[.pointer (some p), .pointer (some q)] w fun e w' => e = .returned (.tuple #[.agg #[.int .i64 (Wid.fh (inVal c c l l L M)), .int .u64 (Wid.fl (inVal c c l l L M))], .int .i64 (inCode c c l l L M)]) ∧ Below w.heap.size w w' := by
  have hr := h.1
  have hrw := rws_bd hr
  have hwd := wds_bd hr
  obtain ⟨b, gb, gh, cap, rfl, c0w, c1w, c2w, c3w, c4w, c5w, c6w, c7w, hcap, RL⟩ := h.row
  obtain ⟨b2, gb2, gh2, cap2, rfl, e0w, e1w, e2w, e3w, e4w, e5w, e6w, e7w, hcap2, RM⟩ := g.row
  have IY : Hid (oks L M = true → inCode c c l l L M = 0 ∧ inVal c c l l L M = lmin (dots L M)) := Lib.hid (fun ho => in_yes hmd ho)
  have IO : Hid (oks L M = false → inCode c c l l L M = 4 ∧ inVal c c l l L M = 0) := Lib.hid (fun ho => in_over hmd ho)
  have HLL := Lib.hid (And.intro hL hM)
  have HRL := Lib.hid RL
  have HRM := Lib.hid RM
  obtain ⟨m, hmm⟩ : ∃ m, rws c = m := ⟨_, rfl⟩
  obtain ⟨n, hnn⟩ : ∃ n, wds c = n := ⟨_, rfl⟩
  rw [hmm] at hrw HLL c7w e7w
  rw [hnn] at hwd HRL HRM
  have hm8 : 1 ≤ m ∧ m ≤ 8 := ⟨hrw.1, hrw.2.1⟩
  have hn8 : 1 ≤ n ∧ n ≤ 128 := ⟨hwd.1, hwd.2.1⟩
  obtain ⟨RV, hRV⟩ : ∃ v, inVal c c l l L M = v := ⟨_, rfl⟩
  obtain ⟨RC, hRC⟩ : ∃ v, inCode c c l l L M = v := ⟨_, rfl⟩
  rw [hRV, hRC] at IY IO ⊢
  have hmf : (c.md != 1) = false := by simp [hmd]
  have C6 := Lib.hid c6w
  have C7 := Lib.hid c7w
  have E6 := Lib.hid e6w
  have E7 := Lib.hid e7w
  clear hRV hRC hmm hnn hr h g hmd hrw hwd RL RM hL hM hcap hcap2
  have HBX : Hid (Have w (w.alloc (.cells #[.int .i64 0, .int .u64 0] 49)) [boxT w.heap.size 49 #[.int .i64 0, .int .u64 0]]) := Lib.hid (box_new w _ _)
  go_enter Tryz.func55, Tryz.ntmps55
  go_upto_region 1 with fail
  obtain ⟨w1, hw1⟩ : ∃ w1, w1 = w.alloc (.cells #[.int .i64 0, .int .u64 0] 49) := ⟨_, rfl⟩
  have HV1 : Hid (Have w w1 [boxT w.heap.size 49 #[.int .i64 0, .int .u64 0]]) := Lib.hid (by rw [hw1]; exact HBX.out)
  have c0 := cell_up c0w HV1.out.below
  have c1 := cell_up c1w HV1.out.below
  have c2 := cell_up c2w HV1.out.below
  have c3 := cell_up c3w HV1.out.below
  have c4 := cell_up c4w HV1.out.below
  have c5 := cell_up c5w HV1.out.below
  have e0 := cell_up e0w HV1.out.below
  have e1 := cell_up e1w HV1.out.below
  have e2 := cell_up e2w HV1.out.below
  have e3 := cell_up e3w HV1.out.below
  have e4 := cell_up e4w HV1.out.below
  have e5 := cell_up e5w HV1.out.below
  have c6 := cell_up c6w HV1.out.below
  have c7 := cell_up c7w HV1.out.below
  have e6 := cell_up e6w HV1.out.below
  have e7 := cell_up e7w HV1.out.below
  have hs1 : w1.heap.size = w.heap.size + 1 := by rw [hw1]; simp
  rw [← hw1]
  clear hw1 HBX
  go_quiet (fail)
  go_wp2
  have HV2 : Hid (Have w (w1.alloc (.cells #[.int .i64 0, .int .u64 0] 49)) [boxT (w.heap.size + 1) 49 #[.int .i64 0, .int .u64 0], boxT w.heap.size 49 #[.int .i64 0, .int .u64 0]]) := Lib.hid (by
    have h2 := HV1.out.push (boxT w1.heap.size 49 #[.int .i64 0, .int .u64 0]) (Lw.below_alloc (Below.refl _ _) _) (heap_alloc_new w1 _) (fun k hk => Nat.le_of_eq hk.symm)
    rw [hs1] at h2
    exact h2)
  clear c0 c1 c2 c3 c4 c5 e0 e1 e2 e3 e4 e5 c6 c7 e6 e7
  go_loopw [7] (fun iv wr => ∃ (k : Nat), k ≤ m ∧ iv = .int .i64 k ∧ (∀ j xs ys, j < k → L[j]? = some xs → M[j]? = some ys → dok xs ys = true) ∧ Have w wr [boxT (w.heap.size + 1) 49 #[.int .i64 (Wid.fh (lmin ((dots L M).take k))), .int .u64 (Wid.fl (lmin ((dots L M).take k)))], boxT w.heap.size 49 #[.int .i64 0, .int .u64 0]]) (fun iv _ => m - (intOf iv).toNat)
  case atStart => exact ⟨0, Nat.zero_le _, rfl, fun j xs ys hj => by omega, by rw [lmin_take0, (show Wid.fh 0 = 0 by decide), (show Wid.fl 0 = 0 by decide)]; exact HV2.out.up (by repeat' (first | (with_reducible exact Below.refl _ _) | (with_reducible assumption) | (with_reducible refine below_over ?_ _ _) | (with_reducible refine Lw.below_alloc ?_ _) | (with_reducible refine Below.drew ?_) | (with_reducible refine below_drewN ?_ _) | (with_reducible refine Below.setCell ?_ ?_ _) | go_size))⟩
  case round =>
    obtain ⟨k, hk, rfl, hok, hv⟩ := hrel
    have HV := Lib.hid hv
    have HOK := Lib.hid hok
    have HB := Lib.hid hv.below
    clear hv hok
    obtain ⟨l0, l1⟩ := box2 HV.out.i0
    obtain ⟨r0, r1⟩ := box2 HV.out.i1
    have q0 := boxs_frozen HV.out.i1 0
    have q1 := boxs_frozen HV.out.i1 1
    have c6 := cell_up C6.out HB.out
    have c7 := cell_up C7.out HB.out
    have hgl := box_lt HV.out.i0
    have hsz := box_lt HV.out.i1
    have lz1 := lt_sz hgl
    have lz2 := lt_sz hsz
    by_cases hlt : k < m
    · have hkm : (k : Int) < m := by omega
      obtain ⟨xs, hxs⟩ : ∃ xs, L[k]? = some xs := ⟨_, List.getElem?_eq_getElem (by rw [HLL.out.1]; exact hlt)⟩
      obtain ⟨ys, hys⟩ : ∃ ys, M[k]? = some ys := ⟨_, List.getElem?_eq_getElem (by rw [HLL.out.2]; exact hlt)⟩
      obtain ⟨rb, rc, x0w, xr, x2, x3⟩ := HRL.out k xs hxs
      obtain ⟨rb2, rc2, y0w, yr, y2, y3⟩ := HRM.out k ys hys
      have CD : Hid (∀ w', Below wr.heap.size wr w' → Calls Tryz.prog 56 #[.slice (some ⟨rb, 0, none⟩) n rc, .slice (some ⟨rb2, 0, none⟩) n rc2] w' fun e w2 => e = .returned (.tuple #[.agg #[.int .i64 (dhi xs ys), .int .u64 (dlo xs ys)], .bool (dok xs ys)]) ∧ Below w'.heap.size w' w2) := Lib.hid (fun w' hb => rdot_any _ _ n n rc rc2 xs ys w' ((xr.up HB.out).up hb) ((yr.up HB.out).up hb) x2 y2 (by omega) x3 y3)
      have x0 := cell_up x0w HB.out
      have y0 := cell_up y0w HB.out
      have e6 := cell_up E6.out HB.out
      have e7 := cell_up E7.out HB.out
      have HD : Hid (dok xs ys = true → dhi xs ys = Wid.fh (dsum xs ys) ∧ dlo xs ys = Wid.fl (dsum xs ys) ∧ Wid.fit (dsum xs ys) = true) := Lib.hid (fun ho => by
        refine ⟨if_pos ho, if_pos ho, ?_⟩
        have hd := dok_fit ho
        have h3 := hd.2 xs.length (Nat.le_refl _)
        rwa [dp_all (Nat.le_refl _) (by rw [← hd.1]; exact Nat.le_refl _)] at h3)
      have HO : Hid (dok xs ys = false → oks L M = false) := Lib.hid (fun ho => oks_no hxs hys ho)
      have HZ : Hid ((dots L M)[k]? = some (dsum xs ys)) := Lib.hid (dots_get hxs hys)
      have HX := Lib.hid (And.intro hxs hys)
      obtain ⟨ph, hph⟩ : ∃ v, dhi xs ys = v := ⟨_, rfl⟩
      obtain ⟨pl, hpl⟩ : ∃ v, dlo xs ys = v := ⟨_, rfl⟩
      obtain ⟨bb, hbb⟩ : ∃ v, dok xs ys = v := ⟨_, rfl⟩
      obtain ⟨z, hz⟩ : ∃ v, dsum xs ys = v := ⟨_, rfl⟩
      rw [hph, hpl, hbb] at CD
      rw [hph, hpl, hbb, hz] at HD
      rw [hbb] at HO
      rw [hz] at HZ
      have HBB := Lib.hid hbb
      obtain ⟨v, hv⟩ : ∃ v, lmin ((dots L M).take k) = v := ⟨_, rfl⟩
      have HVV := Lib.hid hv
      rw [hv] at l0 l1
      clear hph hpl hbb hz hxs hys x0w y0w xr yr x2 x3 y2 y3 hv
      go_upto_region 9 with fail
      go_cut [8, 9] (fun s8 s9 wx => ∃ gp : Nat, s8 = .pointer (some ⟨gp, 0, none⟩) ∧ s9 = .bool bb ∧ wr.heap.size ≤ gp ∧ Below wr.heap.size wr wx ∧ wx.heap[gp]? = some (.cells #[.int .i64 ph, .int .u64 pl] 49 (0, 0)))
      case first =>
        go_region_held3 (fun w' => w'.cell? ⟨b, 6, none⟩ = some (.pointer (some ⟨gb, 0, none⟩)) ∧ w'.cell? ⟨gb, 0, none⟩ = some (.slice (some gh) m cap) ∧ w'.cell? (gh.add k) = some (.slice (some ⟨rb, 0, none⟩) n rc) ∧ w'.cell? ⟨b2, 6, none⟩ = some (.pointer (some ⟨gb2, 0, none⟩)) ∧ w'.cell? ⟨gb2, 0, none⟩ = some (.slice (some gh2) m cap2) ∧ w'.cell? (gh2.add k) = some (.slice (some ⟨rb2, 0, none⟩) n rc2)) (first | (refine ⟨?_, ?_, ?_, ?_, ?_, ?_⟩ <;> (first | (with_reducible assumption) | (with_reducible refine cell_up c6 ?_) | (with_reducible refine cell_up c7 ?_) | (with_reducible refine cell_up x0 ?_) | (with_reducible refine cell_up e6 ?_) | (with_reducible refine cell_up e7 ?_) | (with_reducible refine cell_up y0 ?_)) <;> repeat' (first | (with_reducible exact Below.refl _ _) | (with_reducible assumption) | (with_reducible refine below_over ?_ _ _) | (with_reducible refine Lw.below_alloc ?_ _) | (with_reducible refine Below.drew ?_) | (with_reducible refine below_drewN ?_ _) | (with_reducible refine Below.setCell ?_ ?_ _) | go_size))) (first
          | (go_at_call 56; (with_reducible refine (CD.out _ (by repeat' (first | (with_reducible exact Below.refl _ _) | (with_reducible assumption) | (with_reducible refine below_over ?_ _ _) | (with_reducible refine Lw.below_alloc ?_ _) | (with_reducible refine Below.drew ?_) | (with_reducible refine below_drewN ?_ _) | (with_reducible refine Below.setCell ?_ ?_ _) | go_size))).mono ?_); rintro e w' ⟨rfl, hb⟩; obtain ⟨bs3, d3, rfl⟩ := below_grow hb; clear hb))
        all_goals go_wp2_with fail
        all_goals go_meet
        all_goals refine ⟨_, rfl, rfl, by omega, (by repeat' (first | (with_reducible exact Below.refl _ _) | (with_reducible assumption) | (with_reducible refine below_over ?_ _ _) | (with_reducible refine Lw.below_alloc ?_ _) | (with_reducible refine Below.drew ?_) | (with_reducible refine below_drewN ?_ _) | (with_reducible refine Below.setCell ?_ ?_ _) | go_size)), ?_⟩
        all_goals first | exact alloc_at (by simp) | exact grow_heap (alloc_at (by simp)) _ _
      case rest =>
        obtain ⟨gp, rfl, rfl, hgp, hbx, hpb⟩ := hcut
        have HVc := Lib.hid (HV.out.up hbx)
        have hpb2 : (boxT gp 49 #[.int .i64 ph, .int .u64 pl]).I wc := hpb
        obtain ⟨t0, t1⟩ := box2 hpb2
        have hgp2 := box_lt hpb2
        clear l0 l1 r0 r1 q0 q1 hgl hsz lz1 lz2 CD hpb hpb2 HV c6 c7 e6 e7 x0 y0
        have hgl := box_lt HVc.out.i0
        have hsz := box_lt HVc.out.i1
        obtain ⟨l0, l1⟩ := box2 HVc.out.i0
        rw [HVV.out] at l0 l1
        have f0 := boxs_frozen HVc.out.i0 0
        have f1 := boxs_frozen HVc.out.i0 1
        obtain ⟨r0, r1⟩ := box2 HVc.out.i1
        have q0 := boxs_frozen HVc.out.i1 0
        have q1 := boxs_frozen HVc.out.i1 1
        have hbc := HVc.out.below
        clear hbx
        cases bb with
        | false =>
          have HN2 := Lib.hid (IO.out (HO.out rfl))
          go_wp2
          refine bodyPost_ret (v := .tuple #[.agg #[.int .i64 0, .int .u64 0], .int .i64 4]) (by simp [results, Tryz.results55, go_sem, r0, r1, q0, q1]) rfl ?_
          exact ⟨by rw [HN2.out.1, HN2.out.2]; rfl, (by repeat' (first | (with_reducible exact Below.refl _ _) | (with_reducible assumption) | (with_reducible refine below_over ?_ _ _) | (with_reducible refine Lw.below_alloc ?_ _) | (with_reducible refine Below.drew ?_) | (with_reducible refine below_drewN ?_ _) | (with_reducible refine Below.setCell ?_ ?_ _) | go_size))⟩
        | true =>
          obtain ⟨rfl, rfl, hfz⟩ := HD.out rfl
          have hzb := fit_bd hfz
          have hvz := Wid.vl_fit z hzb.1 hzb.2
          have hfv : Wid.fit v = true := by
            rw [← HVV.out]
            by_cases hk0 : k = 0
            · rw [hk0, lmin_take0]; decide
            · exact lmin_fit (by omega) (by rw [HLL.out.1]; omega) (by rw [HLL.out.2]; omega) HOK.out
          have hvb := fit_bd hfv
          have hvv := Wid.vl_fit v hvb.1 hvb.2
          have CO1 := Lib.hid (fun w => Wid.rof_any (Wid.fh z) (Wid.fl z) w (Wid.fh_bd z).1 (Wid.fh_bd z).2 (Wid.fl_bd z).1 (Wid.fl_bd z).2)
          have CO2 := Lib.hid (fun w => Wid.rof_any (Wid.fh v) (Wid.fl v) w (Wid.fh_bd v).1 (Wid.fh_bd v).2 (Wid.fl_bd v).1 (Wid.fl_bd v).2)
          have CMN := Lib.hid (fun w => Wid.rminus_any v _ _ _ _ _ _ _ _ _ _ w rfl)
          have CPL := Lib.hid (fun w => Wid.rplus_any z (-v) _ _ _ _ _ _ _ _ _ _ _ _ _ _ _ _ _ _ _ _ w rfl rfl)
          have CBW := Lib.hid (fun w => Wid.rbelow_any (Wid.dg (z + -v) 0) (Wid.dg (z + -v) 1) (Wid.dg (z + -v) 2) (Wid.dg (z + -v) 3) (Wid.dg (z + -v) 4) (Wid.dg (z + -v) 5) (Wid.dg (z + -v) 6) (Wid.dg (z + -v) 7) (Wid.dg (z + -v) 8) (Wid.dg (z + -v) 9) w)
          rw [hvz] at CO1
          rw [hvv] at CO2
          rw [Wid.below_dg (z + -v) (by omega) (by omega)] at CBW
          obtain ⟨zv, hzv⟩ : ∃ zv, decide (z + -v < 0) = zv := ⟨_, rfl⟩
          rw [hzv] at CBW
          have HNX : Hid (((k : Int) == 0) = true ∨ zv = true → lmin ((dots L M).take (k + 1)) = z) := Lib.hid (fun ho => by
            by_cases hk0 : k = 0
            · rw [hk0]
              have h9 := HZ.out
              rw [hk0] at h9
              exact lmin_one h9
            · have hnx := lmin_next HZ.out (by omega)
              rw [HVV.out] at hnx
              rw [hnx]
              have h2 : z + -v < 0 := by
                rcases ho with ho | ho
                · simp at ho; omega
                · rw [ho] at hzv; exact of_decide_eq_true hzv
              omega)
          have HNO : Hid (((k : Int) == 0) = false → zv = false → lmin ((dots L M).take (k + 1)) = v) := Lib.hid (fun h1 h2 => by
            have hnx := lmin_next HZ.out (by simp at h1; omega)
            rw [HVV.out] at hnx
            rw [hnx]
            rw [h2] at hzv
            have := of_decide_eq_false hzv
            omega)
          have hrelk : ∀ j xs2 ys2, j < k + 1 → L[j]? = some xs2 → M[j]? = some ys2 → dok xs2 ys2 = true := fun j xs2 ys2 hj h1 h2 => by
            by_cases hjk : j < k
            · exact HOK.out j xs2 ys2 hjk h1 h2
            · obtain rfl : j = k := by omega
              rw [HX.out.1] at h1
              rw [HX.out.2] at h2
              injection h1 with h1
              injection h2 with h2
              subst h1 h2
              exact HBB.out
          have HRK := Lib.hid hrelk
          clear hvz hzb hfz hvb hvv hfv hzv hrelk
          obtain ⟨K0, hK0⟩ : ∃ K0, ((k : Int) == 0) = K0 := ⟨_, rfl⟩
          rw [hK0] at HNX HNO
          go_upto_region 12 with fail
          go_region_held3 (fun w' => w'.cell? ⟨gp, 0, none⟩ = some (.int .i64 (Wid.fh z)) ∧ w'.cell? ⟨gp, 1, none⟩ = some (.int .u64 (Wid.fl z)) ∧ w'.cell? ⟨w.heap.size + 1, 0, none⟩ = some (.int .i64 (Wid.fh v)) ∧ w'.cell? ⟨w.heap.size + 1, 1, none⟩ = some (.int .u64 (Wid.fl v))) (first | (refine ⟨?_, ?_, ?_, ?_⟩ <;> (first | (with_reducible assumption) | (with_reducible refine cell_up t0 ?_) | (with_reducible refine cell_up t1 ?_) | (with_reducible refine cell_up l0 ?_) | (with_reducible refine cell_up l1 ?_)) <;> repeat' (first | (with_reducible exact Below.refl _ _) | (with_reducible assumption) | (with_reducible refine below_over ?_ _ _) | (with_reducible refine Lw.below_alloc ?_ _) | (with_reducible refine Below.drew ?_) | (with_reducible refine below_drewN ?_ _) | (with_reducible refine Below.setCell ?_ ?_ _) | go_size))) (first
            | (go_at_call 89; (with_reducible refine (CO1.out _).mono ?_); rintro e w' ⟨rfl, hb⟩; obtain ⟨bs4, d4, rfl⟩ := below_grow hb; clear hb)
            | (go_at_call 89; (with_reducible refine (CO2.out _).mono ?_); rintro e w' ⟨rfl, hb⟩; obtain ⟨bs5, d5, rfl⟩ := below_grow hb; clear hb)
            | (go_at_call 71; (with_reducible refine (CMN.out _).mono ?_); rintro e w' ⟨rfl, hb⟩; obtain ⟨bs6, d6, rfl⟩ := below_grow hb; clear hb)
            | (go_at_call 73; (with_reducible refine (CPL.out _).mono ?_); rintro e w' ⟨rfl, hb⟩; obtain ⟨bs7, d7, rfl⟩ := below_grow hb; clear hb)
            | (go_at_call 88; (with_reducible refine (CBW.out _).mono ?_); rintro e w' ⟨rfl, hb⟩; obtain ⟨bs8, d8, rfl⟩ := below_grow hb; clear hb))
          all_goals cases K0 <;> cases zv
          all_goals go_wp2
          all_goals go_roundw
          all_goals first
            | (refine ⟨k + 1, by omega, by go_num, HRK.out, ?_⟩; first
                | (first | rw [HNX.out (.inl rfl)] | rw [HNX.out (.inr rfl)]
                   exact ((HVc.out.up (by repeat' (first | (with_reducible exact Below.refl _ _) | (with_reducible assumption) | (with_reducible refine below_over ?_ _ _) | (with_reducible refine Lw.below_alloc ?_ _) | (with_reducible refine Below.drew ?_) | (with_reducible refine below_drewN ?_ _) | (with_reducible refine Below.setCell ?_ ?_ _) | go_size))).turn_0 (boxT (w.heap.size + 1) 49 #[.int .i64 (Wid.fh (z)), .int .u64 (Wid.fl (z))]) (store2 (HVc.out.up (by repeat' (first | (with_reducible exact Below.refl _ _) | (with_reducible assumption) | (with_reducible refine below_over ?_ _ _) | (with_reducible refine Lw.below_alloc ?_ _) | (with_reducible refine Below.drew ?_) | (with_reducible refine below_drewN ?_ _) | (with_reducible refine Below.setCell ?_ ?_ _) | go_size))).i0 _ _) (kept2 _ _ _ _) (fun k hk => .inl hk)).up (by repeat' (first | (with_reducible exact Below.refl _ _) | (with_reducible assumption) | (with_reducible refine below_over ?_ _ _) | (with_reducible refine Lw.below_alloc ?_ _) | (with_reducible refine Below.drew ?_) | (with_reducible refine below_drewN ?_ _) | (with_reducible refine Below.setCell ?_ ?_ _) | go_size)))
                | (rw [HNO.out rfl rfl]; rw [HVV.out] at HVc; exact HVc.out.up (by repeat' (first | (with_reducible exact Below.refl _ _) | (with_reducible assumption) | (with_reducible refine below_over ?_ _ _) | (with_reducible refine Lw.below_alloc ?_ _) | (with_reducible refine Below.drew ?_) | (with_reducible refine below_drewN ?_ _) | (with_reducible refine Below.setCell ?_ ?_ _) | go_size))))
            | (simp [intOf]; omega)
    · have e : k = m := by omega
      subst e
      have hok : oks L M = true := oks_yes (by rw [HLL.out.1, HLL.out.2]) (fun j xs ys h1 h2 => HOK.out j xs ys (by have := (List.getElem?_eq_some_iff.1 h1).1; rw [HLL.out.1] at this; exact this) h1 h2)
      have HN2 := Lib.hid (IY.out hok)
      have hfull : (dots L M).take k = dots L M := List.take_of_length_le (by unfold dots; rw [List.length_zipWith, HLL.out.1]; omega)
      rw [hfull, ← HN2.out.2] at l0 l1
      obtain ⟨a0, ha0⟩ : ∃ v, Wid.fh RV = v := ⟨_, rfl⟩
      obtain ⟨a1, ha1⟩ : ∃ v, Wid.fl RV = v := ⟨_, rfl⟩
      rw [ha0] at l0
      rw [ha1] at l1
      have HA := Lib.hid (And.intro ha0 ha1)
      clear hok hfull ha0 ha1
      go_wp2
      refine bodyPost_ret (v := .tuple #[.agg #[.int .i64 a0, .int .u64 a1], .int .i64 0]) (by simp [results, Tryz.results55, go_sem, r0, r1, q0, q1]) rfl ?_
      have hbc := HB.out
      exact ⟨by rw [HN2.out.1, HA.out.1, HA.out.2], (by repeat' (first | (with_reducible exact Below.refl _ _) | (with_reducible assumption) | (with_reducible refine below_over ?_ _ _) | (with_reducible refine Lw.below_alloc ?_ _) | (with_reducible refine Below.drew ?_) | (with_reducible refine below_drewN ?_ _) | (with_reducible refine Below.setCell ?_ ?_ _) | go_size))⟩
end Go.Proofs.YtkannodfamnmcaaGreat.Inn
/- The document's level as a thing: a block of two pointers, of which one leads to an array or a sketch. Printed by wip/gen/levref.py. -/
namespace Go.Proofs.YtkannodfamnmcaaGreat.Lev
open Go Go.RowKit Lw Grd Lin Con Shp Sk Exa
set_option linter.unusedVariables false
set_option linter.unusedSimpArgs false
/-- A level of the document at p: its two pointers, and the thing that one of them leads to. -/
def DL (v0 v1 : Value) (t : Thing) (w : World) (p : Addr) (F : Nat → Prop) : Prop := ∃ b : Nat, p = ⟨b, 0, none⟩ ∧ w.heap[b]? = some (.cells #[v0, v1] 85 (0, 0)) ∧ t.I w ∧ ¬ t.F b ∧ F = (fun k => k = b ∨ t.F k)
theorem DL.keep {v0 v1 : Value} {t : Thing} {w w' : World} {p : Addr} {F H : Nat → Prop} (h : DL v0 v1 t w p F) (hk : Kept H w w') (hf : ∀ k, F k → ¬ H k) : DL v0 v1 t w' p F := by
  obtain ⟨b, rfl, hb, ht, hn, rfl⟩ := h
  exact ⟨b, rfl, hk.heap hb (hf b (.inl rfl)), t.keep w w' H ht hk (fun k h => hf k (.inr h)), hn, rfl⟩
theorem DL.up {v0 v1 : Value} {t : Thing} {w w' : World} {p : Addr} {F : Nat → Prop} (h : DL v0 v1 t w p F) (hk : Below w.heap.size w w') : DL v0 v1 t w' p F := h.keep (Kept.of_below (F := fun _ => False) hk) (fun _ _ h => h)
theorem DL.lt {v0 v1 : Value} {t : Thing} {w : World} {p : Addr} {F : Nat → Prop} (h : DL v0 v1 t w p F) (k : Nat) (hk : F k) : k < w.heap.size := by
  obtain ⟨b, rfl, hb, ht, hn, rfl⟩ := h
  rcases hk with rfl | hk
  · exact size_of_heap hb
  · exact t.lt w ht k hk
/-- The thing behind is turned. -/
theorem dl_turn {v0 v1 : Value} {t t' : Thing} {w w' : World} {b : Nat} (hb : w.heap[b]? = some (.cells #[v0, v1] 85 (0, 0))) (hn : ¬ t.F b) (ht : t'.I w') (hk : Kept t.F w w') (hF : ∀ k, t'.F k → t.F k ∨ w.heap.size ≤ k) :
    ∃ F', DL v0 v1 t' w' ⟨b, 0, none⟩ F' ∧ Kept (fun k => k = b ∨ t.F k) w w' ∧ (∀ q, F' q → (q = b ∨ t.F q) ∨ w.heap.size ≤ q) := by
  have hbl := size_of_heap hb
  refine ⟨_, ⟨b, rfl, hk.heap hb hn, ht, fun h => ?_, rfl⟩, hk.mono (fun k _ h => .inr h), fun q hq => ?_⟩
  · rcases hF b h with h1 | h1
    · exact hn h1
    · omega
  · rcases hq with rfl | h1
    · exact .inl (.inl rfl)
    · rcases hF q h1 with h2 | h2
      · exact .inl (.inr h2)
      · exact .inr h2
/-- A new one: the thing behind has been made since w. -/
theorem dl_new {v0 v1 : Value} {t : Thing} {w w2 : World} (hB : Below w.heap.size w w2) (ht : t.I w2) (hf : ∀ k, t.F k → w.heap.size ≤ k) :
    ∃ F', DL v0 v1 t (w2.alloc (.cells #[v0, v1] 85)) ⟨w2.heap.size, 0, none⟩ F' ∧ (∀ k, F' k → w.heap.size ≤ k) ∧ Below w.heap.size w (w2.alloc (.cells #[v0, v1] 85)) := by
  have hs := hB.size
  refine ⟨_, ⟨w2.heap.size, rfl, heap_alloc_new w2 _, t.keep w2 _ (fun _ => False) ht (Kept.of_below (Lw.below_alloc (Below.refl _ _) _)) (fun _ _ h => h), fun h => by have := t.lt w2 ht _ h; omega, rfl⟩, fun k hk => ?_, hB.alloc hs _⟩
  rcases hk with rfl | hk
  · exact hs
  · exact hf k hk
/-- An array of the document, as a level. -/
def DLA (w : World) (p : Addr) (F : Nat → Prop) (c : Cfg) (l : Int) (L : List Int) : Prop := ∃ (a : Addr) (G : Nat → Prop), DL (.pointer (some a)) (.pointer none) (daT a G c l L) w p F
/-- A sketch of the document, as a level. -/
def DLS (w : World) (p : Addr) (F : Nat → Prop) (c : Cfg) (l : Int) (L : List (List Int)) : Prop := ∃ (a : Addr) (G : Nat → Prop), DL (.pointer none) (.pointer (some a)) (dsT a G c l L) w p F
theorem DLA.up {w w' : World} {p : Addr} {F : Nat → Prop} {c : Cfg} {l : Int} {L : List Int} (h : DLA w p F c l L) (hk : Below w.heap.size w w') : DLA w' p F c l L := by
  obtain ⟨a, G, h⟩ := h
  exact ⟨a, G, h.up hk⟩
def dlAT (p : Addr) (F : Nat → Prop) (c : Cfg) (l : Int) (L : List Int) : Thing where
  I := fun w => DLA w p F c l L
  F := F
  keep := fun w w' H h hk hf => by
    obtain ⟨a, G, h⟩ := h
    exact ⟨a, G, h.keep hk hf⟩
  lt := fun w h k hk => by
    obtain ⟨a, G, h⟩ := h
    exact h.lt k hk
theorem dlAI {w : World} {p : Addr} {F : Nat → Prop} {c : Cfg} {l : Int} {L : List Int} (h : (dlAT p F c l L).I w) : DLA w p F c l L := h
theorem DLS.up {w w' : World} {p : Addr} {F : Nat → Prop} {c : Cfg} {l : Int} {L : List (List Int)} (h : DLS w p F c l L) (hk : Below w.heap.size w w') : DLS w' p F c l L := by
  obtain ⟨a, G, h⟩ := h
  exact ⟨a, G, h.up hk⟩
def dlST (p : Addr) (F : Nat → Prop) (c : Cfg) (l : Int) (L : List (List Int)) : Thing where
  I := fun w => DLS w p F c l L
  F := F
  keep := fun w w' H h hk hf => by
    obtain ⟨a, G, h⟩ := h
    exact ⟨a, G, h.keep hk hf⟩
  lt := fun w h k hk => by
    obtain ⟨a, G, h⟩ := h
    exact h.lt k hk
theorem dlSI {w : World} {p : Addr} {F : Nat → Prop} {c : Cfg} {l : Int} {L : List (List Int)} (h : (dlST p F c l L).I w) : DLS w p F c l L := h
end Go.Proofs.YtkannodfamnmcaaGreat.Lev
/- The walks of gaugerref13 (the document's level): New, Copy, Update, Point, Cells, Join. Printed by wip/gen/levref.py. -/
namespace Go.Proofs.YtkannodfamnmcaaGreat.Lev
open Go Go.RowKit Lw Grd Lin Con Shp Sk Exa
set_option linter.unusedVariables false
set_option linter.unusedSimpArgs false
theorem tup (t : Thing) {w w' : World} (h : t.I w) (hb : Below w.heap.size w w') : t.I w' := t.keep w w' (fun _ => False) h (Kept.of_below hb) (fun _ _ h => h)
set_option maxRecDepth 100000 in
set_option maxHeartbeats 4000000 in
theorem lnew_A (c : Cfg) (l : Int) (w : World) (h : c.Ok) (hr : IsRight c) (l0 : 0 ≤ l) (l1 : l ≤ c.bt) (hx : exactB c l = true) :
    Calls Tryz.prog 10 #[.agg #[.int .i64 c.bt, .int .i64 c.rw, .int .i64 c.wd, .int .i64 c.md, .int .u64 c.sd], .int .i64 l] w fun e w' => ∃ (p : Addr) (F : Nat → Prop), e = .returned (.pointer (some p)) ∧ DLA w' p F c l (List.replicate (keys c l).toNat 0) ∧ (∀ k, F k → w.heap.size ≤ k) ∧ Below w.heap.size w w' := by
  have hbt := hr.2.1
  have CX := Lib.hid (fun w => rexact_any c l w h (by omega) (by omega))
  rw [hx] at CX
  have CK := Lib.hid (fun w => rkeys_any c l w h (by omega) (by omega))
  have hk := of_decide_eq_true hx
  have hw := hr.2.2.2.2.2.1
  obtain ⟨n, hn⟩ : ∃ n : Nat, keys c l = (n : Int) := ⟨(keys c l).toNat, by omega⟩
  rw [hn] at CK hk
  rw [hn, Int.toNat_natCast]
  have DN := Lib.hid (fun w => anew_any c l n w h (by omega))
  clear hk hw hn
  have HBX : Hid (Have w (w.alloc (.cells #[.int .i64 c.bt, .int .i64 c.rw, .int .i64 c.wd, .int .i64 c.md, .int .u64 c.sd] 24)) [boxT w.heap.size 24 #[.int .i64 c.bt, .int .i64 c.rw, .int .i64 c.wd, .int .i64 c.md, .int .u64 c.sd]]) := Lib.hid (box_new w _ _)
  clear hx h hr
  go_enter Tryz.func10, Tryz.ntmps10
  go_upto_region 2 with (go_at_call 32; (with_reducible refine (CX.out _).mono ?_); rintro e w1 ⟨rfl, hb9⟩; have HV1 := Lib.hid (HBX.out.up hb9); obtain ⟨x0, x1, x2, x3, x4⟩ := box5 HV1.out.i0; clear hb9)
  go_region_held3 (fun w' => w'.cell? ⟨w.heap.size, 0, none⟩ = some (.int .i64 c.bt) ∧ w'.cell? ⟨w.heap.size, 1, none⟩ = some (.int .i64 c.rw) ∧ w'.cell? ⟨w.heap.size, 2, none⟩ = some (.int .i64 c.wd) ∧ w'.cell? ⟨w.heap.size, 3, none⟩ = some (.int .i64 c.md) ∧ w'.cell? ⟨w.heap.size, 4, none⟩ = some (.int .u64 c.sd)) (first | (refine ⟨?_, ?_, ?_, ?_, ?_⟩ <;> (first | (with_reducible assumption) | (with_reducible refine cell_up x0 ?_) | (with_reducible refine cell_up x1 ?_) | (with_reducible refine cell_up x2 ?_) | (with_reducible refine cell_up x3 ?_) | (with_reducible refine cell_up x4 ?_)) <;> (repeat' (first | (with_reducible exact Below.refl _ _) | (with_reducible assumption) | (with_reducible refine below_over ?_ _ _) | (with_reducible refine Lw.below_alloc ?_ _) | (with_reducible refine Below.drew ?_) | (with_reducible refine below_drewN ?_ _) | (with_reducible refine Below.setCell ?_ ?_ _) | go_size)))) (first
    | (go_at_call 34; (with_reducible refine (CK.out _).mono ?_); rintro e w' ⟨rfl, hb9⟩; obtain ⟨bs2, d2, rfl⟩ := below_grow hb9; clear hb9)
    | (go_at_call 33; (with_reducible refine (DN.out _).mono ?_); rintro e w2 ⟨a, G, rfl, h1, h2, hb9⟩; have HB2 : Hid (Below w.heap.size w w2) := Lib.hid (below_call (HV1.out.up (by repeat' (first | (with_reducible exact Below.refl _ _) | (with_reducible assumption) | (with_reducible refine below_over ?_ _ _) | (with_reducible refine Lw.below_alloc ?_ _) | (with_reducible refine Below.drew ?_) | (with_reducible refine below_drewN ?_ _) | (with_reducible refine Below.setCell ?_ ?_ _) | go_size))).below hb9 (Nat.le_refl _)); have HT : Hid ((daT a G c l (List.replicate n 0)).I w2) := Lib.hid h1; have HF : Hid (∀ k, G k → w.heap.size ≤ k) := Lib.hid (fun k hk => Nat.le_trans (Below.size (HV1.out.up (by repeat' (first | (with_reducible exact Below.refl _ _) | (with_reducible assumption) | (with_reducible refine below_over ?_ _ _) | (with_reducible refine Lw.below_alloc ?_ _) | (with_reducible refine Below.drew ?_) | (with_reducible refine below_drewN ?_ _) | (with_reducible refine Below.setCell ?_ ?_ _) | go_size))).below) (h2 k hk)); have hbw := HB2.out; have hV2 := (HV1.out.up (by repeat' (first | (with_reducible exact Below.refl _ _) | (with_reducible assumption) | (with_reducible refine below_over ?_ _ _) | (with_reducible refine Lw.below_alloc ?_ _) | (with_reducible refine Below.drew ?_) | (with_reducible refine below_drewN ?_ _) | (with_reducible refine Below.setCell ?_ ?_ _) | go_size))).up hb9; clear x0 x1 x2 x3 x4; obtain ⟨x0, x1, x2, x3, x4⟩ := box5 hV2.i0; clear h1 h2 hb9 hV2))
  all_goals go_wp2
  all_goals go_ret
  obtain ⟨F', h1, h2, h3⟩ := dl_new (v0 := .pointer (some a)) (v1 := .pointer none) HB2.out HT.out HF.out
  exact ⟨_, F', rfl, ⟨a, G, h1⟩, h2, h3⟩
set_option maxRecDepth 100000 in
set_option maxHeartbeats 4000000 in
theorem lnew_S (c : Cfg) (l : Int) (w : World) (h : c.Ok) (hr : IsRight c) (l0 : 0 ≤ l) (l1 : l ≤ c.bt) (hx : exactB c l = false) :
    Calls Tryz.prog 10 #[.agg #[.int .i64 c.bt, .int .i64 c.rw, .int .i64 c.wd, .int .i64 c.md, .int .u64 c.sd], .int .i64 l] w fun e w' => ∃ (p : Addr) (F : Nat → Prop), e = .returned (.pointer (some p)) ∧ DLS w' p F c l (zerosL (rws c) (wds c)) ∧ (∀ k, F k → w.heap.size ≤ k) ∧ Below w.heap.size w w' := by
  have hbt := hr.2.1
  have CX := Lib.hid (fun w => rexact_any c l w h (by omega) (by omega))
  rw [hx] at CX
  have DN := Lib.hid (fun w => rsnew_any c l w h hr l0 l1)
  have HBX : Hid (Have w (w.alloc (.cells #[.int .i64 c.bt, .int .i64 c.rw, .int .i64 c.wd, .int .i64 c.md, .int .u64 c.sd] 24)) [boxT w.heap.size 24 #[.int .i64 c.bt, .int .i64 c.rw, .int .i64 c.wd, .int .i64 c.md, .int .u64 c.sd]]) := Lib.hid (box_new w _ _)
  clear hx h hr
  go_enter Tryz.func10, Tryz.ntmps10
  go_wp2_with (first
    | (go_at_call 32; (with_reducible refine (CX.out _).mono ?_); rintro e w1 ⟨rfl, hb9⟩; have HV1 := Lib.hid (HBX.out.up hb9); obtain ⟨x0, x1, x2, x3, x4⟩ := box5 HV1.out.i0; clear hb9)
    | (go_at_call 35; (with_reducible refine (DN.out _).mono ?_); rintro e w2 ⟨a, G, rfl, h1, h2, hb9⟩; have HB2 : Hid (Below w.heap.size w w2) := Lib.hid (below_call HV1.out.below hb9 (Nat.le_refl _)); have HT : Hid ((dsT a G c l (zerosL (rws c) (wds c))).I w2) := Lib.hid h1; have HF : Hid (∀ k, G k → w.heap.size ≤ k) := Lib.hid (fun k hk => Nat.le_trans (Below.size HV1.out.below) (h2 k hk)); clear h1 h2 hb9))
  go_ret
  obtain ⟨F', h1, h2, h3⟩ := dl_new (v0 := .pointer none) (v1 := .pointer (some a)) HB2.out HT.out HF.out
  exact ⟨_, F', rfl, ⟨a, G, h1⟩, h2, h3⟩
set_option maxRecDepth 100000 in
set_option maxHeartbeats 4000000 in
theorem lcopy_A (p : Addr) (F : Nat → Prop) (c : Cfg) (l : Int) (L : List Int) (w : World) (h : DLA w p F c l L) :
    Calls Tryz.prog 12 #[.pointer (some p)] w fun e w' => ∃ (q : Addr) (Q : Nat → Prop), e = .returned (.pointer (some q)) ∧ DLA w' q Q c l L ∧ (∀ k, Q k → w.heap.size ≤ k) ∧ Below w.heap.size w w' := by
  obtain ⟨a, G, b, rfl, hb, ht, hn, rfl⟩ := h
  have c0 := grd_cell hb 0 (v := .pointer (some a)) rfl
  have c1 := grd_cell hb 1 (v := .pointer none) rfl
  have C := Lib.hid (acopy_any a G c l L w (daI ht))
  clear hb ht hn
  go_enter Tryz.func12, Tryz.ntmps12
  go_wp2_with (go_at_call 38; (with_reducible refine (C.out).mono ?_); rintro e w2 ⟨a2, G2, rfl, h1, h2, hb9⟩; have HT : Hid ((daT a2 G2 c l L).I w2) := Lib.hid h1; have HF := Lib.hid h2; have HB2 := Lib.hid hb9; clear h1 h2 hb9)
  go_ret
  obtain ⟨F', h1, h2, h3⟩ := dl_new (v0 := .pointer (some a2)) (v1 := .pointer none) HB2.out HT.out HF.out
  exact ⟨_, F', rfl, ⟨a2, G2, h1⟩, h2, h3⟩
set_option maxRecDepth 100000 in
set_option maxHeartbeats 4000000 in
theorem lcopy_S (p : Addr) (F : Nat → Prop) (c : Cfg) (l : Int) (L : List (List Int)) (w : World) (h : DLS w p F c l L) :
    Calls Tryz.prog 12 #[.pointer (some p)] w fun e w' => ∃ (q : Addr) (Q : Nat → Prop), e = .returned (.pointer (some q)) ∧ DLS w' q Q c l L ∧ (∀ k, Q k → w.heap.size ≤ k) ∧ Below w.heap.size w w' := by
  obtain ⟨a, G, b, rfl, hb, ht, hn, rfl⟩ := h
  have c0 := grd_cell hb 0 (v := .pointer none) rfl
  have c1 := grd_cell hb 1 (v := .pointer (some a)) rfl
  have C := Lib.hid (rscopy_any a G c l L w (dsI ht))
  clear hb ht hn
  go_enter Tryz.func12, Tryz.ntmps12
  go_wp2_with (go_at_call 39; (with_reducible refine (C.out).mono ?_); rintro e w2 ⟨a2, G2, rfl, h1, h2, hb9⟩; have HT : Hid ((dsT a2 G2 c l L).I w2) := Lib.hid h1; have HF := Lib.hid h2; have HB2 := Lib.hid hb9; clear h1 h2 hb9)
  go_ret
  obtain ⟨F', h1, h2, h3⟩ := dl_new (v0 := .pointer none) (v1 := .pointer (some a2)) HB2.out HT.out HF.out
  exact ⟨_, F', rfl, ⟨a2, G2, h1⟩, h2, h3⟩
set_option maxRecDepth 100000 in
set_option maxHeartbeats 4000000 in
theorem lupd_A (p : Addr) (F : Nat → Prop) (c : Cfg) (l : Int) (L : List Int) (k d : Int) (w : World) (h : DLA w p F c l L) (k0 : 0 ≤ k) (k1 : k ≤ 18446744073709551615) (d0 : -9223372036854775808 ≤ d) (d1 : d ≤ 9223372036854775807) :
    Calls Tryz.prog 13 #[.pointer (some p), .int .u64 k, .int .i64 d] w fun e w' => e = .returned (.int .i64 (exCode c.md L k d)) ∧ ∃ F', DLA w' p F' c l (exRes c.md L k d) ∧ Kept F w w' ∧ (∀ q, F' q → F q ∨ w.heap.size ≤ q) := by
  obtain ⟨a, G, b, rfl, hb, ht, hn, rfl⟩ := h
  have c0 := grd_cell hb 0 (v := .pointer (some a)) rfl
  have c1 := grd_cell hb 1 (v := .pointer none) rfl
  have C := Lib.hid (aupd_any a G c l L k d w (daI ht) k0 k1 d0 d1)
  have HT : Hid (∀ w' G', (daT a G' c l (exRes c.md L k d)).I w' → Kept G w w' → (∀ k, G' k → G k ∨ w.heap.size ≤ k) → ∃ F', DLA w' ⟨b, 0, none⟩ F' c l (exRes c.md L k d) ∧ Kept (fun k => k = b ∨ G k) w w' ∧ (∀ q, F' q → (q = b ∨ G q) ∨ w.heap.size ≤ q)) := Lib.hid (fun w' G' h1 h2 h3 => by
    obtain ⟨F', g1, g2, g3⟩ := dl_turn (t := daT a G c l L) (t' := daT a G' c l (exRes c.md L k d)) hb hn h1 h2 h3
    exact ⟨F', ⟨a, G', g1⟩, g2, g3⟩)
  obtain ⟨V, hV⟩ : ∃ V, exCode c.md L k d = V := ⟨_, rfl⟩
  obtain ⟨N, hN⟩ : ∃ N, exRes c.md L k d = N := ⟨_, rfl⟩
  rw [hV, hN] at C
  rw [hN] at HT
  rw [hV, hN]
  clear hb ht hn hV hN
  go_enter Tryz.func13, Tryz.ntmps13
  go_wp2_with (go_at_call 40; (with_reducible refine (C.out).mono ?_); rintro e w2 ⟨rfl, G2, h1, h2, h3⟩; have H1 := Lib.hid h1; have H2 := Lib.hid h2; have H3 := Lib.hid h3; clear h1 h2 h3)
  go_ret
  exact ⟨rfl, HT.out _ _ H1.out H2.out H3.out⟩
set_option maxRecDepth 100000 in
set_option maxHeartbeats 4000000 in
theorem lupd_S (p : Addr) (F : Nat → Prop) (c : Cfg) (l : Int) (L : List (List Int)) (k d : Int) (w : World) (h : DLS w p F c l L) (k0 : 0 ≤ k) (k1 : k ≤ 18446744073709551615) (d0 : -9223372036854775808 ≤ d) (d1 : d ≤ 9223372036854775807) :
    Calls Tryz.prog 13 #[.pointer (some p), .int .u64 k, .int .i64 d] w fun e w' => e = .returned (.int .i64 (upCode c l L k d)) ∧ ∃ F', DLS w' p F' c l (upRes c l L k d) ∧ Kept F w w' ∧ (∀ q, F' q → F q ∨ w.heap.size ≤ q) := by
  obtain ⟨a, G, b, rfl, hb, ht, hn, rfl⟩ := h
  have c0 := grd_cell hb 0 (v := .pointer none) rfl
  have c1 := grd_cell hb 1 (v := .pointer (some a)) rfl
  have C := Lib.hid (rsupd_any a G c l L k d w (dsI ht) k0 k1 d0 d1)
  have HT : Hid (∀ w' G', (dsT a G' c l (upRes c l L k d)).I w' → Kept G w w' → (∀ k, G' k → G k ∨ w.heap.size ≤ k) → ∃ F', DLS w' ⟨b, 0, none⟩ F' c l (upRes c l L k d) ∧ Kept (fun k => k = b ∨ G k) w w' ∧ (∀ q, F' q → (q = b ∨ G q) ∨ w.heap.size ≤ q)) := Lib.hid (fun w' G' h1 h2 h3 => by
    obtain ⟨F', g1, g2, g3⟩ := dl_turn (t := dsT a G c l L) (t' := dsT a G' c l (upRes c l L k d)) hb hn h1 h2 h3
    exact ⟨F', ⟨a, G', g1⟩, g2, g3⟩)
  obtain ⟨V, hV⟩ : ∃ V, upCode c l L k d = V := ⟨_, rfl⟩
  obtain ⟨N, hN⟩ : ∃ N, upRes c l L k d = N := ⟨_, rfl⟩
  rw [hV, hN] at C
  rw [hN] at HT
  rw [hV, hN]
  clear hb ht hn hV hN
  go_enter Tryz.func13, Tryz.ntmps13
  go_wp2_with (go_at_call 41; (with_reducible refine (C.out).mono ?_); rintro e w2 ⟨rfl, G2, h1, h2, h3⟩; have H1 := Lib.hid h1; have H2 := Lib.hid h2; have H3 := Lib.hid h3; clear h1 h2 h3)
  go_ret
  exact ⟨rfl, HT.out _ _ H1.out H2.out H3.out⟩
set_option maxRecDepth 100000 in
set_option maxHeartbeats 4000000 in
theorem lpoint_A (p : Addr) (F : Nat → Prop) (c : Cfg) (l : Int) (L : List Int) (k : Int) (w : World) (h : DLA w p F c l L) (k0 : 0 ≤ k) (k1 : k ≤ 18446744073709551615) :
    Calls Tryz.prog 11 #[.pointer (some p), .int .u64 k] w fun e w' => e = .returned (.tuple #[.int .i64 (Exa.ptV L k), .int .i64 (Exa.ptC L k)]) ∧ Below w.heap.size w w' := by
  obtain ⟨a, G, b, rfl, hb, ht, hn, rfl⟩ := h
  have c0 := grd_cell hb 0 (v := .pointer (some a)) rfl
  have c1 := grd_cell hb 1 (v := .pointer none) rfl
  have C := Lib.hid (Exa.apoint_any a G c l L k w (daI ht) k0 k1)
  clear hb ht hn
  go_enter Tryz.func11, Tryz.ntmps11
  go_wp2_with (go_at_call 36; (with_reducible refine (C.out).mono ?_); rintro e w2 ⟨rfl, hb9⟩; have HB2 := Lib.hid hb9; clear hb9)
  go_ret2
  exact ⟨rfl, HB2.out⟩
set_option maxRecDepth 100000 in
set_option maxHeartbeats 4000000 in
theorem lpoint_S (p : Addr) (F : Nat → Prop) (c : Cfg) (l : Int) (L : List (List Int)) (k : Int) (w : World) (h : DLS w p F c l L) (k0 : 0 ≤ k) (k1 : k ≤ 18446744073709551615) :
    Calls Tryz.prog 11 #[.pointer (some p), .int .u64 k] w fun e w' => e = .returned (.tuple #[.int .i64 (ptVal c l L k), .int .i64 (ptCode c l k)]) ∧ Below w.heap.size w w' := by
  obtain ⟨a, G, b, rfl, hb, ht, hn, rfl⟩ := h
  have c0 := grd_cell hb 0 (v := .pointer none) rfl
  have c1 := grd_cell hb 1 (v := .pointer (some a)) rfl
  have C := Lib.hid (rspoint_any a G c l L k w (dsI ht) k0 k1)
  clear hb ht hn
  go_enter Tryz.func11, Tryz.ntmps11
  go_wp2_with (go_at_call 37; (with_reducible refine (C.out).mono ?_); rintro e w2 ⟨rfl, hb9⟩; have HB2 := Lib.hid hb9; clear hb9)
  go_ret2
  exact ⟨rfl, HB2.out⟩
set_option maxRecDepth 100000 in
set_option maxHeartbeats 4000000 in
theorem lcells_A (p : Addr) (F : Nat → Prop) (c : Cfg) (l : Int) (L : List Int) (w : World) (h : DLA w p F c l L) :
    Calls Tryz.prog 19 #[.pointer (some p)] w fun e w' => ∃ (g cap : Nat), e = .returned (.slice (some ⟨g, 0, none⟩) L.length cap) ∧ Ord.Mid w' g 0 L ∧ w.heap.size ≤ g ∧ L.length ≤ cap ∧ cap ≤ maxLen ∧ Below w.heap.size w w' := by
  obtain ⟨i0, hi, hz0, hz1, hz2⟩ := info_parts Exa.i64_info
  obtain ⟨a, G, b, rfl, hb, ht, hn, rfl⟩ := h
  have c0 := grd_cell hb 0 (v := .pointer (some a)) rfl
  have c1 := grd_cell hb 1 (v := .pointer none) rfl
  obtain ⟨h1, h2, h3, ba, g, cap, rfl, hba, hm, h4, h5, h6, rfl⟩ := daI ht
  have e6 := grd_cell hba 6 (v := .slice (some ⟨g, 0, none⟩) L.length cap) rfl
  have hbl := size_of_heap hba
  have hbl2 := size_of_heap hb
  have HM := Lib.hid hm
  unfold maxLen at h5
  clear hb ht hn hba hm h1 h3
  go_enter Tryz.func19, Tryz.ntmps19
  go_wp2_with (at_builtin; go_must (refine app_any .i64 rfl _ _ 45 rfl w.heap.size 2 i0 8 Exa.i64s_u hi hz0 hz1 hz2 (.slice (some ⟨w.heap.size, 0, none⟩) 0 0) 0 [] rfl (own_empty w _ _ _ (Nat.le_refl _)) (fun h => by cases h) (some ⟨g, 0, none⟩) L.length cap L rfl (fun h => by cases h) rfl (HM.out.rd.up (by repeat' (first | (with_reducible exact Below.refl _ _) | (with_reducible assumption) | (with_reducible refine below_over ?_ _ _) | (with_reducible refine Lw.below_alloc ?_ _) | (with_reducible refine Below.drew ?_) | (with_reducible refine below_drewN ?_ _) | (with_reducible refine Below.setCell ?_ ?_ _) | go_size))) (by unfold maxLen; omega) (by omega) (by simp) ?_); intro A2 cap2 w6 hown2 hgrow2 rd2 hc2 hc3; have hb6 := app_below hgrow2 (Nat.le_refl _); rw [List.nil_append] at hown2; (try simp only [Nat.zero_add] at hown2 hc2); (try simp only [Nat.zero_add]); obtain ⟨g2, hA9, hg2, hm2⟩ := Ord.mid_own hown2; subst hA9; have HM2 := Lib.hid hm2; have H2 := Lib.hid (And.intro hc2 (And.intro hc3 hg2)); have HB6 := Lib.hid hb6; clear hown2 hgrow2 rd2 hc2 hc3 hb6 hg2 hm2)
  go_ret
  exact ⟨g2, cap2, rfl, HM2.out, H2.out.2.2, H2.out.1, H2.out.2.1, HB6.out⟩
set_option maxRecDepth 100000 in
set_option maxHeartbeats 4000000 in
theorem lcells_S (p : Addr) (F : Nat → Prop) (c : Cfg) (l : Int) (L : List (List Int)) (w : World) (h : DLS w p F c l L) :
    Calls Tryz.prog 19 #[.pointer (some p)] w fun e w' => ∃ (A : Addr) (cap : Nat), e = .returned (.slice (some A) (rws c * wds c) cap) ∧ Rd .i64 w' (some A) L.flatten ∧ rws c * wds c ≤ cap ∧ cap ≤ maxLen ∧ w.heap.size ≤ A.block ∧ Below w.heap.size w w' := by
  obtain ⟨a, G, b, rfl, hb, ht, hn, rfl⟩ := h
  have c0 := grd_cell hb 0 (v := .pointer none) rfl
  have c1 := grd_cell hb 1 (v := .pointer (some a)) rfl
  obtain ⟨hr, hok, hl0, hl1, bs, gp, G0, rfl, hbs, hg, hGb, rfl⟩ := dsI ht
  have e6 := grd_cell hbs 6 (v := .pointer (some gp)) rfl
  have C := Lib.hid (dcells_any gp G0 _ _ L w hg)
  clear hb ht hn hbs hg
  go_enter Tryz.func19, Tryz.ntmps19
  go_wp2_with (go_at_call 52; (with_reducible refine (C.out).mono ?_); rintro e w2 ⟨A, cap, rfl, h1, h2, h3, h4, hb9⟩; have H1 := Lib.hid h1; have H2 := Lib.hid (And.intro h2 (And.intro h3 h4)); have HB2 := Lib.hid hb9; clear h1 h2 h3 h4 hb9)
  go_ret
  exact ⟨A, cap, rfl, H1.out, H2.out.1, H2.out.2.1, H2.out.2.2, HB2.out⟩
set_option maxRecDepth 100000 in
set_option maxHeartbeats 4000000 in
theorem ljoin_Ap (p : Addr) (F : Nat → Prop) (c : Cfg) (l : Int) (L : List Int) (q : Addr) (F9 : Nat → Prop) (M : List Int) (w : World) (h : DLA w p F c l L) (h9 : DLA w q F9 c l M) (hlen : L.length = M.length) (hap : ∀ k, F k → ¬ F9 k) :
    Calls Tryz.prog 15 #[.pointer (some p), .pointer (some q), .int .i64 1] w fun e w' => e = .returned (.int .i64 (exJ 1 L M)) ∧ ∃ F', DLA w' p F' c l (exM 1 L M) ∧ Kept F w w' ∧ (∀ q, F' q → F q ∨ w.heap.size ≤ q) := by
  obtain ⟨a, G, b, rfl, hb, ht, hn, rfl⟩ := h
  obtain ⟨a9, G9, b9, rfl, hb9, ht9, hn9, rfl⟩ := h9
  have c0 := grd_cell hb 0 (v := .pointer (some a)) rfl
  have c1 := grd_cell hb 1 (v := .pointer none) rfl
  have e0 := grd_cell hb9 0 (v := .pointer (some a9)) rfl
  have e1 := grd_cell hb9 1 (v := .pointer none) rfl
  have hbl := size_of_heap hb
  have hbl9 := size_of_heap hb9
  have C : Hid (∀ w', Below w.heap.size w w' → Calls Tryz.prog 45 #[.pointer (some a), .pointer (some a9), .int .i64 1] w' fun e w2 => e = .returned (.int .i64 (exJ 1 L M)) ∧ ∃ G', (daT a G' c l (exM 1 L M)).I w2 ∧ Kept G w w2 ∧ (∀ q, G' q → G q ∨ w.heap.size ≤ q)) := Lib.hid (fun w' hbw => (ajoin_plus a a9 G G9 c l L M w' (daI (tup (daT a G c l L) ht hbw)) (daI (tup (daT a9 G9 c l M) ht9 hbw)) hlen).mono (fun e w2 ⟨e1, G', h1, h2, h3⟩ => ⟨e1, G', h1, (Kept.of_below hbw).trans h2 (fun q hq h => h), fun q hq => (h3 q hq).elim .inl (fun h => .inr (Nat.le_trans hbw.size h))⟩))
  have HT : Hid (∀ w' G', (daT a G' c l (exM 1 L M)).I w' → Kept G w w' → (∀ k, G' k → G k ∨ w.heap.size ≤ k) → ∃ F', DLA w' ⟨b, 0, none⟩ F' c l (exM 1 L M) ∧ Kept (fun k => k = b ∨ G k) w w' ∧ (∀ q, F' q → (q = b ∨ G q) ∨ w.heap.size ≤ q)) := Lib.hid (fun w' G' h1 h2 h3 => by
    obtain ⟨F', g1, g2, g3⟩ := dl_turn (t := daT a G c l L) (t' := daT a G' c l (exM 1 L M)) hb hn h1 h2 h3
    exact ⟨F', ⟨a, G', g1⟩, g2, g3⟩)
  have hnG9 : ¬ G b9 := fun hg => hap b9 (.inr hg) (.inl rfl)
  have CW := Lib.hid (And.intro c0 e0)
  have HNB : Hid (¬ G b) := Lib.hid hn
  obtain ⟨V, hV⟩ : ∃ V, exJ 1 L M = V := ⟨_, rfl⟩
  obtain ⟨N, hN⟩ : ∃ N, exM 1 L M = N := ⟨_, rfl⟩
  rw [hV, hN] at C
  rw [hN] at HT
  rw [hV, hN]
  clear hV hN
  clear hb ht hn hb9 ht9 hn9
  go_enter Tryz.func15, Tryz.ntmps15
  go_upto_region 2 with fail
  go_region_held3 (fun w' => w'.cell? ⟨b, 0, none⟩ = some (.pointer (some a)) ∧ w'.cell? ⟨b9, 0, none⟩ = some (.pointer (some a9))) (first | (refine ⟨?_, ?_⟩ <;> (first | (with_reducible assumption) | (with_reducible refine cell_up c0 ?_) | (with_reducible refine cell_up e0 ?_)) <;> (repeat' (first | (with_reducible exact Below.refl _ _) | (with_reducible assumption) | (with_reducible refine below_over ?_ _ _) | (with_reducible refine Lw.below_alloc ?_ _) | (with_reducible refine Below.drew ?_) | (with_reducible refine below_drewN ?_ _) | (with_reducible refine Below.setCell ?_ ?_ _) | go_size)))) (first
    | (go_at_call 45; (with_reducible refine (C.out _ (by repeat' (first | (with_reducible exact Below.refl _ _) | (with_reducible assumption) | (with_reducible refine below_over ?_ _ _) | (with_reducible refine Lw.below_alloc ?_ _) | (with_reducible refine Below.drew ?_) | (with_reducible refine below_drewN ?_ _) | (with_reducible refine Below.setCell ?_ ?_ _) | go_size))).mono ?_); rintro e w6 ⟨rfl, G6, h1, h2, h3⟩; have H1 := Lib.hid h1; have H2 := Lib.hid h2; have H3 := Lib.hid h3; have x0 := h2.cell CW.out.1 HNB.out; have x1 := h2.cell CW.out.2 hnG9; clear h1 h2 h3))
  all_goals go_wp2
  all_goals go_ret
  all_goals exact ⟨rfl, HT.out _ _ H1.out H2.out H3.out⟩
set_option maxRecDepth 100000 in
set_option maxHeartbeats 4000000 in
theorem ljoin_Am (p : Addr) (F : Nat → Prop) (c : Cfg) (l : Int) (L : List Int) (q : Addr) (F9 : Nat → Prop) (M : List Int) (w : World) (h : DLA w p F c l L) (h9 : DLA w q F9 c l M) (hlen : L.length = M.length) (hap : ∀ k, F k → ¬ F9 k) (hm2 : ¬ c.md = 2) :
    Calls Tryz.prog 15 #[.pointer (some p), .pointer (some q), .int .i64 (-1)] w fun e w' => e = .returned (.int .i64 (exJ (-1) L M)) ∧ ∃ F', DLA w' p F' c l (exM (-1) L M) ∧ Kept F w w' ∧ (∀ q, F' q → F q ∨ w.heap.size ≤ q) := by
  obtain ⟨a, G, b, rfl, hb, ht, hn, rfl⟩ := h
  obtain ⟨a9, G9, b9, rfl, hb9, ht9, hn9, rfl⟩ := h9
  have c0 := grd_cell hb 0 (v := .pointer (some a)) rfl
  have c1 := grd_cell hb 1 (v := .pointer none) rfl
  have e0 := grd_cell hb9 0 (v := .pointer (some a9)) rfl
  have e1 := grd_cell hb9 1 (v := .pointer none) rfl
  have hbl := size_of_heap hb
  have hbl9 := size_of_heap hb9
  have C : Hid (∀ w', Below w.heap.size w w' → Calls Tryz.prog 45 #[.pointer (some a), .pointer (some a9), .int .i64 (-1)] w' fun e w2 => e = .returned (.int .i64 (exJ (-1) L M)) ∧ ∃ G', (daT a G' c l (exM (-1) L M)).I w2 ∧ Kept G w w2 ∧ (∀ q, G' q → G q ∨ w.heap.size ≤ q)) := Lib.hid (fun w' hbw => (ajoin_minus a a9 G G9 c l L M w' (daI (tup (daT a G c l L) ht hbw)) (daI (tup (daT a9 G9 c l M) ht9 hbw)) hlen hm2).mono (fun e w2 ⟨e1, G', h1, h2, h3⟩ => ⟨e1, G', h1, (Kept.of_below hbw).trans h2 (fun q hq h => h), fun q hq => (h3 q hq).elim .inl (fun h => .inr (Nat.le_trans hbw.size h))⟩))
  have HT : Hid (∀ w' G', (daT a G' c l (exM (-1) L M)).I w' → Kept G w w' → (∀ k, G' k → G k ∨ w.heap.size ≤ k) → ∃ F', DLA w' ⟨b, 0, none⟩ F' c l (exM (-1) L M) ∧ Kept (fun k => k = b ∨ G k) w w' ∧ (∀ q, F' q → (q = b ∨ G q) ∨ w.heap.size ≤ q)) := Lib.hid (fun w' G' h1 h2 h3 => by
    obtain ⟨F', g1, g2, g3⟩ := dl_turn (t := daT a G c l L) (t' := daT a G' c l (exM (-1) L M)) hb hn h1 h2 h3
    exact ⟨F', ⟨a, G', g1⟩, g2, g3⟩)
  have hnG9 : ¬ G b9 := fun hg => hap b9 (.inr hg) (.inl rfl)
  have CW := Lib.hid (And.intro c0 e0)
  have HNB : Hid (¬ G b) := Lib.hid hn
  obtain ⟨V, hV⟩ : ∃ V, exJ (-1) L M = V := ⟨_, rfl⟩
  obtain ⟨N, hN⟩ : ∃ N, exM (-1) L M = N := ⟨_, rfl⟩
  rw [hV, hN] at C
  rw [hN] at HT
  rw [hV, hN]
  clear hV hN
  clear hb ht hn hb9 ht9 hn9 hm2
  go_enter Tryz.func15, Tryz.ntmps15
  go_upto_region 2 with fail
  go_region_held3 (fun w' => w'.cell? ⟨b, 0, none⟩ = some (.pointer (some a)) ∧ w'.cell? ⟨b9, 0, none⟩ = some (.pointer (some a9))) (first | (refine ⟨?_, ?_⟩ <;> (first | (with_reducible assumption) | (with_reducible refine cell_up c0 ?_) | (with_reducible refine cell_up e0 ?_)) <;> (repeat' (first | (with_reducible exact Below.refl _ _) | (with_reducible assumption) | (with_reducible refine below_over ?_ _ _) | (with_reducible refine Lw.below_alloc ?_ _) | (with_reducible refine Below.drew ?_) | (with_reducible refine below_drewN ?_ _) | (with_reducible refine Below.setCell ?_ ?_ _) | go_size)))) (first
    | (go_at_call 45; (with_reducible refine (C.out _ (by repeat' (first | (with_reducible exact Below.refl _ _) | (with_reducible assumption) | (with_reducible refine below_over ?_ _ _) | (with_reducible refine Lw.below_alloc ?_ _) | (with_reducible refine Below.drew ?_) | (with_reducible refine below_drewN ?_ _) | (with_reducible refine Below.setCell ?_ ?_ _) | go_size))).mono ?_); rintro e w6 ⟨rfl, G6, h1, h2, h3⟩; have H1 := Lib.hid h1; have H2 := Lib.hid h2; have H3 := Lib.hid h3; have x0 := h2.cell CW.out.1 HNB.out; have x1 := h2.cell CW.out.2 hnG9; clear h1 h2 h3))
  all_goals go_wp2
  all_goals go_ret
  all_goals exact ⟨rfl, HT.out _ _ H1.out H2.out H3.out⟩
set_option maxRecDepth 100000 in
set_option maxHeartbeats 4000000 in
theorem ljoin_Acon (p : Addr) (F : Nat → Prop) (c : Cfg) (l : Int) (L : List Int) (q : Addr) (F9 : Nat → Prop) (M : List Int) (w : World) (h : DLA w p F c l L) (h9 : DLA w q F9 c l M) (hm2 : c.md = 2) :
    Calls Tryz.prog 15 #[.pointer (some p), .pointer (some q), .int .i64 (-1)] w fun e w' => e = .returned (.int .i64 3) ∧ Below w.heap.size w w' := by
  obtain ⟨a, G, b, rfl, hb, ht, hn, rfl⟩ := h
  obtain ⟨a9, G9, b9, rfl, hb9, ht9, hn9, rfl⟩ := h9
  have c0 := grd_cell hb 0 (v := .pointer (some a)) rfl
  have c1 := grd_cell hb 1 (v := .pointer none) rfl
  have e0 := grd_cell hb9 0 (v := .pointer (some a9)) rfl
  have e1 := grd_cell hb9 1 (v := .pointer none) rfl
  have hbl := size_of_heap hb
  have hbl9 := size_of_heap hb9
  have C : Hid (∀ w', Below w.heap.size w w' → Calls Tryz.prog 45 #[.pointer (some a), .pointer (some a9), .int .i64 (-1)] w' fun e w2 => e = .returned (.int .i64 3) ∧ Below w'.heap.size w' w2) := Lib.hid (fun w' hbw => ajoin_con a a9 G G9 c l L M w' (daI (tup (daT a G c l L) ht hbw)) (daI (tup (daT a9 G9 c l M) ht9 hbw)) hm2)
  clear hb ht hn hb9 ht9 hn9 hm2
  go_enter Tryz.func15, Tryz.ntmps15
  go_upto_region 2 with fail
  go_region_held3 (fun w' => w'.cell? ⟨b, 0, none⟩ = some (.pointer (some a)) ∧ w'.cell? ⟨b9, 0, none⟩ = some (.pointer (some a9))) (first | (refine ⟨?_, ?_⟩ <;> (first | (with_reducible assumption) | (with_reducible refine cell_up c0 ?_) | (with_reducible refine cell_up e0 ?_)) <;> (repeat' (first | (with_reducible exact Below.refl _ _) | (with_reducible assumption) | (with_reducible refine below_over ?_ _ _) | (with_reducible refine Lw.below_alloc ?_ _) | (with_reducible refine Below.drew ?_) | (with_reducible refine below_drewN ?_ _) | (with_reducible refine Below.setCell ?_ ?_ _) | go_size)))) (first
    | (go_at_call 45; (with_reducible refine (C.out _ (by repeat' (first | (with_reducible exact Below.refl _ _) | (with_reducible assumption) | (with_reducible refine below_over ?_ _ _) | (with_reducible refine Lw.below_alloc ?_ _) | (with_reducible refine Below.drew ?_) | (with_reducible refine below_drewN ?_ _) | (with_reducible refine Below.setCell ?_ ?_ _) | go_size))).mono ?_); rintro e w6 ⟨rfl, hq⟩; have HB6 := Lib.hid (below_call (show Below w.heap.size w _ from (by repeat' (first | (with_reducible exact Below.refl _ _) | (with_reducible assumption) | (with_reducible refine below_over ?_ _ _) | (with_reducible refine Lw.below_alloc ?_ _) | (with_reducible refine Below.drew ?_) | (with_reducible refine below_drewN ?_ _) | (with_reducible refine Below.setCell ?_ ?_ _) | go_size))) hq (Nat.le_refl _)); have x0 := cell_up c0 HB6.out; have x1 := cell_up e0 HB6.out; clear hq))
  all_goals go_wp2
  all_goals go_ret
  all_goals exact ⟨rfl, HB6.out⟩
set_option maxRecDepth 100000 in
set_option maxHeartbeats 4000000 in
theorem ljoin_Sp (p : Addr) (F : Nat → Prop) (c : Cfg) (l : Int) (L : List (List Int)) (q : Addr) (F9 : Nat → Prop) (M : List (List Int)) (w : World) (h : DLS w p F c l L) (h9 : DLS w q F9 c l M) (hap : ∀ k, F k → ¬ F9 k) :
    Calls Tryz.prog 15 #[.pointer (some p), .pointer (some q), .int .i64 1] w fun e w' => e = .returned (.int .i64 (jcode 1 (rws c) (wds c) (rws c) (wds c) L M)) ∧ ∃ F', DLS w' p F' c l (jres 1 (rws c) (wds c) (rws c) (wds c) L M) ∧ Kept F w w' ∧ (∀ q, F' q → F q ∨ w.heap.size ≤ q) := by
  obtain ⟨a, G, b, rfl, hb, ht, hn, rfl⟩ := h
  obtain ⟨a9, G9, b9, rfl, hb9, ht9, hn9, rfl⟩ := h9
  have c0 := grd_cell hb 0 (v := .pointer none) rfl
  have c1 := grd_cell hb 1 (v := .pointer (some a)) rfl
  have e0 := grd_cell hb9 0 (v := .pointer none) rfl
  have e1 := grd_cell hb9 1 (v := .pointer (some a9)) rfl
  have hbl := size_of_heap hb
  have hbl9 := size_of_heap hb9
  have hsep : ∀ k, G k → ¬ G9 k := fun k h1 h2 => hap k (.inr h1) (.inr h2)
  have C : Hid (∀ w', Below w.heap.size w w' → Calls Tryz.prog 46 #[.pointer (some a), .pointer (some a9), .int .i64 1] w' fun e w2 => e = .returned (.int .i64 (jcode 1 (rws c) (wds c) (rws c) (wds c) L M)) ∧ ∃ G', (dsT a G' c l (jres 1 (rws c) (wds c) (rws c) (wds c) L M)).I w2 ∧ Kept G w w2 ∧ (∀ q, G' q → G q ∨ w.heap.size ≤ q)) := Lib.hid (fun w' hbw => (rsjoin_p a G c l L a9 G9 M w' (dsI (tup (dsT a G c l L) ht hbw)) (dsI (tup (dsT a9 G9 c l M) ht9 hbw)) hsep).mono (fun e w2 ⟨e1, G', h1, h2, h3⟩ => ⟨e1, G', h1, (Kept.of_below hbw).trans h2 (fun q hq h => h), fun q hq => (h3 q hq).elim .inl (fun h => .inr (Nat.le_trans hbw.size h))⟩))
  have HT : Hid (∀ w' G', (dsT a G' c l (jres 1 (rws c) (wds c) (rws c) (wds c) L M)).I w' → Kept G w w' → (∀ k, G' k → G k ∨ w.heap.size ≤ k) → ∃ F', DLS w' ⟨b, 0, none⟩ F' c l (jres 1 (rws c) (wds c) (rws c) (wds c) L M) ∧ Kept (fun k => k = b ∨ G k) w w' ∧ (∀ q, F' q → (q = b ∨ G q) ∨ w.heap.size ≤ q)) := Lib.hid (fun w' G' h1 h2 h3 => by
    obtain ⟨F', g1, g2, g3⟩ := dl_turn (t := dsT a G c l L) (t' := dsT a G' c l (jres 1 (rws c) (wds c) (rws c) (wds c) L M)) hb hn h1 h2 h3
    exact ⟨F', ⟨a, G', g1⟩, g2, g3⟩)
  have hnG9 : ¬ G b9 := fun hg => hap b9 (.inr hg) (.inl rfl)
  have CW := Lib.hid (And.intro c1 e1)
  have HNB : Hid (¬ G b) := Lib.hid hn
  obtain ⟨V, hV⟩ : ∃ V, jcode 1 (rws c) (wds c) (rws c) (wds c) L M = V := ⟨_, rfl⟩
  obtain ⟨N, hN⟩ : ∃ N, jres 1 (rws c) (wds c) (rws c) (wds c) L M = N := ⟨_, rfl⟩
  rw [hV, hN] at C
  rw [hN] at HT
  rw [hV, hN]
  clear hV hN
  clear hb ht hn hb9 ht9 hn9
  go_enter Tryz.func15, Tryz.ntmps15
  go_upto_region 4 with fail
  go_region_held3 (fun w' => w'.cell? ⟨b, 1, none⟩ = some (.pointer (some a)) ∧ w'.cell? ⟨b9, 1, none⟩ = some (.pointer (some a9))) (first | (refine ⟨?_, ?_⟩ <;> (first | (with_reducible assumption) | (with_reducible refine cell_up c1 ?_) | (with_reducible refine cell_up e1 ?_)) <;> (repeat' (first | (with_reducible exact Below.refl _ _) | (with_reducible assumption) | (with_reducible refine below_over ?_ _ _) | (with_reducible refine Lw.below_alloc ?_ _) | (with_reducible refine Below.drew ?_) | (with_reducible refine below_drewN ?_ _) | (with_reducible refine Below.setCell ?_ ?_ _) | go_size)))) (first
    | (go_at_call 46; (with_reducible refine (C.out _ (by repeat' (first | (with_reducible exact Below.refl _ _) | (with_reducible assumption) | (with_reducible refine below_over ?_ _ _) | (with_reducible refine Lw.below_alloc ?_ _) | (with_reducible refine Below.drew ?_) | (with_reducible refine below_drewN ?_ _) | (with_reducible refine Below.setCell ?_ ?_ _) | go_size))).mono ?_); rintro e w6 ⟨rfl, G6, h1, h2, h3⟩; have H1 := Lib.hid h1; have H2 := Lib.hid h2; have H3 := Lib.hid h3; have x0 := h2.cell CW.out.1 HNB.out; have x1 := h2.cell CW.out.2 hnG9; clear h1 h2 h3))
  all_goals go_wp2
  all_goals go_ret
  all_goals exact ⟨rfl, HT.out _ _ H1.out H2.out H3.out⟩
set_option maxRecDepth 100000 in
set_option maxHeartbeats 4000000 in
theorem ljoin_Sm (p : Addr) (F : Nat → Prop) (c : Cfg) (l : Int) (L : List (List Int)) (q : Addr) (F9 : Nat → Prop) (M : List (List Int)) (w : World) (h : DLS w p F c l L) (h9 : DLS w q F9 c l M) (hap : ∀ k, F k → ¬ F9 k) (hm2 : ¬ c.md = 2) :
    Calls Tryz.prog 15 #[.pointer (some p), .pointer (some q), .int .i64 (-1)] w fun e w' => e = .returned (.int .i64 (jcode (-1) (rws c) (wds c) (rws c) (wds c) L M)) ∧ ∃ F', DLS w' p F' c l (jres (-1) (rws c) (wds c) (rws c) (wds c) L M) ∧ Kept F w w' ∧ (∀ q, F' q → F q ∨ w.heap.size ≤ q) := by
  obtain ⟨a, G, b, rfl, hb, ht, hn, rfl⟩ := h
  obtain ⟨a9, G9, b9, rfl, hb9, ht9, hn9, rfl⟩ := h9
  have c0 := grd_cell hb 0 (v := .pointer none) rfl
  have c1 := grd_cell hb 1 (v := .pointer (some a)) rfl
  have e0 := grd_cell hb9 0 (v := .pointer none) rfl
  have e1 := grd_cell hb9 1 (v := .pointer (some a9)) rfl
  have hbl := size_of_heap hb
  have hbl9 := size_of_heap hb9
  have hsep : ∀ k, G k → ¬ G9 k := fun k h1 h2 => hap k (.inr h1) (.inr h2)
  have C : Hid (∀ w', Below w.heap.size w w' → Calls Tryz.prog 46 #[.pointer (some a), .pointer (some a9), .int .i64 (-1)] w' fun e w2 => e = .returned (.int .i64 (jcode (-1) (rws c) (wds c) (rws c) (wds c) L M)) ∧ ∃ G', (dsT a G' c l (jres (-1) (rws c) (wds c) (rws c) (wds c) L M)).I w2 ∧ Kept G w w2 ∧ (∀ q, G' q → G q ∨ w.heap.size ≤ q)) := Lib.hid (fun w' hbw => (rsjoin_m a G c l L a9 G9 M w' (dsI (tup (dsT a G c l L) ht hbw)) (dsI (tup (dsT a9 G9 c l M) ht9 hbw)) hsep hm2).mono (fun e w2 ⟨e1, G', h1, h2, h3⟩ => ⟨e1, G', h1, (Kept.of_below hbw).trans h2 (fun q hq h => h), fun q hq => (h3 q hq).elim .inl (fun h => .inr (Nat.le_trans hbw.size h))⟩))
  have HT : Hid (∀ w' G', (dsT a G' c l (jres (-1) (rws c) (wds c) (rws c) (wds c) L M)).I w' → Kept G w w' → (∀ k, G' k → G k ∨ w.heap.size ≤ k) → ∃ F', DLS w' ⟨b, 0, none⟩ F' c l (jres (-1) (rws c) (wds c) (rws c) (wds c) L M) ∧ Kept (fun k => k = b ∨ G k) w w' ∧ (∀ q, F' q → (q = b ∨ G q) ∨ w.heap.size ≤ q)) := Lib.hid (fun w' G' h1 h2 h3 => by
    obtain ⟨F', g1, g2, g3⟩ := dl_turn (t := dsT a G c l L) (t' := dsT a G' c l (jres (-1) (rws c) (wds c) (rws c) (wds c) L M)) hb hn h1 h2 h3
    exact ⟨F', ⟨a, G', g1⟩, g2, g3⟩)
  have hnG9 : ¬ G b9 := fun hg => hap b9 (.inr hg) (.inl rfl)
  have CW := Lib.hid (And.intro c1 e1)
  have HNB : Hid (¬ G b) := Lib.hid hn
  obtain ⟨V, hV⟩ : ∃ V, jcode (-1) (rws c) (wds c) (rws c) (wds c) L M = V := ⟨_, rfl⟩
  obtain ⟨N, hN⟩ : ∃ N, jres (-1) (rws c) (wds c) (rws c) (wds c) L M = N := ⟨_, rfl⟩
  rw [hV, hN] at C
  rw [hN] at HT
  rw [hV, hN]
  clear hV hN
  clear hb ht hn hb9 ht9 hn9 hm2
  go_enter Tryz.func15, Tryz.ntmps15
  go_upto_region 4 with fail
  go_region_held3 (fun w' => w'.cell? ⟨b, 1, none⟩ = some (.pointer (some a)) ∧ w'.cell? ⟨b9, 1, none⟩ = some (.pointer (some a9))) (first | (refine ⟨?_, ?_⟩ <;> (first | (with_reducible assumption) | (with_reducible refine cell_up c1 ?_) | (with_reducible refine cell_up e1 ?_)) <;> (repeat' (first | (with_reducible exact Below.refl _ _) | (with_reducible assumption) | (with_reducible refine below_over ?_ _ _) | (with_reducible refine Lw.below_alloc ?_ _) | (with_reducible refine Below.drew ?_) | (with_reducible refine below_drewN ?_ _) | (with_reducible refine Below.setCell ?_ ?_ _) | go_size)))) (first
    | (go_at_call 46; (with_reducible refine (C.out _ (by repeat' (first | (with_reducible exact Below.refl _ _) | (with_reducible assumption) | (with_reducible refine below_over ?_ _ _) | (with_reducible refine Lw.below_alloc ?_ _) | (with_reducible refine Below.drew ?_) | (with_reducible refine below_drewN ?_ _) | (with_reducible refine Below.setCell ?_ ?_ _) | go_size))).mono ?_); rintro e w6 ⟨rfl, G6, h1, h2, h3⟩; have H1 := Lib.hid h1; have H2 := Lib.hid h2; have H3 := Lib.hid h3; have x0 := h2.cell CW.out.1 HNB.out; have x1 := h2.cell CW.out.2 hnG9; clear h1 h2 h3))
  all_goals go_wp2
  all_goals go_ret
  all_goals exact ⟨rfl, HT.out _ _ H1.out H2.out H3.out⟩
set_option maxRecDepth 100000 in
set_option maxHeartbeats 4000000 in
theorem ljoin_Scon (p : Addr) (F : Nat → Prop) (c : Cfg) (l : Int) (L : List (List Int)) (q : Addr) (F9 : Nat → Prop) (M : List (List Int)) (w : World) (h : DLS w p F c l L) (h9 : DLS w q F9 c l M) (hm2 : c.md = 2) :
    Calls Tryz.prog 15 #[.pointer (some p), .pointer (some q), .int .i64 (-1)] w fun e w' => e = .returned (.int .i64 3) ∧ Below w.heap.size w w' := by
  obtain ⟨a, G, b, rfl, hb, ht, hn, rfl⟩ := h
  obtain ⟨a9, G9, b9, rfl, hb9, ht9, hn9, rfl⟩ := h9
  have c0 := grd_cell hb 0 (v := .pointer none) rfl
  have c1 := grd_cell hb 1 (v := .pointer (some a)) rfl
  have e0 := grd_cell hb9 0 (v := .pointer none) rfl
  have e1 := grd_cell hb9 1 (v := .pointer (some a9)) rfl
  have hbl := size_of_heap hb
  have hbl9 := size_of_heap hb9
  have C : Hid (∀ w', Below w.heap.size w w' → Calls Tryz.prog 46 #[.pointer (some a), .pointer (some a9), .int .i64 (-1)] w' fun e w2 => e = .returned (.int .i64 3) ∧ Below w'.heap.size w' w2) := Lib.hid (fun w' hbw => rsjoin_con a G c l L a9 G9 M w' (dsI (tup (dsT a G c l L) ht hbw)) (dsI (tup (dsT a9 G9 c l M) ht9 hbw)) hm2)
  clear hb ht hn hb9 ht9 hn9 hm2
  go_enter Tryz.func15, Tryz.ntmps15
  go_upto_region 4 with fail
  go_region_held3 (fun w' => w'.cell? ⟨b, 1, none⟩ = some (.pointer (some a)) ∧ w'.cell? ⟨b9, 1, none⟩ = some (.pointer (some a9))) (first | (refine ⟨?_, ?_⟩ <;> (first | (with_reducible assumption) | (with_reducible refine cell_up c1 ?_) | (with_reducible refine cell_up e1 ?_)) <;> (repeat' (first | (with_reducible exact Below.refl _ _) | (with_reducible assumption) | (with_reducible refine below_over ?_ _ _) | (with_reducible refine Lw.below_alloc ?_ _) | (with_reducible refine Below.drew ?_) | (with_reducible refine below_drewN ?_ _) | (with_reducible refine Below.setCell ?_ ?_ _) | go_size)))) (first
    | (go_at_call 46; (with_reducible refine (C.out _ (by repeat' (first | (with_reducible exact Below.refl _ _) | (with_reducible assumption) | (with_reducible refine below_over ?_ _ _) | (with_reducible refine Lw.below_alloc ?_ _) | (with_reducible refine Below.drew ?_) | (with_reducible refine below_drewN ?_ _) | (with_reducible refine Below.setCell ?_ ?_ _) | go_size))).mono ?_); rintro e w6 ⟨rfl, hq⟩; have HB6 := Lib.hid (below_call (show Below w.heap.size w _ from (by repeat' (first | (with_reducible exact Below.refl _ _) | (with_reducible assumption) | (with_reducible refine below_over ?_ _ _) | (with_reducible refine Lw.below_alloc ?_ _) | (with_reducible refine Below.drew ?_) | (with_reducible refine below_drewN ?_ _) | (with_reducible refine Below.setCell ?_ ?_ _) | go_size))) hq (Nat.le_refl _)); have x0 := cell_up c1 HB6.out; have x1 := cell_up e1 HB6.out; clear hq))
  all_goals go_wp2
  all_goals go_ret
  all_goals exact ⟨rfl, HB6.out⟩
end Go.Proofs.YtkannodfamnmcaaGreat.Lev
/- The walk of gaugerref13's Inner. Printed by wip/gen/levinn.py. -/
namespace Go.Proofs.YtkannodfamnmcaaGreat.Lev
open Go Go.RowKit Lw Grd Lin Con Shp Sk Exa Inn
set_option linter.unusedVariables false
set_option linter.unusedSimpArgs false
set_option maxRecDepth 100000 in
set_option maxHeartbeats 8000000 in
theorem linner_Amode (p : Addr) (F : Nat → Prop) (c : Cfg) (l : Int) (L : List Int) (q : Addr) (F9 : Nat → Prop) (M : List Int) (w : World) (h : DLA w p F c l L) (h9 : DLA w q F9 c l M) (hmd : c.md ≠ 1) :
    Calls Tryz.prog 21 #[.pointer (some p), .pointer (some q)] w fun e w' => e = .returned (.tuple #[.agg #[.int .i64 (0), .int .u64 (0)], .int .i64 (3)]) ∧ Below w.heap.size w w' := by
  obtain ⟨a, G, b, rfl, hb, ht, hn, rfl⟩ := h
  obtain ⟨a9, G9, b9, rfl, hb9, ht9, hn9, rfl⟩ := h9
  have c0 := grd_cell hb 0 (v := .pointer (some a)) rfl
  have c1 := grd_cell hb 1 (v := .pointer none) rfl
  have e0 := grd_cell hb9 0 (v := .pointer (some a9)) rfl
  have e1 := grd_cell hb9 1 (v := .pointer none) rfl
  obtain ⟨-, h2, h3, ba, g, cap, rfl, hba, hm, h4, h5, h6, rfl⟩ := daI ht
  obtain ⟨-, k2, k3, bk, g9, cap9, rfl, hbk, hm9, k4, k5, k6, rfl⟩ := daI ht9
  have f0 := grd_cell hba 0 (v := .int .i64 c.bt) rfl
  have f1 := grd_cell hba 1 (v := .int .i64 c.rw) rfl
  have f2 := grd_cell hba 2 (v := .int .i64 c.wd) rfl
  have f3 := grd_cell hba 3 (v := .int .i64 c.md) rfl
  have f4 := grd_cell hba 4 (v := .int .u64 c.sd) rfl
  have f5 := grd_cell hba 5 (v := .int .i64 l) rfl
  have f6 := grd_cell hba 6 (v := .slice (some ⟨g, 0, none⟩) L.length cap) rfl
  have i0 := grd_cell hbk 0 (v := .int .i64 c.bt) rfl
  have i1 := grd_cell hbk 1 (v := .int .i64 c.rw) rfl
  have i2 := grd_cell hbk 2 (v := .int .i64 c.wd) rfl
  have i3 := grd_cell hbk 3 (v := .int .i64 c.md) rfl
  have i4 := grd_cell hbk 4 (v := .int .u64 c.sd) rfl
  have i5 := grd_cell hbk 5 (v := .int .i64 l) rfl
  have i6 := grd_cell hbk 6 (v := .slice (some ⟨g9, 0, none⟩) M.length cap9) rfl
  have hbl := size_of_heap hb
  have hbl9 := size_of_heap hb9
  have hal := size_of_heap hba
  have hal9 := size_of_heap hbk
  have hmb : (c.md != 1) = true := by simpa using hmd
  clear hb ht hn hb9 ht9 hn9 hba hm hbk hm9 h3 k3 h4 h5 h6 k4 k5 k6 hmd
  go_enter Tryz.func21, Tryz.ntmps21
  go_upto_region 3 with fail
  go_quiet (fail)
  all_goals go_wp2
  all_goals refine bodyPost_ret (v := .tuple #[.agg #[.int .i64 (0), .int .u64 (0)], .int .i64 (3)]) (by simp [results, Tryz.results21, go_sem]) rfl ?_
  all_goals exact ⟨rfl, by repeat' (first | (with_reducible exact Below.refl _ _) | (with_reducible assumption) | (with_reducible refine below_over ?_ _ _) | (with_reducible refine Lw.below_alloc ?_ _) | (with_reducible refine Below.drew ?_) | (with_reducible refine below_drewN ?_ _) | (with_reducible refine Below.setCell ?_ ?_ _) | go_size)⟩
set_option maxRecDepth 100000 in
set_option maxHeartbeats 8000000 in
theorem linner_Aover (p : Addr) (F : Nat → Prop) (c : Cfg) (l : Int) (L : List Int) (q : Addr) (F9 : Nat → Prop) (M : List Int) (w : World) (h : DLA w p F c l L) (h9 : DLA w q F9 c l M) (hmd : c.md = 1) (hok : dok L M = false) :
    Calls Tryz.prog 21 #[.pointer (some p), .pointer (some q)] w fun e w' => e = .returned (.tuple #[.agg #[.int .i64 (0), .int .u64 (0)], .int .i64 (4)]) ∧ Below w.heap.size w w' := by
  obtain ⟨a, G, b, rfl, hb, ht, hn, rfl⟩ := h
  obtain ⟨a9, G9, b9, rfl, hb9, ht9, hn9, rfl⟩ := h9
  have c0 := grd_cell hb 0 (v := .pointer (some a)) rfl
  have c1 := grd_cell hb 1 (v := .pointer none) rfl
  have e0 := grd_cell hb9 0 (v := .pointer (some a9)) rfl
  have e1 := grd_cell hb9 1 (v := .pointer none) rfl
  obtain ⟨-, h2, h3, ba, g, cap, rfl, hba, hm, h4, h5, h6, rfl⟩ := daI ht
  obtain ⟨-, k2, k3, bk, g9, cap9, rfl, hbk, hm9, k4, k5, k6, rfl⟩ := daI ht9
  have f0 := grd_cell hba 0 (v := .int .i64 c.bt) rfl
  have f1 := grd_cell hba 1 (v := .int .i64 c.rw) rfl
  have f2 := grd_cell hba 2 (v := .int .i64 c.wd) rfl
  have f3 := grd_cell hba 3 (v := .int .i64 c.md) rfl
  have f4 := grd_cell hba 4 (v := .int .u64 c.sd) rfl
  have f5 := grd_cell hba 5 (v := .int .i64 l) rfl
  have f6 := grd_cell hba 6 (v := .slice (some ⟨g, 0, none⟩) L.length cap) rfl
  have i0 := grd_cell hbk 0 (v := .int .i64 c.bt) rfl
  have i1 := grd_cell hbk 1 (v := .int .i64 c.rw) rfl
  have i2 := grd_cell hbk 2 (v := .int .i64 c.wd) rfl
  have i3 := grd_cell hbk 3 (v := .int .i64 c.md) rfl
  have i4 := grd_cell hbk 4 (v := .int .u64 c.sd) rfl
  have i5 := grd_cell hbk 5 (v := .int .i64 l) rfl
  have i6 := grd_cell hbk 6 (v := .slice (some ⟨g9, 0, none⟩) M.length cap9) rfl
  have hbl := size_of_heap hb
  have hbl9 := size_of_heap hb9
  have hal := size_of_heap hba
  have hal9 := size_of_heap hbk
  have hmb : (c.md != 1) = false := by simp [hmd]
  have RL := Lib.hid hm.rd
  have RM := Lib.hid hm9.rd
  obtain ⟨H, hH⟩ : ∃ x, dhi L M = x := ⟨_, rfl⟩
  obtain ⟨O, hO⟩ : ∃ x, dlo L M = x := ⟨_, rfl⟩
  have C : Hid (∀ w', Below w.heap.size w w' → Calls Tryz.prog 56 #[.slice (some ⟨g, 0, none⟩) L.length cap, .slice (some ⟨g9, 0, none⟩) M.length cap9] w' fun e w2 => e = .returned (.tuple #[.agg #[.int .i64 H, .int .u64 O], .bool false]) ∧ Below w'.heap.size w' w2) := Lib.hid (fun w' hbw => by
    rw [← hH, ← hO, ← hok]
    exact rdot_any (some ⟨g, 0, none⟩) (some ⟨g9, 0, none⟩) L.length M.length cap cap9 L M w' (RL.out.up hbw) (RM.out.up hbw) rfl rfl (by omega) h3 k3)
  clear hH hO hok
  clear hb ht hn hb9 ht9 hn9 hba hm hbk hm9 h3 k3 h4 h5 h6 k4 k5 k6 hmd
  go_enter Tryz.func21, Tryz.ntmps21
  go_upto_region 3 with fail
  go_quiet (fail)
  all_goals go_upto_region 7 with fail
  all_goals go_region_held3 (fun w' => w'.cell? ⟨b, 0, none⟩ = some (.pointer (some ⟨ba, 0, none⟩)) ∧ w'.cell? ⟨b9, 0, none⟩ = some (.pointer (some ⟨bk, 0, none⟩)) ∧ w'.cell? ⟨ba, 6, none⟩ = some (.slice (some ⟨g, 0, none⟩) L.length cap) ∧ w'.cell? ⟨bk, 6, none⟩ = some (.slice (some ⟨g9, 0, none⟩) M.length cap9)) (first | (refine ⟨?_, ?_, ?_, ?_⟩ <;> (first | (with_reducible assumption) | (with_reducible refine cell_up c0 ?_) | (with_reducible refine cell_up e0 ?_) | (with_reducible refine cell_up f6 ?_) | (with_reducible refine cell_up i6 ?_)) <;> (repeat' (first | (with_reducible exact Below.refl _ _) | (with_reducible assumption) | (with_reducible refine below_over ?_ _ _) | (with_reducible refine Lw.below_alloc ?_ _) | (with_reducible refine Below.drew ?_) | (with_reducible refine below_drewN ?_ _) | (with_reducible refine Below.setCell ?_ ?_ _) | go_size)))) (first
    | (go_at_call 56; (with_reducible refine (C.out _ (by repeat' (first | (with_reducible exact Below.refl _ _) | (with_reducible assumption) | (with_reducible refine below_over ?_ _ _) | (with_reducible refine Lw.below_alloc ?_ _) | (with_reducible refine Below.drew ?_) | (with_reducible refine below_drewN ?_ _) | (with_reducible refine Below.setCell ?_ ?_ _) | go_size))).mono ?_); rintro e w6 ⟨rfl, hq⟩; obtain ⟨bs6, d6, rfl⟩ := below_grow hq; clear hq))
  all_goals go_wp2
  all_goals refine bodyPost_ret (v := .tuple #[.agg #[.int .i64 (0), .int .u64 (0)], .int .i64 (4)]) (by simp [results, Tryz.results21, go_sem]) rfl ?_
  all_goals exact ⟨rfl, by repeat' (first | (with_reducible exact Below.refl _ _) | (with_reducible assumption) | (with_reducible refine below_over ?_ _ _) | (with_reducible refine Lw.below_alloc ?_ _) | (with_reducible refine Below.drew ?_) | (with_reducible refine below_drewN ?_ _) | (with_reducible refine Below.setCell ?_ ?_ _) | go_size)⟩
set_option maxRecDepth 100000 in
set_option maxHeartbeats 8000000 in
theorem linner_Ayes (p : Addr) (F : Nat → Prop) (c : Cfg) (l : Int) (L : List Int) (q : Addr) (F9 : Nat → Prop) (M : List Int) (w : World) (h : DLA w p F c l L) (h9 : DLA w q F9 c l M) (hmd : c.md = 1) (hok : dok L M = true) :
    Calls Tryz.prog 21 #[.pointer (some p), .pointer (some q)] w fun e w' => e = .returned (.tuple #[.agg #[.int .i64 (dhi L M), .int .u64 (dlo L M)], .int .i64 (0)]) ∧ Below w.heap.size w w' := by
  obtain ⟨a, G, b, rfl, hb, ht, hn, rfl⟩ := h
  obtain ⟨a9, G9, b9, rfl, hb9, ht9, hn9, rfl⟩ := h9
  have c0 := grd_cell hb 0 (v := .pointer (some a)) rfl
  have c1 := grd_cell hb 1 (v := .pointer none) rfl
  have e0 := grd_cell hb9 0 (v := .pointer (some a9)) rfl
  have e1 := grd_cell hb9 1 (v := .pointer none) rfl
  obtain ⟨-, h2, h3, ba, g, cap, rfl, hba, hm, h4, h5, h6, rfl⟩ := daI ht
  obtain ⟨-, k2, k3, bk, g9, cap9, rfl, hbk, hm9, k4, k5, k6, rfl⟩ := daI ht9
  have f0 := grd_cell hba 0 (v := .int .i64 c.bt) rfl
  have f1 := grd_cell hba 1 (v := .int .i64 c.rw) rfl
  have f2 := grd_cell hba 2 (v := .int .i64 c.wd) rfl
  have f3 := grd_cell hba 3 (v := .int .i64 c.md) rfl
  have f4 := grd_cell hba 4 (v := .int .u64 c.sd) rfl
  have f5 := grd_cell hba 5 (v := .int .i64 l) rfl
  have f6 := grd_cell hba 6 (v := .slice (some ⟨g, 0, none⟩) L.length cap) rfl
  have i0 := grd_cell hbk 0 (v := .int .i64 c.bt) rfl
  have i1 := grd_cell hbk 1 (v := .int .i64 c.rw) rfl
  have i2 := grd_cell hbk 2 (v := .int .i64 c.wd) rfl
  have i3 := grd_cell hbk 3 (v := .int .i64 c.md) rfl
  have i4 := grd_cell hbk 4 (v := .int .u64 c.sd) rfl
  have i5 := grd_cell hbk 5 (v := .int .i64 l) rfl
  have i6 := grd_cell hbk 6 (v := .slice (some ⟨g9, 0, none⟩) M.length cap9) rfl
  have hbl := size_of_heap hb
  have hbl9 := size_of_heap hb9
  have hal := size_of_heap hba
  have hal9 := size_of_heap hbk
  have hmb : (c.md != 1) = false := by simp [hmd]
  have RL := Lib.hid hm.rd
  have RM := Lib.hid hm9.rd
  obtain ⟨H, hH⟩ : ∃ x, dhi L M = x := ⟨_, rfl⟩
  obtain ⟨O, hO⟩ : ∃ x, dlo L M = x := ⟨_, rfl⟩
  have C : Hid (∀ w', Below w.heap.size w w' → Calls Tryz.prog 56 #[.slice (some ⟨g, 0, none⟩) L.length cap, .slice (some ⟨g9, 0, none⟩) M.length cap9] w' fun e w2 => e = .returned (.tuple #[.agg #[.int .i64 H, .int .u64 O], .bool true]) ∧ Below w'.heap.size w' w2) := Lib.hid (fun w' hbw => by
    rw [← hH, ← hO, ← hok]
    exact rdot_any (some ⟨g, 0, none⟩) (some ⟨g9, 0, none⟩) L.length M.length cap cap9 L M w' (RL.out.up hbw) (RM.out.up hbw) rfl rfl (by omega) h3 k3)
  rw [hH, hO]
  clear hH hO hok
  clear hb ht hn hb9 ht9 hn9 hba hm hbk hm9 h3 k3 h4 h5 h6 k4 k5 k6 hmd
  go_enter Tryz.func21, Tryz.ntmps21
  go_upto_region 3 with fail
  go_quiet (fail)
  all_goals go_upto_region 7 with fail
  all_goals go_region_held3 (fun w' => w'.cell? ⟨b, 0, none⟩ = some (.pointer (some ⟨ba, 0, none⟩)) ∧ w'.cell? ⟨b9, 0, none⟩ = some (.pointer (some ⟨bk, 0, none⟩)) ∧ w'.cell? ⟨ba, 6, none⟩ = some (.slice (some ⟨g, 0, none⟩) L.length cap) ∧ w'.cell? ⟨bk, 6, none⟩ = some (.slice (some ⟨g9, 0, none⟩) M.length cap9)) (first | (refine ⟨?_, ?_, ?_, ?_⟩ <;> (first | (with_reducible assumption) | (with_reducible refine cell_up c0 ?_) | (with_reducible refine cell_up e0 ?_) | (with_reducible refine cell_up f6 ?_) | (with_reducible refine cell_up i6 ?_)) <;> (repeat' (first | (with_reducible exact Below.refl _ _) | (with_reducible assumption) | (with_reducible refine below_over ?_ _ _) | (with_reducible refine Lw.below_alloc ?_ _) | (with_reducible refine Below.drew ?_) | (with_reducible refine below_drewN ?_ _) | (with_reducible refine Below.setCell ?_ ?_ _) | go_size)))) (first
    | (go_at_call 56; (with_reducible refine (C.out _ (by repeat' (first | (with_reducible exact Below.refl _ _) | (with_reducible assumption) | (with_reducible refine below_over ?_ _ _) | (with_reducible refine Lw.below_alloc ?_ _) | (with_reducible refine Below.drew ?_) | (with_reducible refine below_drewN ?_ _) | (with_reducible refine Below.setCell ?_ ?_ _) | go_size))).mono ?_); rintro e w6 ⟨rfl, hq⟩; obtain ⟨bs6, d6, rfl⟩ := below_grow hq; clear hq))
  all_goals go_wp2
  all_goals refine bodyPost_ret (v := .tuple #[.agg #[.int .i64 (H), .int .u64 (O)], .int .i64 (0)]) (by simp [results, Tryz.results21, go_sem]) rfl ?_
  all_goals exact ⟨rfl, by repeat' (first | (with_reducible exact Below.refl _ _) | (with_reducible assumption) | (with_reducible refine below_over ?_ _ _) | (with_reducible refine Lw.below_alloc ?_ _) | (with_reducible refine Below.drew ?_) | (with_reducible refine below_drewN ?_ _) | (with_reducible refine Below.setCell ?_ ?_ _) | go_size)⟩
set_option maxRecDepth 100000 in
set_option maxHeartbeats 8000000 in
theorem linner_Slin (p : Addr) (F : Nat → Prop) (c : Cfg) (l : Int) (L : List (List Int)) (q : Addr) (F9 : Nat → Prop) (M : List (List Int)) (w : World) (h : DLS w p F c l L) (h9 : DLS w q F9 c l M) (hL : L.length = rws c) (hM : M.length = rws c) (hmd : c.md = 1) :
    Calls Tryz.prog 21 #[.pointer (some p), .pointer (some q)] w fun e w' => e = .returned (.tuple #[.agg #[.int .i64 (Wid.fh (inVal c c l l L M)), .int .u64 (Wid.fl (inVal c c l l L M))], .int .i64 (inCode c c l l L M)]) ∧ Below w.heap.size w w' := by
  obtain ⟨a, G, b, rfl, hb, ht, hn, rfl⟩ := h
  obtain ⟨a9, G9, b9, rfl, hb9, ht9, hn9, rfl⟩ := h9
  have c0 := grd_cell hb 0 (v := .pointer none) rfl
  have c1 := grd_cell hb 1 (v := .pointer (some a)) rfl
  have e0 := grd_cell hb9 0 (v := .pointer none) rfl
  have e1 := grd_cell hb9 1 (v := .pointer (some a9)) rfl
  have hbl := size_of_heap hb
  have hbl9 := size_of_heap hb9
  have C : Hid (∀ w', Below w.heap.size w w' → _) := Lib.hid (fun w' hbw => rinner_lin a G c l L a9 G9 M w' (dsI (tup (dsT a G c l L) ht hbw)) (dsI (tup (dsT a9 G9 c l M) ht9 hbw)) hL hM hmd)
  obtain ⟨H, hH⟩ : ∃ x, Wid.fh (inVal c c l l L M) = x := ⟨_, rfl⟩
  obtain ⟨O, hO⟩ : ∃ x, Wid.fl (inVal c c l l L M) = x := ⟨_, rfl⟩
  obtain ⟨E, hE⟩ : ∃ x, inCode c c l l L M = x := ⟨_, rfl⟩
  rw [hH, hO, hE] at C ⊢
  clear hH hO hE hL hM
  clear hb ht hn hb9 ht9 hn9 hmd
  go_enter Tryz.func21, Tryz.ntmps21
  go_upto_region 2 with fail
  go_region_held3 (fun w' => w'.cell? ⟨b, 1, none⟩ = some (.pointer (some a)) ∧ w'.cell? ⟨b9, 1, none⟩ = some (.pointer (some a9))) (first | (refine ⟨?_, ?_⟩ <;> (first | (with_reducible assumption) | (with_reducible refine cell_up c1 ?_) | (with_reducible refine cell_up e1 ?_)) <;> (repeat' (first | (with_reducible exact Below.refl _ _) | (with_reducible assumption) | (with_reducible refine below_over ?_ _ _) | (with_reducible refine Lw.below_alloc ?_ _) | (with_reducible refine Below.drew ?_) | (with_reducible refine below_drewN ?_ _) | (with_reducible refine Below.setCell ?_ ?_ _) | go_size)))) (first
    | (go_at_call 55; (with_reducible refine (C.out _ (by repeat' (first | (with_reducible exact Below.refl _ _) | (with_reducible assumption) | (with_reducible refine below_over ?_ _ _) | (with_reducible refine Lw.below_alloc ?_ _) | (with_reducible refine Below.drew ?_) | (with_reducible refine below_drewN ?_ _) | (with_reducible refine Below.setCell ?_ ?_ _) | go_size))).mono ?_); rintro e w6 ⟨rfl, hq⟩; obtain ⟨bs6, d6, rfl⟩ := below_grow hq; clear hq))
  all_goals go_wp2
  all_goals refine bodyPost_ret (v := .tuple #[.agg #[.int .i64 H, .int .u64 O], .int .i64 E]) (by simp [results, Tryz.results21, go_sem]) rfl ?_
  all_goals exact ⟨rfl, by repeat' (first | (with_reducible exact Below.refl _ _) | (with_reducible assumption) | (with_reducible refine below_over ?_ _ _) | (with_reducible refine Lw.below_alloc ?_ _) | (with_reducible refine Below.drew ?_) | (with_reducible refine below_drewN ?_ _) | (with_reducible refine Below.setCell ?_ ?_ _) | go_size)⟩
set_option maxRecDepth 100000 in
set_option maxHeartbeats 8000000 in
theorem linner_Smode (p : Addr) (F : Nat → Prop) (c : Cfg) (l : Int) (L : List (List Int)) (q : Addr) (F9 : Nat → Prop) (M : List (List Int)) (w : World) (h : DLS w p F c l L) (h9 : DLS w q F9 c l M) (hmd : c.md ≠ 1) :
    Calls Tryz.prog 21 #[.pointer (some p), .pointer (some q)] w fun e w' => e = .returned (.tuple #[.agg #[.int .i64 (0), .int .u64 (0)], .int .i64 (3)]) ∧ Below w.heap.size w w' := by
  obtain ⟨a, G, b, rfl, hb, ht, hn, rfl⟩ := h
  obtain ⟨a9, G9, b9, rfl, hb9, ht9, hn9, rfl⟩ := h9
  have c0 := grd_cell hb 0 (v := .pointer none) rfl
  have c1 := grd_cell hb 1 (v := .pointer (some a)) rfl
  have e0 := grd_cell hb9 0 (v := .pointer none) rfl
  have e1 := grd_cell hb9 1 (v := .pointer (some a9)) rfl
  have hbl := size_of_heap hb
  have hbl9 := size_of_heap hb9
  have C : Hid (∀ w', Below w.heap.size w w' → _) := Lib.hid (fun w' hbw => rinner_mode a G c l L a9 G9 M w' (dsI (tup (dsT a G c l L) ht hbw)) (dsI (tup (dsT a9 G9 c l M) ht9 hbw)) hmd)
  clear hb ht hn hb9 ht9 hn9 hmd
  go_enter Tryz.func21, Tryz.ntmps21
  go_upto_region 2 with fail
  go_region_held3 (fun w' => w'.cell? ⟨b, 1, none⟩ = some (.pointer (some a)) ∧ w'.cell? ⟨b9, 1, none⟩ = some (.pointer (some a9))) (first | (refine ⟨?_, ?_⟩ <;> (first | (with_reducible assumption) | (with_reducible refine cell_up c1 ?_) | (with_reducible refine cell_up e1 ?_)) <;> (repeat' (first | (with_reducible exact Below.refl _ _) | (with_reducible assumption) | (with_reducible refine below_over ?_ _ _) | (with_reducible refine Lw.below_alloc ?_ _) | (with_reducible refine Below.drew ?_) | (with_reducible refine below_drewN ?_ _) | (with_reducible refine Below.setCell ?_ ?_ _) | go_size)))) (first
    | (go_at_call 55; (with_reducible refine (C.out _ (by repeat' (first | (with_reducible exact Below.refl _ _) | (with_reducible assumption) | (with_reducible refine below_over ?_ _ _) | (with_reducible refine Lw.below_alloc ?_ _) | (with_reducible refine Below.drew ?_) | (with_reducible refine below_drewN ?_ _) | (with_reducible refine Below.setCell ?_ ?_ _) | go_size))).mono ?_); rintro e w6 ⟨rfl, hq⟩; obtain ⟨bs6, d6, rfl⟩ := below_grow hq; clear hq))
  all_goals go_wp2
  all_goals refine bodyPost_ret (v := .tuple #[.agg #[.int .i64 (0), .int .u64 (0)], .int .i64 (3)]) (by simp [results, Tryz.results21, go_sem]) rfl ?_
  all_goals exact ⟨rfl, by repeat' (first | (with_reducible exact Below.refl _ _) | (with_reducible assumption) | (with_reducible refine below_over ?_ _ _) | (with_reducible refine Lw.below_alloc ?_ _) | (with_reducible refine Below.drew ?_) | (with_reducible refine below_drewN ?_ _) | (with_reducible refine Below.setCell ?_ ?_ _) | go_size)⟩
end Go.Proofs.YtkannodfamnmcaaGreat.Lev
