/- Texts that the statements of this seat lean on, put together: SkDocC. -/
import Derived.Test.YthecgkgnngpikaaGreatMd
import Derived.Test.YthecgkgnngpikaaGreatMh
import Derived.Deep.LoopGhost
import Derived.Deep.RegionHeld3
import Derived.Deep.DeepCutAuto
import Derived.Deep.QuietTactic
import Derived.BigQuiet
/- The document's sketch: Copy. Printed by wip/gen/skdocc.py. -/
namespace Go.Proofs.YthecgkgnngpikaaGreat.Sk
open Go Go.RowKit Lw Grd Lin Con Shp
set_option linter.unusedVariables false
set_option linter.unusedSimpArgs false
/-- A row of a grid of the document's is put in the place of another one. -/
theorem _root_.Go.Proofs.YthecgkgnngpikaaGreat.Grd.RG.setRow {w : World} {b gh cap : Nat} {R : List Row} (h : RG w b (.slice (some ⟨gh, 0, none⟩) R.length cap) R) {K : Nat} (hK : K < R.length) (g c : Nat) (zs : List Int) (hown : w.ownsRow 0 2 1 (rowHd (g, c, zs)) zs.length (zs.map (Value.int .i64))) (hf : ¬ RF b (.slice (some ⟨gh, 0, none⟩) R.length cap) R g) :
    RG (w.setCell ⟨gh, K, none⟩ (rowHd (g, c, zs))) b (.slice (some ⟨gh, 0, none⟩) (R.set K (g, c, zs)).length cap) (R.set K (g, c, zs)) := by
  have hgh : g ≠ gh := fun e => hf (.inr (.inl (by rw [e]; rfl)))
  have hgb : g ≠ b := fun e => hf (.inl e)
  have hgr : ∀ r ∈ R, r.1 ≠ g := fun r hr e => hf (.inr (.inr ⟨r, hr, e⟩))
  have hk : Kept (fun q => q = gh) w (w.setCell ⟨gh, K, none⟩ (rowHd (g, c, zs))) := Kept.set (F := fun q => q = gh) (Kept.refl _ w) (.inl rfl) K _
  have hbg : b ≠ gh := fun e => h.apart1 (by rw [e]; rfl)
  rw [List.length_set]
  refine ⟨hk.heap h.cell hbg, ?_, ?_, h.apart1, ?_, ?_⟩
  · have hs := (h.outer.stored (g := gh) (cap := cap) K (rowHd (g, c, zs))).1
    rw [List.length_set, List.map_set]
    exact hs
  · intro x hx
    rcases List.mem_or_eq_of_mem_set hx with hx | rfl
    · exact hk.own (h.rows x hx) (fun q hq e => (h.apart2 x hx).2 (by simp [rowHd, Value.ownBlock] at hq ⊢; omega))
    · exact hk.own hown (fun q hq e => hgh (by simp [rowHd, Value.ownBlock] at hq; omega))
  · intro x hx
    rcases List.mem_or_eq_of_mem_set hx with hx | rfl
    · exact h.apart2 x hx
    · exact ⟨hgb, fun e => hgh (by simp [Value.ownBlock] at e; exact e.symm)⟩
  · rw [List.map_set]
    have hnd := h.nd
    refine List.pairwise_iff_getElem.2 fun i j hi hj hij => ?_
    have hi2 : i < (R.map (·.1)).length := by simpa using hi
    have hj2 : j < (R.map (·.1)).length := by simpa using hj
    have hne := List.pairwise_iff_getElem.1 hnd i j hi2 hj2 hij
    rw [List.getElem_set, List.getElem_set]
    by_cases h1 : K = i
    · rw [if_pos h1, if_neg (by omega)]
      intro e
      have hm := List.getElem_mem (l := R) (n := j) (by simpa using hj2)
      exact hgr _ hm (by simpa using e.symm)
    · rw [if_neg h1]
      by_cases h2 : K = j
      · rw [if_pos h2]
        intro e
        have hm := List.getElem_mem (l := R) (n := i) (by simpa using hi2)
        exact hgr _ hm (by simpa using e)
      · rw [if_neg h2]
        exact hne
theorem nums_set (R : List Row) (K : Nat) (x : Row) : nums (R.set K x) = (nums R).set K x.2.2 := by unfold nums; rw [List.map_set]
theorem take_drop_set {L Z : List (List Int)} {r : Nat} {xs : List Int} (h : L[r]? = some xs) (hl : L.length = Z.length) : (L.take r ++ Z.drop r).set r xs = L.take (r + 1) ++ Z.drop (r + 1) := by
  obtain ⟨h1, h2⟩ := List.getElem?_eq_some_iff.1 h
  apply List.ext_getElem?
  intro j
  rw [List.getElem?_set, List.getElem?_append, List.getElem?_append]
  simp only [List.length_append, List.length_take, List.length_drop]
  by_cases hj : r = j
  · subst hj
    rw [if_pos rfl, if_pos (by omega), if_pos (by omega), List.getElem?_take, if_pos (by omega), h]
  · rw [if_neg hj]
    by_cases hj2 : j < r
    · rw [if_pos (by omega), if_pos (by omega), List.getElem?_take, List.getElem?_take, if_pos hj2, if_pos (by omega)]
    · rw [if_neg (by omega), if_neg (by omega), List.getElem?_drop, List.getElem?_drop]
      congr 1
      omega
theorem own_zero {w : World} {B : Nat} {e : TypeId} {v : Value} {n : Nat} {xs : List Value} (h : w.ownsRow B e 1 v n xs) : w.ownsRow 0 e 1 v n xs := by
  refine ⟨h.1, ?_⟩
  rcases h.2 with h1 | ⟨g, cap, cur, h1, h2, h3⟩
  · exact .inl h1
  · exact .inr ⟨g, cap, cur, h1, Nat.zero_le _, h3⟩
theorem frozen_below {w w' : World} {g j : Nat} (h : Below w.heap.size w w') (hg : g < w.heap.size) : w'.frozen? ⟨g, j, none⟩ = w.frozen? ⟨g, j, none⟩ := by
  unfold World.frozen?
  rw [h.block g hg]
set_option maxRecDepth 100000 in
set_option maxHeartbeats 8000000 in
theorem rscopy_any (p : Addr) (F : Nat → Prop) (c : Cfg) (l : Int) (L : List (List Int)) (w : World) (h : DS w p F c l L) :
    Calls Tryz.prog 11 #[.pointer (some p)] w fun e w' => ∃ (q : Addr) (Q : Nat → Prop), e = .returned (.pointer (some q)) ∧ DS w' q Q c l L ∧ (∀ k, Q k → w.heap.size ≤ k) ∧ Below w.heap.size w w' := by
  obtain ⟨i0, hi, hz0, hz1, hz2⟩ := info_parts i64_info
  obtain ⟨hr, hok, hl0, hl1, b, gp, G, rfl, hb, hg, hGb, rfl⟩ := h
  have hbl := size_of_heap hb
  have c0 := grd_cell hb 0 (v := .int .i64 c.bt) rfl
  have c1 := grd_cell hb 1 (v := .int .i64 c.rw) rfl
  have c2 := grd_cell hb 2 (v := .int .i64 c.wd) rfl
  have c3 := grd_cell hb 3 (v := .int .i64 c.md) rfl
  have c4 := grd_cell hb 4 (v := .int .u64 c.sd) rfl
  have c5 := grd_cell hb 5 (v := .int .i64 l) rfl
  have c6 := grd_cell hb 6 (v := .pointer (some gp)) rfl
  have CN := Lib.hid (fun w => rsnew_any c l w hok hr hl0 hl1)
  have HR := Lib.hid (And.intro hr (And.intro hok (And.intro hl0 hl1)))
  have hd := hg.dims
  obtain ⟨gb, hdr, R, rfl, hrg, hnum, hGF, -⟩ := hg
  obtain ⟨A, cap, rfl, hcap, hA, hrow⟩ := hrg.hd
  have hlen : R.length = rws c := by have := hd.len; rw [← hnum, nums_len] at this; exact this
  have hpos := rws_bd hr
  have hwb := wds_bd hr
  cases A with
  | none => have := hA rfl; omega
  | some gh =>
    have c7w : w.cell? ⟨gb, 0, none⟩ = some (.slice (some gh) R.length cap) := grd_cell hrg.cell 0 rfl
    have RW : Hid (∀ (r : Nat) xs, L[r]? = some xs → ∃ (rb rc : Nat), w.cell? (gh.add r) = some (.slice (some ⟨rb, 0, none⟩) (wds c) rc) ∧ Rd .i64 w (some ⟨rb, 0, none⟩) xs ∧ xs.length = wds c) := Lib.hid (fun r xs hx => by
      rw [← hnum] at hx
      unfold nums at hx
      rw [List.getElem?_map] at hx
      cases hr2 : R[r]? with
      | none => rw [hr2] at hx; cases hx
      | some ro =>
        rw [hr2] at hx
        injection hx with hx
        subst hx
        have hm := List.mem_of_getElem? hr2
        obtain ⟨ad, had, hc⟩ := hrow r ro hr2
        injection had with had
        subst had
        have hdr := hd.rows ro.2.2 (by rw [← hnum]; exact nums_mem hm)
        refine ⟨ro.1, ro.2.1, ?_, fun j v hv => ⟨_, rfl, hrg.numAt hm hv⟩, hdr.1⟩
        rw [hc]
        unfold rowHd
        rw [hdr.1])
    obtain ⟨m, hmm⟩ : ∃ m, rws c = m := ⟨_, rfl⟩
    obtain ⟨n, hnn⟩ : ∃ n, wds c = n := ⟨_, rfl⟩
    rw [hlen, hmm] at c7w
    rw [hmm, hnn] at CN
    rw [hnn] at RW
    have hm8 : 1 ≤ m ∧ m ≤ 8 := by rw [← hmm]; exact ⟨hpos.1, hpos.2.1⟩
    have hn8 : 1 ≤ n ∧ n ≤ 128 := by rw [← hnn]; exact ⟨hwb.1, hwb.2.1⟩
    have HLN : Hid (L.length = m) := Lib.hid (by rw [← hmm]; exact hd.len)
    have HDD : Hid (Dims m n L) := Lib.hid (by rw [← hmm, ← hnn]; exact hd)
    have HMN := Lib.hid (And.intro hmm hnn)
    have C6 := Lib.hid c6
    have C7 := Lib.hid c7w
    clear hb hr hok hl0 hl1 hrg hnum hGF hrow hlen hpos hwb hA hcap hmm hnn hd hGb
    go_enter Tryz.func11, Tryz.ntmps11
    go_upto_region 1 with fail
    go_region_held3 (fun w' => w'.cell? ⟨b, 0, none⟩ = some (.int .i64 c.bt) ∧ w'.cell? ⟨b, 1, none⟩ = some (.int .i64 c.rw) ∧ w'.cell? ⟨b, 2, none⟩ = some (.int .i64 c.wd) ∧ w'.cell? ⟨b, 3, none⟩ = some (.int .i64 c.md) ∧ w'.cell? ⟨b, 4, none⟩ = some (.int .u64 c.sd) ∧ w'.cell? ⟨b, 5, none⟩ = some (.int .i64 l)) (first | (refine ⟨?_, ?_, ?_, ?_, ?_, ?_⟩ <;> (first | (with_reducible assumption) | (with_reducible refine cell_up c0 ?_) | (with_reducible refine cell_up c1 ?_) | (with_reducible refine cell_up c2 ?_) | (with_reducible refine cell_up c3 ?_) | (with_reducible refine cell_up c4 ?_) | (with_reducible refine cell_up c5 ?_)) <;> repeat' (first | (with_reducible exact Below.refl _ _) | (with_reducible assumption) | (with_reducible refine below_over ?_ _ _) | (with_reducible refine Lw.below_alloc ?_ _) | (with_reducible refine Below.drew ?_) | (with_reducible refine below_drewN ?_ _) | (with_reducible refine Below.setCell ?_ ?_ _) | go_size))) (first
      | (go_at_call 7; (with_reducible refine (CN.out _).mono ?_); rintro e w1 ⟨q, Q, rfl, hds, hq, hb1⟩; have HB1 : Hid (Below w.heap.size w w1) := Lib.hid (below_call (show Below w.heap.size w _ from (by repeat' (first | (with_reducible exact Below.refl _ _) | (with_reducible assumption) | (with_reducible refine below_over ?_ _ _) | (with_reducible refine Lw.below_alloc ?_ _) | (with_reducible refine Below.drew ?_) | (with_reducible refine below_drewN ?_ _) | (with_reducible refine Below.setCell ?_ ?_ _) | go_size))) hb1 (Nat.le_refl _)); have HDS := Lib.hid hds; have HQF : Hid (∀ k, Q k → w.heap.size ≤ k) := Lib.hid (fun k hk => Nat.le_trans (Below.size (show Below w.heap.size w _ from (by repeat' (first | (with_reducible exact Below.refl _ _) | (with_reducible assumption) | (with_reducible refine below_over ?_ _ _) | (with_reducible refine Lw.below_alloc ?_ _) | (with_reducible refine Below.drew ?_) | (with_reducible refine below_drewN ?_ _) | (with_reducible refine Below.setCell ?_ ?_ _) | go_size)))) (hq k hk)); have hbw1 := HB1.out; clear hds hq hb1))
    all_goals go_wp2
    clear c0 c1 c2 c3 c4 c5 c6
    have hds := HDS.out
    obtain ⟨-, -, -, -, bq, gq, Gq, rfl, hbq, ⟨gqb, hdq, R0, rfl, hrg0, hnum0, hGF0, -⟩, hGbq, rfl⟩ := hds
    (try rw [HMN.out.1, HMN.out.2] at hnum0)
    obtain ⟨Aq, capq, rfl, hcapq, hAq, -⟩ := hrg0.hd
    have hl0 : R0.length = m := by have := congrArg List.length hnum0; rw [nums_len] at this; rw [this]; simp [zerosL]
    have hAq2 : ∃ gqh, Aq = some ⟨gqh, 0, none⟩ := by
      rcases hrg0.outer.2 with ⟨h1, h2⟩ | ⟨gx, cx, cur, h1, h2, h3, h4, h5, h6, h7⟩
      · omega
      · injection h1 with h1 h2 h3
        exact ⟨gx, h1⟩
    obtain ⟨gqh, rfl⟩ := hAq2
    have hq1 := HQF.out bq (.inl rfl)
    have hq2 : w.heap.size ≤ gqb := HQF.out gqb (.inr ((hGF0 gqb).2 (.inl rfl)))
    have hq3 : w.heap.size ≤ gqh := HQF.out gqh (.inr ((hGF0 gqh).2 (.inr (.inl rfl))))
    have hb2 : bq ≠ gqh := fun e => hGbq ((hGF0 bq).2 (.inr (.inl (by rw [e]; rfl))))
    have hrows0 : ∀ r ∈ R0, w.heap.size ≤ r.1 ∧ r.1 ≠ bq := fun r hr => ⟨HQF.out r.1 (.inr ((hGF0 r.1).2 (.inr (.inr ⟨r, hr, rfl⟩)))), fun e => hGbq ((hGF0 bq).2 (.inr (.inr ⟨r, hr, e⟩)))⟩
    have hnb : gqb ≠ bq := fun e => hGbq ((hGF0 bq).2 (.inl e.symm))
    rw [hl0] at hrg0
    have HST : Hid (∃ (R' : List Row), RG w1 gqb (.slice (some ⟨gqh, 0, none⟩) m capq) R' ∧ nums R' = (L.take 0 ++ (zerosL m n).drop 0) ∧ R'.length = m ∧ (∀ r ∈ R', w.heap.size ≤ r.1 ∧ r.1 ≠ bq)) := Lib.hid ⟨R0, hrg0, by rw [hnum0]; simp, hl0, hrows0⟩
    have HBQ := Lib.hid hbq
    clear hrg0 hnum0 hGF0 hGbq hAq hl0 hrows0 HQF HDS hbq hcapq
    go_loopw [4] (fun iv wr => ∃ (r : Nat) (R' : List Row), r ≤ m ∧ iv = .int .i64 r ∧ Below w.heap.size w wr ∧ wr.heap[bq]? = some (.cells #[.int .i64 c.bt, .int .i64 c.rw, .int .i64 c.wd, .int .i64 c.md, .int .u64 c.sd, .int .i64 l, .pointer (some ⟨gqb, 0, none⟩)] 48 (0, 0)) ∧ RG wr gqb (.slice (some ⟨gqh, 0, none⟩) m capq) R' ∧ nums R' = (L.take r ++ (zerosL m n).drop r) ∧ R'.length = m ∧ (∀ x ∈ R', w.heap.size ≤ x.1 ∧ x.1 ≠ bq)) (fun iv _ => m - (intOf iv).toNat)
    case atStart =>
      obtain ⟨R', h1, h2, h3, h4⟩ := HST.out
      exact ⟨0, R', Nat.zero_le _, rfl, HB1.out, HBQ.out, h1, h2, h3, h4⟩
    case round =>
      obtain ⟨r, R', hrm, rfl, hbel, hbq, hrg, hnum, hl', hrows⟩ := hrel
      have c6 := cell_up C6.out hbel
      have c7 := cell_up C7.out hbel
      by_cases hlt : r < m
      · obtain ⟨xs, hxs⟩ : ∃ xs, L[r]? = some xs := ⟨_, List.getElem?_eq_getElem (by rw [HLN.out]; exact hlt)⟩
        obtain ⟨rb, rc, hrw, hrd, hxl⟩ := RW.out r xs hxs
        have c8 := cell_up hrw hbel
        have HXR := Lib.hid (hrd.up hbel)
        have e6 := grd_cell hbq 6 (v := .pointer (some ⟨gqb, 0, none⟩)) rfl
        have e7 : wr.cell? ⟨gqb, 0, none⟩ = some (.slice (some ⟨gqh, 0, none⟩) m capq) := grd_cell hrg.cell 0 rfl
        obtain ⟨ro, hro⟩ : ∃ ro, R'[r]? = some ro := ⟨_, List.getElem?_eq_getElem (by rw [hl']; exact hlt)⟩
        have hgql : gqh < wr.heap.size := own_lt hrg.outer rfl
        obtain ⟨aq, haq⟩ : ∃ aq : Addr, (⟨gqh, 0, none⟩ : Addr) = aq := ⟨_, rfl⟩
        have hcq : wr.cell? ⟨gqh, r, none⟩ = some (rowHd ro) := by
          have h9 := hrg.outer.cells (g := gqh) rfl r (rowHd ro) (by rw [List.getElem?_map, hro]; rfl)
          rw [Ord.add_at, Nat.zero_add] at h9
          exact h9
        have hfq : wr.frozen? ⟨gqh, r, none⟩ = false := by
          rcases hrg.outer.2 with ⟨h1, h2⟩ | ⟨gx, cx, cur, h1, h2, h3, h4, h5, h6, h7⟩
          · cases h1
          · injection h1 with h1 h2 h3
            injection h1 with h1
            injection h1 with h1
            subst h1
            simp [World.frozen?, h3]
        have FZ : Hid (∀ w', Below wr.heap.size wr w' → w'.frozen? (aq.add r) = false) := Lib.hid (fun w' hb => by
          rw [← haq, Ord.add_at, Nat.zero_add]
          rw [frozen_below hb hgql]
          exact hfq)
        have CO4 : Hid (∀ w', Below wr.heap.size wr w' → w'.cell? (aq.add r) = some (rowHd ro)) := Lib.hid (fun w' hb => by
          rw [← haq, Ord.add_at, Nat.zero_add]
          exact cell_up hcq hb)
        have HNX : Hid (∀ x : Row, x.2.2 = xs → nums (R'.set r x) = (L.take (r + 1) ++ (zerosL m n).drop (r + 1))) := Lib.hid (fun x hx => by
          rw [nums_set, hnum, hx]
          exact take_drop_set hxs (by rw [HLN.out]; simp [zerosL]))
        have HRG := Lib.hid hrg
        have HBQ2 := Lib.hid hbq
        have HRS := Lib.hid hrows
        have hszw := hbel.size
        have hr1 : (r : Int) < (m : Int) := by omega
        have HBL := Lib.hid hbel
        have SKP : Hid (∀ (w' : World) (v : Value) (a : Addr) (u : Value), w'.cell? a = some u → a.block ≠ gqh → (w'.setCell (aq.add r) v).cell? a = some u) := Lib.hid (fun w' v a u h1 h2 => by
          rw [← haq, Ord.add_at, Nat.zero_add]
          exact (Kept.set (F := fun k => k = gqh) (Kept.refl _ w') (.inl rfl) r v).cell h1 h2)
        have hne6 : b ≠ gqh := by omega
        have hne7 : gqb ≠ gqh := fun e => hrg.apart1 (by rw [e]; rfl)
        have hne8 : gb ≠ gqh := by have := cell_lt C7.out; simp only at this; omega
        have hne9 : (gh.add r).block ≠ gqh := by have := cell_lt hrw; omega
        rw [haq] at e7
        clear hxs hrw hrd hro hcq hfq hnum hbq hrows
        go_upto_region 5 with fail
        go_region_held3 (fun w' => w'.cell? ⟨bq, 6, none⟩ = some (.pointer (some ⟨gqb, 0, none⟩)) ∧ w'.cell? ⟨gqb, 0, none⟩ = some (.slice (some aq) m capq) ∧ w'.cell? ⟨b, 6, none⟩ = some (.pointer (some ⟨gb, 0, none⟩)) ∧ w'.cell? ⟨gb, 0, none⟩ = some (.slice (some gh) m cap) ∧ w'.cell? (gh.add r) = some (.slice (some ⟨rb, 0, none⟩) n rc)) (first | (refine ⟨?_, ?_, ?_, ?_, ?_⟩ <;> (first | (with_reducible assumption) | (with_reducible refine cell_up e6 ?_) | (with_reducible refine cell_up e7 ?_) | (with_reducible refine cell_up c6 ?_) | (with_reducible refine cell_up c7 ?_) | (with_reducible refine cell_up c8 ?_)) <;> (repeat' (first | (with_reducible exact Below.refl _ _) | (with_reducible assumption) | (with_reducible refine below_over ?_ _ _) | (with_reducible refine Lw.below_alloc ?_ _) | (with_reducible refine Below.drew ?_) | (with_reducible refine below_drewN ?_ _) | (with_reducible refine Below.setCell ?_ ?_ _) | go_size)))) (first
          | (refine app_step .i64 rfl _ _ 44 rfl wr.heap.size 2 i0 8 i64s_u hi hz0 hz1 hz2 (.slice (some ⟨wr.heap.size, 0, none⟩) 0 0) 0 [] rfl (own_empty wr.drew _ _ _ (Nat.le_refl _)) (fun h => by cases h) (some ⟨rb, 0, none⟩) n rc xs rfl (fun h => by cases h) hxl (HXR.out.up (by repeat' (first | (with_reducible exact Below.refl _ _) | (with_reducible assumption) | (with_reducible refine below_over ?_ _ _) | (with_reducible refine Lw.below_alloc ?_ _) | (with_reducible refine Below.drew ?_) | (with_reducible refine below_drewN ?_ _) | (with_reducible refine Below.setCell ?_ ?_ _) | go_size))) (by unfold maxLen; omega) (by omega) (by simp) ?_; intro A4 cap4 w4 hown4 hgrow4 hrd4 hcap6 hcap7; have hb4 : Below wr.heap.size wr w4 := app_below2 (by repeat' (first | (with_reducible exact Below.refl _ _) | (with_reducible assumption) | (with_reducible refine below_over ?_ _ _) | (with_reducible refine Lw.below_alloc ?_ _) | (with_reducible refine Below.drew ?_) | (with_reducible refine below_drewN ?_ _) | (with_reducible refine Below.setCell ?_ ?_ _) | go_size)) hgrow4 (Nat.le_refl _); (try simp only [Nat.zero_add, List.nil_append] at hown4 hcap6); (try simp only [Nat.zero_add]); have HO4 := Lib.hid hown4; have HB4 := Lib.hid hb4; have fz4 := FZ.out w4 hb4; have co4 := CO4.out w4 hb4; have q6 := SKP.out w4 (.slice (some A4) n cap4) _ _ (cell_up e6 hb4) hb2; have q7 := SKP.out w4 (.slice (some A4) n cap4) _ _ (cell_up e7 hb4) hne7; have q8 := SKP.out w4 (.slice (some A4) n cap4) _ _ (cell_up c6 hb4) hne6; have q9 := SKP.out w4 (.slice (some A4) n cap4) _ _ (cell_up c7 hb4) hne8; have q10 := SKP.out w4 (.slice (some A4) n cap4) _ _ (cell_up c8 hb4) hne9; clear hown4 hgrow4 hrd4))
        all_goals go_wp2
        go_roundw
        case rel =>
          obtain ⟨g4, rfl, hg4, -⟩ := Ord.mid_own HO4.out
          have hrg4 := HRG.out.keep (F := fun _ => False) (Kept.of_below HB4.out) (fun q hq h => h)
          have hnf : ¬ RF gqb (.slice (some ⟨gqh, 0, none⟩) m capq) R' g4 := fun hk => by have := HRG.out.blt hk; omega
          have hown0 : w4.ownsRow 0 2 1 (rowHd (g4, cap4, xs)) xs.length (xs.map (Value.int .i64)) := by
            have h9 := own_zero HO4.out
            unfold rowHd
            rw [hxl]
            exact h9
          have hwe : w4.setCell (aq.add r) (.slice (some ⟨g4, 0, none⟩) n cap4) = w4.setCell ⟨gqh, r, none⟩ (rowHd (g4, cap4, xs)) := by
            rw [← haq, Ord.add_at, Nat.zero_add]
            unfold rowHd
            rw [hxl]
          have hset : RG (w4.setCell ⟨gqh, r, none⟩ (rowHd (g4, cap4, xs))) gqb (.slice (some ⟨gqh, 0, none⟩) m capq) (R'.set r (g4, cap4, xs)) := by
            have h8 := RG.setRow (w := w4) (b := gqb) (gh := gqh) (cap := capq) (R := R') (by rw [hl']; exact hrg4) (K := r) (by rw [hl']; exact hlt) g4 cap4 xs hown0 (by rw [hl']; exact hnf)
            rw [List.length_set, hl'] at h8
            exact h8
          have hb4 : Below w.heap.size w w4 := below_call HBL.out HB4.out (Nat.le_refl _)
          have hbqs := size_of_heap HBQ2.out
          have hks : Kept (fun q => q = gqh) w4 (w4.setCell ⟨gqh, r, none⟩ (rowHd (g4, cap4, xs))) := Kept.set (F := fun q => q = gqh) (Kept.refl _ w4) (.inl rfl) r _
          rw [hwe]
          refine ⟨r + 1, R'.set r (g4, cap4, xs), by omega, by go_num, Below.setCell hb4 hq3 _, ?_, hset, HNX.out _ rfl, by rw [List.length_set]; exact hl', fun x hx => ?_⟩
          · refine hks.heap ?_ hb2
            rw [HB4.out.block bq hbqs]
            exact HBQ2.out
          · rcases List.mem_or_eq_of_mem_set hx with hx | rfl
            · exact HRS.out x hx
            · exact ⟨by show w.heap.size ≤ g4; omega, by show g4 ≠ bq; omega⟩
        case measure => simp [intOf]; omega
      · have e : r = m := by omega
        subst e
        have hlt3 : ¬ (r : Int) < (r : Int) := by omega
        have hnl : nums R' = L := by
          rw [hnum, List.take_of_length_le (by rw [HLN.out]; exact Nat.le_refl _), List.drop_of_length_le (by simp [zerosL]), List.append_nil]
        have HRG := Lib.hid hrg
        have HBQ2 := Lib.hid hbq
        have HRS := Lib.hid hrows
        have HBL := Lib.hid hbel
        have HNL := Lib.hid hnl
        clear hrg hbq hrows hbel hnl hnum hl'
        go_wp2
        go_ret
        refine ⟨⟨bq, 0, none⟩, rfl, fun k => k = bq ∨ RF gqb (.slice (some ⟨gqh, 0, none⟩) r capq) R' k, ⟨HR.out.1, HR.out.2.1, HR.out.2.2.1, HR.out.2.2.2, bq, ⟨gqb, 0, none⟩, RF gqb (.slice (some ⟨gqh, 0, none⟩) r capq) R', rfl, HBQ2.out, ⟨gqb, _, R', rfl, HRG.out, HNL.out, fun _ => Iff.rfl, by rw [HMN.out.1, HMN.out.2]; exact HDD.out⟩, fun hk => ?_, rfl⟩, fun k hk => ?_, HBL.out⟩
        · rcases hk with h1 | h1 | ⟨x, hx, h1⟩
          · exact hnb h1.symm
          · simp [Value.ownBlock] at h1
            exact hb2 h1.symm
          · exact (HRS.out x hx).2 h1
        · rcases hk with rfl | h1 | h1 | ⟨x, hx, h1⟩
          · exact hq1
          · rw [h1]; exact hq2
          · simp [Value.ownBlock] at h1
            rw [← h1]; exact hq3
          · rw [← h1]; exact (HRS.out x hx).1
end Go.Proofs.YthecgkgnngpikaaGreat.Sk
