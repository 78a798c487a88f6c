/- Texts that the statement LevelPlays leans on, put together: ExaJoin, ExaLawA, ExaShr, LevCode, LevCInn. -/
import Derived.Test.YtkannodfamnmcaaGreatMc
import Derived.Test.YtkannodfamnmcaaGreatMd
import Derived.Test.YtkannodfamnmcaaGreatMe
import Derived.Test.YtkannodfamnmcaaGreatQi
import Derived.Test.YtkannodfamnmcaaGreatQj
import Derived.Test.YtkannodfamnmcaaGreatQk
import Derived.Deep.RegionHeld3
import Derived.Deep.DeepCutAuto
import Derived.Deep.LoopGhost
import Derived.Deep.QuietTactic
import Derived.BigQuiet
/- The walk of the document's own Join for layer 12. Printed by wip/gen/exajoin.py. -/
namespace Go.Proofs.YtkannodfamnmcaaGreat.Exa
open Go Go.RowKit Lw Grd Lin Con Shp Sk
set_option linter.unusedVariables false
set_option linter.unusedSimpArgs false
theorem row_no {s : Int} {L M : List Int} {k : Nat} {x y : Int} (hx : L[k]? = some x) (hy : M[k]? = some y) (h : Wid.fit64 (x + s * y) = false) : (rowS s L M).all Wid.fit64 = false := by
  have hm : x + s * y ∈ rowS s L M := List.mem_of_getElem? (i := k) (by unfold rowS; rw [List.getElem?_zipWith, hx, hy])
  rw [List.all_eq_false]
  exact ⟨_, hm, by simp [h]⟩
theorem in64_all {zs : List Int} (h : zs.all Wid.fit64 = true) : In64 zs := fun v hv => by
  rw [List.all_eq_true] at h
  exact in64_fit (h v hv)
theorem own_cap {w : World} {base : Nat} {e : TypeId} {g n cap : Nat} {xs : List Value} (h : w.ownsRow base e 1 (.slice (some ⟨g, 0, none⟩) n cap) n xs) : n ≤ cap ∧ cap ≤ maxLen := by
  rcases h.2 with ⟨h1, _⟩ | ⟨g1, cap2, cur, h3, hbase, hh, hl, hm, hx, hy⟩
  · cases h1
  · injection h3 with _ _ h3
    subst h3
    exact ⟨hl, hm⟩
set_option maxRecDepth 100000 in
set_option maxHeartbeats 8000000 in
theorem ajoin_p (p q : Addr) (F G : Nat → Prop) (c : Cfg) (l : Int) (L M : List Int) (w : World) (h : DA w p F c l L) (h9 : DA w q G c l M) (hlen : L.length = M.length) :
    Calls Tryz.prog 45 #[.pointer (some p), .pointer (some q), .int .i64 1] w fun e w' =>
      ((rowS 1 L M).all Wid.fit64 = true ∧ e = .returned (.int .i64 0) ∧ ∃ F', DA w' p F' c l (rowS 1 L M) ∧ Kept F w w' ∧ (∀ q, F' q → F q ∨ w.heap.size ≤ q)) ∨
      ((rowS 1 L M).all Wid.fit64 = false ∧ e = .returned (.int .i64 4) ∧ Below w.heap.size w w') := by
  obtain ⟨i0, hi, hi0, hi1, hi2⟩ := info_parts i64_info
  obtain ⟨h1, h2, h3, b, g, cap, rfl, hb, hm, h4, h5, h6, rfl⟩ := h
  obtain ⟨-, k2, k3, b2, g2, cap2, rfl, hbk, hmk, k4, k5, k6, rfl⟩ := h9
  have hbl := size_of_heap hb
  have c0 := grd_cell hb 0 (v := .int .i64 c.bt) rfl
  have c1 := grd_cell hb 1 (v := .int .i64 c.rw) rfl
  have c2 := grd_cell hb 2 (v := .int .i64 c.wd) rfl
  have c3 := grd_cell hb 3 (v := .int .i64 c.md) rfl
  have c4 := grd_cell hb 4 (v := .int .u64 c.sd) rfl
  have c5 := grd_cell hb 5 (v := .int .i64 l) rfl
  have c6 := grd_cell hb 6 (v := .slice (some ⟨g, 0, none⟩) L.length cap) rfl
  have e0 := grd_cell hbk 0 (v := .int .i64 c.bt) rfl
  have e1 := grd_cell hbk 1 (v := .int .i64 c.rw) rfl
  have e2 := grd_cell hbk 2 (v := .int .i64 c.wd) rfl
  have e3 := grd_cell hbk 3 (v := .int .i64 c.md) rfl
  have e4 := grd_cell hbk 4 (v := .int .u64 c.sd) rfl
  have e5 := grd_cell hbk 5 (v := .int .i64 l) rfl
  have e6 := grd_cell hbk 6 (v := .slice (some ⟨g2, 0, none⟩) M.length cap2) rfl
  have HB := Lib.hid hb
  have HM := Lib.hid hm
  have HMK := Lib.hid hmk
  have H1 := Lib.hid h1
  have HIN := Lib.hid (And.intro h3 k3)
  have hL8 := h2
  obtain ⟨gad, hgad⟩ : ∃ gad : Addr, (⟨g, 0, none⟩ : Addr) = gad := ⟨_, rfl⟩
  obtain ⟨gad2, hgad2⟩ : ∃ gad : Addr, (⟨g2, 0, none⟩ : Addr) = gad := ⟨_, rfl⟩
  have HX : Hid (∀ (j : Nat) v, L[j]? = some v → w.cell? (gad.add j) = some (.int .i64 v)) := Lib.hid (fun j v hv => by
    rw [← hgad, Ord.add_at]
    exact hm.cell hv)
  have HY : Hid (∀ (j : Nat) v, M[j]? = some v → w.cell? (gad2.add j) = some (.int .i64 v)) := Lib.hid (fun j v hv => by
    rw [← hgad2, Ord.add_at]
    exact hmk.cell hv)
  rw [hgad] at c6
  rw [hgad2] at e6
  have HG := Lib.hid hgad
  have C6 := Lib.hid c6
  have E6 := Lib.hid e6
  have HLN := Lib.hid hlen
  obtain ⟨O, hO⟩ : ∃ O, (rowS 1 L M).all Wid.fit64 = O := ⟨_, rfl⟩
  have HO := Lib.hid hO
  rw [hO]
  clear hb hbk hm hmk h1 h3 k3 hgad hgad2 k6 hlen hO
  go_enter Tryz.func45, Tryz.ntmps45
  go_wp2
  go_quiet (fail)
  all_goals go_wp2
  clear c0 c1 c2 c3 c4 c5 c6 e0 e1 e2 e3 e4 e5 e6
  go_loopw [7, 8] (fun v i wi => ∃ (j gr cp : Nat), j ≤ L.length ∧ i = .int .i64 j ∧ v = .slice (some ⟨gr, 0, none⟩) j cp ∧ wi.ownsRow w.heap.size 2 1 v j ((rowS 1 (L.take j) (M.take j)).map (Value.int .i64)) ∧ (rowS 1 (L.take j) (M.take j)).all Wid.fit64 = true ∧ w.heap.size ≤ gr ∧ Below w.heap.size w wi) (fun _ i _ => L.length - (intOf i).toNat)
  case atStart => exact ⟨0, w.heap.size, 0, Nat.zero_le _, rfl, rfl, by simpa [rowS] using ((Kept.refl (fun _ => False) (w.alloc (.cells #[] 2))).drewN _).own (own_empty w 2 1 w.heap.size (Nat.le_refl _)) (fun _ _ h => h), by simp [rowS], Nat.le_refl _, by repeat' (first | (with_reducible exact Below.refl _ _) | (with_reducible assumption) | (with_reducible refine below_over ?_ _ _) | (with_reducible refine Lw.below_alloc ?_ _) | (with_reducible refine Below.drew ?_) | (with_reducible refine below_drewN ?_ _) | (with_reducible refine Below.setCell ?_ ?_ _) | go_size)⟩
  case round =>
    obtain ⟨j, gr, cp, hjw, rfl, rfl, hown, hfit, hgr, hbi⟩ := hrel
    have hb6 := cell_up C6.out hbi
    have hbk6 := cell_up E6.out hbi
    by_cases hjl : j < L.length
    · obtain ⟨x, hx⟩ : ∃ x, L[j]? = some x := ⟨_, List.getElem?_eq_getElem hjl⟩
      obtain ⟨y, hy⟩ : ∃ y, M[j]? = some y := ⟨_, List.getElem?_eq_getElem (by have := HLN.out; omega)⟩
      have hcx := cell_up (HX.out j x hx) hbi
      have hcy := cell_up (HY.out j y hy) hbi
      have hxb := HIN.out.1.at hx
      have hyb := HIN.out.2.at hy
      have hjy : j < M.length := by have := HLN.out; omega
      have hz : x + 1 * y = x + y := by omega
      have hs0 : ¬ (1 : Int) < 0 := by omega
      go_wp2_with (first
        | (go_at_call 70; (with_reducible refine (Wid.rofint_any y _ hyb.1 hyb.2).mono ?_); rintro e w' ⟨rfl, hbx⟩; obtain ⟨bs1, d1, rfl⟩ := below_grow hbx; clear hbx))
      generalize hX : (grow wr bs1 d1).alloc (.cells #[.int .i64 (Wid.dg y 0), .int .i64 (Wid.dg y 1), .int .i64 (Wid.dg y 2), .int .i64 (Wid.dg y 3), .int .i64 (Wid.dg y 4), .int .i64 (Wid.dg y 5), .int .i64 (Wid.dg y 6), .int .i64 (Wid.dg y 7), .int .i64 (Wid.dg y 8), .int .i64 (Wid.dg y 9)] 133) = X
      have hbX : Below wr.heap.size wr X := by rw [← hX]; (repeat' (first | (with_reducible exact Below.refl _ _) | (with_reducible assumption) | (with_reducible refine below_over ?_ _ _) | (with_reducible refine Lw.below_alloc ?_ _) | (with_reducible refine Below.drew ?_) | (with_reducible refine below_drewN ?_ _) | (with_reducible refine Below.setCell ?_ ?_ _) | go_size))
      have hR0 : ((grow wr bs1 d1).alloc (.cells #[.int .i64 (Wid.dg y 0), .int .i64 (Wid.dg y 1), .int .i64 (Wid.dg y 2), .int .i64 (Wid.dg y 3), .int .i64 (Wid.dg y 4), .int .i64 (Wid.dg y 5), .int .i64 (Wid.dg y 6), .int .i64 (Wid.dg y 7), .int .i64 (Wid.dg y 8), .int .i64 (Wid.dg y 9)] 133)).rangeAt (wr.heap.size + bs1.size) 0 [.int .i64 (Wid.dg y 0), .int .i64 (Wid.dg y 1), .int .i64 (Wid.dg y 2), .int .i64 (Wid.dg y 3), .int .i64 (Wid.dg y 4), .int .i64 (Wid.dg y 5), .int .i64 (Wid.dg y 6), .int .i64 (Wid.dg y 7), .int .i64 (Wid.dg y 8), .int .i64 (Wid.dg y 9)] := by
        have h := Wid.range_box (w := grow wr bs1 d1) (C := [.int .i64 (Wid.dg y 0), .int .i64 (Wid.dg y 1), .int .i64 (Wid.dg y 2), .int .i64 (Wid.dg y 3), .int .i64 (Wid.dg y 4), .int .i64 (Wid.dg y 5), .int .i64 (Wid.dg y 6), .int .i64 (Wid.dg y 7), .int .i64 (Wid.dg y 8), .int .i64 (Wid.dg y 9)]) (t := 133) (Below.refl _ _)
        rw [size_grow] at h
        exact h
      have hR : X.rangeAt (wr.heap.size + bs1.size) 0 [.int .i64 (Wid.dg y 0), .int .i64 (Wid.dg y 1), .int .i64 (Wid.dg y 2), .int .i64 (Wid.dg y 3), .int .i64 (Wid.dg y 4), .int .i64 (Wid.dg y 5), .int .i64 (Wid.dg y 6), .int .i64 (Wid.dg y 7), .int .i64 (Wid.dg y 8), .int .i64 (Wid.dg y 9)] := by rw [← hX]; exact hR0
      clear hX hR0
      have x1 := cell_up hb6 hbX
      have x3 := cell_up hcx hbX
      have hu57 := Wid.long_u
      have hi57 : (Tryz.prog.info? 133).map (·.size) = some ([.int .i64 (Wid.dg y 0), .int .i64 (Wid.dg y 1), .int .i64 (Wid.dg y 2), .int .i64 (Wid.dg y 3), .int .i64 (Wid.dg y 4), .int .i64 (Wid.dg y 5), .int .i64 (Wid.dg y 6), .int .i64 (Wid.dg y 7), .int .i64 (Wid.dg y 8), .int .i64 (Wid.dg y 9)] : List Value).length := Wid.long_i
      go_cut [10, 11] (fun s12 s13 wx => s12 = .int .i64 (Wid.f64 (x + y)) ∧ s13 = .bool (Wid.fit64 (x + y)) ∧ Below wr.heap.size wr wx)
      case first =>
        go_region_held3 (fun w' => w'.cell? ⟨b, 6, none⟩ = some (.slice (some gad) L.length cap) ∧ w'.cell? (gad.add j) = some (.int .i64 x) ∧ w'.rangeAt (wr.heap.size + bs1.size) 0 [.int .i64 (Wid.dg y 0), .int .i64 (Wid.dg y 1), .int .i64 (Wid.dg y 2), .int .i64 (Wid.dg y 3), .int .i64 (Wid.dg y 4), .int .i64 (Wid.dg y 5), .int .i64 (Wid.dg y 6), .int .i64 (Wid.dg y 7), .int .i64 (Wid.dg y 8), .int .i64 (Wid.dg y 9)]) ((refine ⟨cell_up x1 ?_, cell_up x3 ?_, Wid.range_call hR ?_⟩ <;> (repeat' (first | (with_reducible exact Below.refl _ _) | (with_reducible assumption) | (with_reducible refine below_over ?_ _ _) | (with_reducible refine Lw.below_alloc ?_ _) | (with_reducible refine Below.drew ?_) | (with_reducible refine below_drewN ?_ _) | (with_reducible refine Below.setCell ?_ ?_ _) | go_size)))) (first
          | (go_at_call 70; (with_reducible refine (Wid.rofint_any x _ hxb.1 hxb.2).mono ?_); rintro e w' ⟨rfl, hbx⟩; obtain ⟨bs3, d3, rfl⟩ := below_grow hbx; clear hbx)
          | (go_at_call 73; (with_reducible refine (Wid.rplus_any x y _ _ _ _ _ _ _ _ _ _ _ _ _ _ _ _ _ _ _ _ _ rfl rfl).mono ?_); rintro e w' ⟨rfl, hbx⟩; obtain ⟨bs4, d4, rfl⟩ := below_grow hbx; clear hbx)
          | (go_at_call 72; (with_reducible refine (Wid.rint_any (x + y) _ _ _ _ _ _ _ _ _ _ _ rfl (by omega) (by omega)).mono ?_); rintro e w' ⟨rfl, hbx⟩; obtain ⟨bs5, d5, rfl⟩ := below_grow hbx; clear hbx))
        all_goals go_wp2
        all_goals go_meet
        all_goals refine ⟨rfl, rfl, below_call hbX (w1 := _) ?_ (Nat.le_refl _)⟩
        all_goals (repeat' (first | (with_reducible exact Below.refl _ _) | (with_reducible assumption) | (with_reducible refine below_over ?_ _ _) | (with_reducible refine Lw.below_alloc ?_ _) | (with_reducible refine Below.drew ?_) | (with_reducible refine below_drewN ?_ _) | (with_reducible refine Below.setCell ?_ ?_ _) | go_size))
      case rest =>
        obtain ⟨rfl, rfl, hbc⟩ := hcut
        have hownc := (Kept.of_below (F := fun _ => False) hbc).own hown (fun _ _ h => h)
        have hbw2 := below_call hbi hbc (Nat.le_refl _)
        have HNX := Lib.hid (rowS_next (s := 1) hx hy)
        have hbcs := hbw2.size
        cases hf : Wid.fit64 (x + y)
        · have HNF : Hid (O = false) := Lib.hid (by rw [← HO.out]; exact row_no hx hy (by rw [hz]; exact hf))
          clear hx hy
          go_wp2
          go_ret
          exact Or.inr ⟨HNF.out, rfl, hbw2⟩
        · have e64 : Wid.f64 (x + y) = x + y := by unfold Wid.f64; rw [if_pos hf]
          rw [e64]
          clear hx hy
          go_wp2_with (at_builtin; (refine app_one .i64 rfl _ _ 45 rfl w.heap.size 2 i0 8 i64s_u hi hi0 hi1 hi2 (.slice (some ⟨gr, 0, none⟩) j cp) j (rowS 1 (L.take j) (M.take j)) rfl (hownc.alloc _) (x + y) wc.heap.size rfl (cell_one_new _ _ _) (by unfold maxLen; omega) (by omega) (by simp; omega) ?_); intro v1 w1 own1 grow1 oth1; obtain ⟨gg, cc, rfl, hgg, hgl⟩ := own1.form (by omega); have hb1 : Below w.heap.size w w1 := app_below3 (Lw.below_alloc hbw2 _) grow1 (fun q hq => own_ge hownc q hq))
          go_roundw
          case rel => exact ⟨j + 1, gg, cc, by omega, by go_num, rfl, by rw [HNX.out, hz]; exact own1, by rw [HNX.out, hz, List.all_append, hfit]; simp [hf], hgg, hb1⟩
          case measure => simp [intOf]; omega
    · have e : L.length = j := by omega
      have hall : L.take j = L ∧ M.take j = M := ⟨List.take_of_length_le (by omega), List.take_of_length_le (by have := HLN.out; omega)⟩
      rw [hall.1, hall.2] at hown hfit
      obtain ⟨g7, hA7, hg7, hm7⟩ := Ord.mid_own hown
      injection hA7 with hA7
      subst hA7
      have hB := (Kept.of_below (F := fun _ => False) hbi).heap HB.out (fun h => h)
      have hfz : wr.frozen? ⟨b, 6, none⟩ = false := boxs_frozen (e := 101) (vs := #[.int .i64 c.bt, .int .i64 c.rw, .int .i64 c.wd, .int .i64 c.md, .int .u64 c.sd, .int .i64 l, .slice (some ⟨g, 0, none⟩) L.length cap]) hB 6
      have hlr : (rowS 1 L M).length = j := by unfold rowS; rw [List.length_zipWith]; have := HLN.out; omega
      have hcp := own_cap hown
      have E : Hid (∃ F', DA (wr.setCell ⟨b, 6, none⟩ (.slice (some ⟨gr, 0, none⟩) j cp)) ⟨b, 0, none⟩ F' c l (rowS 1 L M) ∧ Kept (fun k => k = b ∨ k = g) w (wr.setCell ⟨b, 6, none⟩ (.slice (some ⟨gr, 0, none⟩) j cp)) ∧ (∀ q, F' q → (q = b ∨ q = g) ∨ w.heap.size ≤ q)) := Lib.hid (by
        have hs := boxs_set (e := 101) (vs := #[.int .i64 c.bt, .int .i64 c.rw, .int .i64 c.wd, .int .i64 c.md, .int .u64 c.sd, .int .i64 l, .slice (some ⟨g, 0, none⟩) L.length cap]) hB 6 (.slice (some ⟨gr, 0, none⟩) j cp)
        have hk : Kept (fun q => q = b) wr (wr.setCell ⟨b, 6, none⟩ (.slice (some ⟨gr, 0, none⟩) j cp)) := (Kept.refl (fun q => q = b) wr).set (.inl rfl) _ _
        refine ⟨fun k => k = b ∨ k = gr, ⟨H1.out, by rw [hlr]; omega, in64_all hfit, b, gr, cp, rfl, ?_, hm7.keep hk (fun e => by omega), by rw [hlr]; exact hcp.1, hcp.2, by omega, rfl⟩, (Kept.of_below hbi).trans (hk.mono (fun q _ e => .inl e)) (fun q hq e => e), fun q hq => by
          rcases hq with h | h
          · exact .inl (.inl h)
          · exact .inr (by omega)⟩
        rw [hlr]
        exact hs)
      have HF : Hid (O = true) := Lib.hid (by rw [← HO.out]; exact hfit)
      clear hown hfit hm7 hB hcp hlr hall
      subst e
      go_wp2
      go_ret
      exact Or.inl ⟨HF.out, rfl, E.out⟩
set_option maxRecDepth 100000 in
set_option maxHeartbeats 8000000 in
theorem ajoin_m (p q : Addr) (F G : Nat → Prop) (c : Cfg) (l : Int) (L M : List Int) (w : World) (h : DA w p F c l L) (h9 : DA w q G c l M) (hlen : L.length = M.length) (hm2 : ¬ c.md = 2) :
    Calls Tryz.prog 45 #[.pointer (some p), .pointer (some q), .int .i64 (-1)] w fun e w' =>
      ((rowS (-1) L M).all Wid.fit64 = true ∧ e = .returned (.int .i64 0) ∧ ∃ F', DA w' p F' c l (rowS (-1) L M) ∧ Kept F w w' ∧ (∀ q, F' q → F q ∨ w.heap.size ≤ q)) ∨
      ((rowS (-1) L M).all Wid.fit64 = false ∧ e = .returned (.int .i64 4) ∧ Below w.heap.size w w') := by
  obtain ⟨i0, hi, hi0, hi1, hi2⟩ := info_parts i64_info
  obtain ⟨h1, h2, h3, b, g, cap, rfl, hb, hm, h4, h5, h6, rfl⟩ := h
  obtain ⟨-, k2, k3, b2, g2, cap2, rfl, hbk, hmk, k4, k5, k6, rfl⟩ := h9
  have hbl := size_of_heap hb
  have c0 := grd_cell hb 0 (v := .int .i64 c.bt) rfl
  have c1 := grd_cell hb 1 (v := .int .i64 c.rw) rfl
  have c2 := grd_cell hb 2 (v := .int .i64 c.wd) rfl
  have c3 := grd_cell hb 3 (v := .int .i64 c.md) rfl
  have c4 := grd_cell hb 4 (v := .int .u64 c.sd) rfl
  have c5 := grd_cell hb 5 (v := .int .i64 l) rfl
  have c6 := grd_cell hb 6 (v := .slice (some ⟨g, 0, none⟩) L.length cap) rfl
  have e0 := grd_cell hbk 0 (v := .int .i64 c.bt) rfl
  have e1 := grd_cell hbk 1 (v := .int .i64 c.rw) rfl
  have e2 := grd_cell hbk 2 (v := .int .i64 c.wd) rfl
  have e3 := grd_cell hbk 3 (v := .int .i64 c.md) rfl
  have e4 := grd_cell hbk 4 (v := .int .u64 c.sd) rfl
  have e5 := grd_cell hbk 5 (v := .int .i64 l) rfl
  have e6 := grd_cell hbk 6 (v := .slice (some ⟨g2, 0, none⟩) M.length cap2) rfl
  have hmb : (c.md == 2) = false := by simpa using hm2
  have HB := Lib.hid hb
  have HM := Lib.hid hm
  have HMK := Lib.hid hmk
  have H1 := Lib.hid h1
  have HIN := Lib.hid (And.intro h3 k3)
  have hL8 := h2
  obtain ⟨gad, hgad⟩ : ∃ gad : Addr, (⟨g, 0, none⟩ : Addr) = gad := ⟨_, rfl⟩
  obtain ⟨gad2, hgad2⟩ : ∃ gad : Addr, (⟨g2, 0, none⟩ : Addr) = gad := ⟨_, rfl⟩
  have HX : Hid (∀ (j : Nat) v, L[j]? = some v → w.cell? (gad.add j) = some (.int .i64 v)) := Lib.hid (fun j v hv => by
    rw [← hgad, Ord.add_at]
    exact hm.cell hv)
  have HY : Hid (∀ (j : Nat) v, M[j]? = some v → w.cell? (gad2.add j) = some (.int .i64 v)) := Lib.hid (fun j v hv => by
    rw [← hgad2, Ord.add_at]
    exact hmk.cell hv)
  rw [hgad] at c6
  rw [hgad2] at e6
  have HG := Lib.hid hgad
  have C6 := Lib.hid c6
  have E6 := Lib.hid e6
  have HLN := Lib.hid hlen
  obtain ⟨O, hO⟩ : ∃ O, (rowS (-1) L M).all Wid.fit64 = O := ⟨_, rfl⟩
  have HO := Lib.hid hO
  rw [hO]
  clear hb hbk hm hmk h1 h3 k3 hgad hgad2 k6 hlen hO hm2
  go_enter Tryz.func45, Tryz.ntmps45
  go_wp2
  go_quiet (fail)
  all_goals go_wp2
  clear c0 c1 c2 c3 c4 c5 c6 e0 e1 e2 e3 e4 e5 e6 hmb
  go_loopw [7, 8] (fun v i wi => ∃ (j gr cp : Nat), j ≤ L.length ∧ i = .int .i64 j ∧ v = .slice (some ⟨gr, 0, none⟩) j cp ∧ wi.ownsRow w.heap.size 2 1 v j ((rowS (-1) (L.take j) (M.take j)).map (Value.int .i64)) ∧ (rowS (-1) (L.take j) (M.take j)).all Wid.fit64 = true ∧ w.heap.size ≤ gr ∧ Below w.heap.size w wi) (fun _ i _ => L.length - (intOf i).toNat)
  case atStart => exact ⟨0, w.heap.size, 0, Nat.zero_le _, rfl, rfl, by simpa [rowS] using ((Kept.refl (fun _ => False) (w.alloc (.cells #[] 2))).drewN _).own (own_empty w 2 1 w.heap.size (Nat.le_refl _)) (fun _ _ h => h), by simp [rowS], Nat.le_refl _, by repeat' (first | (with_reducible exact Below.refl _ _) | (with_reducible assumption) | (with_reducible refine below_over ?_ _ _) | (with_reducible refine Lw.below_alloc ?_ _) | (with_reducible refine Below.drew ?_) | (with_reducible refine below_drewN ?_ _) | (with_reducible refine Below.setCell ?_ ?_ _) | go_size)⟩
  case round =>
    obtain ⟨j, gr, cp, hjw, rfl, rfl, hown, hfit, hgr, hbi⟩ := hrel
    have hb6 := cell_up C6.out hbi
    have hbk6 := cell_up E6.out hbi
    by_cases hjl : j < L.length
    · obtain ⟨x, hx⟩ : ∃ x, L[j]? = some x := ⟨_, List.getElem?_eq_getElem hjl⟩
      obtain ⟨y, hy⟩ : ∃ y, M[j]? = some y := ⟨_, List.getElem?_eq_getElem (by have := HLN.out; omega)⟩
      have hcx := cell_up (HX.out j x hx) hbi
      have hcy := cell_up (HY.out j y hy) hbi
      have hxb := HIN.out.1.at hx
      have hyb := HIN.out.2.at hy
      have hjy : j < M.length := by have := HLN.out; omega
      have hz : x + (-1) * y = x + (-y) := by omega
      have hs0 : ((-1) : Int) < 0 := by omega
      go_wp2_with (first
        | (go_at_call 70; (with_reducible refine (Wid.rofint_any y _ hyb.1 hyb.2).mono ?_); rintro e w' ⟨rfl, hbx⟩; obtain ⟨bs1, d1, rfl⟩ := below_grow hbx; clear hbx)
        | (go_at_call 71; (with_reducible refine (Wid.rminus_any y _ _ _ _ _ _ _ _ _ _ _ rfl).mono ?_); rintro e w' ⟨rfl, hbx⟩; obtain ⟨bs2, d2, rfl⟩ := below_grow hbx; clear hbx))
      generalize hX : grow ((grow wr bs1 d1).alloc (.cells #[.int .i64 (Wid.dg (-y) 0), .int .i64 (Wid.dg (-y) 1), .int .i64 (Wid.dg (-y) 2), .int .i64 (Wid.dg (-y) 3), .int .i64 (Wid.dg (-y) 4), .int .i64 (Wid.dg (-y) 5), .int .i64 (Wid.dg (-y) 6), .int .i64 (Wid.dg (-y) 7), .int .i64 (Wid.dg (-y) 8), .int .i64 (Wid.dg (-y) 9)] 133)) bs2 d2 = X
      have hbX : Below wr.heap.size wr X := by rw [← hX]; (repeat' (first | (with_reducible exact Below.refl _ _) | (with_reducible assumption) | (with_reducible refine below_over ?_ _ _) | (with_reducible refine Lw.below_alloc ?_ _) | (with_reducible refine Below.drew ?_) | (with_reducible refine below_drewN ?_ _) | (with_reducible refine Below.setCell ?_ ?_ _) | go_size))
      have hR0 : ((grow wr bs1 d1).alloc (.cells #[.int .i64 (Wid.dg (-y) 0), .int .i64 (Wid.dg (-y) 1), .int .i64 (Wid.dg (-y) 2), .int .i64 (Wid.dg (-y) 3), .int .i64 (Wid.dg (-y) 4), .int .i64 (Wid.dg (-y) 5), .int .i64 (Wid.dg (-y) 6), .int .i64 (Wid.dg (-y) 7), .int .i64 (Wid.dg (-y) 8), .int .i64 (Wid.dg (-y) 9)] 133)).rangeAt (wr.heap.size + bs1.size) 0 [.int .i64 (Wid.dg (-y) 0), .int .i64 (Wid.dg (-y) 1), .int .i64 (Wid.dg (-y) 2), .int .i64 (Wid.dg (-y) 3), .int .i64 (Wid.dg (-y) 4), .int .i64 (Wid.dg (-y) 5), .int .i64 (Wid.dg (-y) 6), .int .i64 (Wid.dg (-y) 7), .int .i64 (Wid.dg (-y) 8), .int .i64 (Wid.dg (-y) 9)] := by
        have h := Wid.range_box (w := grow wr bs1 d1) (C := [.int .i64 (Wid.dg (-y) 0), .int .i64 (Wid.dg (-y) 1), .int .i64 (Wid.dg (-y) 2), .int .i64 (Wid.dg (-y) 3), .int .i64 (Wid.dg (-y) 4), .int .i64 (Wid.dg (-y) 5), .int .i64 (Wid.dg (-y) 6), .int .i64 (Wid.dg (-y) 7), .int .i64 (Wid.dg (-y) 8), .int .i64 (Wid.dg (-y) 9)]) (t := 133) (Below.refl _ _)
        rw [size_grow] at h
        exact h
      have hR : X.rangeAt (wr.heap.size + bs1.size) 0 [.int .i64 (Wid.dg (-y) 0), .int .i64 (Wid.dg (-y) 1), .int .i64 (Wid.dg (-y) 2), .int .i64 (Wid.dg (-y) 3), .int .i64 (Wid.dg (-y) 4), .int .i64 (Wid.dg (-y) 5), .int .i64 (Wid.dg (-y) 6), .int .i64 (Wid.dg (-y) 7), .int .i64 (Wid.dg (-y) 8), .int .i64 (Wid.dg (-y) 9)] := by rw [← hX]; exact Wid.range_call hR0 (grow_below _ _ _)
      clear hX hR0
      have x1 := cell_up hb6 hbX
      have x3 := cell_up hcx hbX
      have hu57 := Wid.long_u
      have hi57 : (Tryz.prog.info? 133).map (·.size) = some ([.int .i64 (Wid.dg (-y) 0), .int .i64 (Wid.dg (-y) 1), .int .i64 (Wid.dg (-y) 2), .int .i64 (Wid.dg (-y) 3), .int .i64 (Wid.dg (-y) 4), .int .i64 (Wid.dg (-y) 5), .int .i64 (Wid.dg (-y) 6), .int .i64 (Wid.dg (-y) 7), .int .i64 (Wid.dg (-y) 8), .int .i64 (Wid.dg (-y) 9)] : List Value).length := Wid.long_i
      go_cut [10, 11] (fun s12 s13 wx => s12 = .int .i64 (Wid.f64 (x + (-y))) ∧ s13 = .bool (Wid.fit64 (x + (-y))) ∧ Below wr.heap.size wr wx)
      case first =>
        go_region_held3 (fun w' => w'.cell? ⟨b, 6, none⟩ = some (.slice (some gad) L.length cap) ∧ w'.cell? (gad.add j) = some (.int .i64 x) ∧ w'.rangeAt (wr.heap.size + bs1.size) 0 [.int .i64 (Wid.dg (-y) 0), .int .i64 (Wid.dg (-y) 1), .int .i64 (Wid.dg (-y) 2), .int .i64 (Wid.dg (-y) 3), .int .i64 (Wid.dg (-y) 4), .int .i64 (Wid.dg (-y) 5), .int .i64 (Wid.dg (-y) 6), .int .i64 (Wid.dg (-y) 7), .int .i64 (Wid.dg (-y) 8), .int .i64 (Wid.dg (-y) 9)]) ((refine ⟨cell_up x1 ?_, cell_up x3 ?_, Wid.range_call hR ?_⟩ <;> (repeat' (first | (with_reducible exact Below.refl _ _) | (with_reducible assumption) | (with_reducible refine below_over ?_ _ _) | (with_reducible refine Lw.below_alloc ?_ _) | (with_reducible refine Below.drew ?_) | (with_reducible refine below_drewN ?_ _) | (with_reducible refine Below.setCell ?_ ?_ _) | go_size)))) (first
          | (go_at_call 70; (with_reducible refine (Wid.rofint_any x _ hxb.1 hxb.2).mono ?_); rintro e w' ⟨rfl, hbx⟩; obtain ⟨bs3, d3, rfl⟩ := below_grow hbx; clear hbx)
          | (go_at_call 73; (with_reducible refine (Wid.rplus_any x (-y) _ _ _ _ _ _ _ _ _ _ _ _ _ _ _ _ _ _ _ _ _ rfl rfl).mono ?_); rintro e w' ⟨rfl, hbx⟩; obtain ⟨bs4, d4, rfl⟩ := below_grow hbx; clear hbx)
          | (go_at_call 72; (with_reducible refine (Wid.rint_any (x + (-y)) _ _ _ _ _ _ _ _ _ _ _ rfl (by omega) (by omega)).mono ?_); rintro e w' ⟨rfl, hbx⟩; obtain ⟨bs5, d5, rfl⟩ := below_grow hbx; clear hbx))
        all_goals go_wp2
        all_goals go_meet
        all_goals refine ⟨rfl, rfl, below_call hbX (w1 := _) ?_ (Nat.le_refl _)⟩
        all_goals (repeat' (first | (with_reducible exact Below.refl _ _) | (with_reducible assumption) | (with_reducible refine below_over ?_ _ _) | (with_reducible refine Lw.below_alloc ?_ _) | (with_reducible refine Below.drew ?_) | (with_reducible refine below_drewN ?_ _) | (with_reducible refine Below.setCell ?_ ?_ _) | go_size))
      case rest =>
        obtain ⟨rfl, rfl, hbc⟩ := hcut
        have hownc := (Kept.of_below (F := fun _ => False) hbc).own hown (fun _ _ h => h)
        have hbw2 := below_call hbi hbc (Nat.le_refl _)
        have HNX := Lib.hid (rowS_next (s := (-1)) hx hy)
        have hbcs := hbw2.size
        cases hf : Wid.fit64 (x + (-y))
        · have HNF : Hid (O = false) := Lib.hid (by rw [← HO.out]; exact row_no hx hy (by rw [hz]; exact hf))
          clear hx hy
          go_wp2
          go_ret
          exact Or.inr ⟨HNF.out, rfl, hbw2⟩
        · have e64 : Wid.f64 (x + (-y)) = x + (-y) := by unfold Wid.f64; rw [if_pos hf]
          rw [e64]
          clear hx hy
          go_wp2_with (at_builtin; (refine app_one .i64 rfl _ _ 45 rfl w.heap.size 2 i0 8 i64s_u hi hi0 hi1 hi2 (.slice (some ⟨gr, 0, none⟩) j cp) j (rowS (-1) (L.take j) (M.take j)) rfl (hownc.alloc _) (x + (-y)) wc.heap.size rfl (cell_one_new _ _ _) (by unfold maxLen; omega) (by omega) (by simp; omega) ?_); intro v1 w1 own1 grow1 oth1; obtain ⟨gg, cc, rfl, hgg, hgl⟩ := own1.form (by omega); have hb1 : Below w.heap.size w w1 := app_below3 (Lw.below_alloc hbw2 _) grow1 (fun q hq => own_ge hownc q hq))
          go_roundw
          case rel => exact ⟨j + 1, gg, cc, by omega, by go_num, rfl, by rw [HNX.out, hz]; exact own1, by rw [HNX.out, hz, List.all_append, hfit]; simp [hf], hgg, hb1⟩
          case measure => simp [intOf]; omega
    · have e : L.length = j := by omega
      have hall : L.take j = L ∧ M.take j = M := ⟨List.take_of_length_le (by omega), List.take_of_length_le (by have := HLN.out; omega)⟩
      rw [hall.1, hall.2] at hown hfit
      obtain ⟨g7, hA7, hg7, hm7⟩ := Ord.mid_own hown
      injection hA7 with hA7
      subst hA7
      have hB := (Kept.of_below (F := fun _ => False) hbi).heap HB.out (fun h => h)
      have hfz : wr.frozen? ⟨b, 6, none⟩ = false := boxs_frozen (e := 101) (vs := #[.int .i64 c.bt, .int .i64 c.rw, .int .i64 c.wd, .int .i64 c.md, .int .u64 c.sd, .int .i64 l, .slice (some ⟨g, 0, none⟩) L.length cap]) hB 6
      have hlr : (rowS (-1) L M).length = j := by unfold rowS; rw [List.length_zipWith]; have := HLN.out; omega
      have hcp := own_cap hown
      have E : Hid (∃ F', DA (wr.setCell ⟨b, 6, none⟩ (.slice (some ⟨gr, 0, none⟩) j cp)) ⟨b, 0, none⟩ F' c l (rowS (-1) L M) ∧ Kept (fun k => k = b ∨ k = g) w (wr.setCell ⟨b, 6, none⟩ (.slice (some ⟨gr, 0, none⟩) j cp)) ∧ (∀ q, F' q → (q = b ∨ q = g) ∨ w.heap.size ≤ q)) := Lib.hid (by
        have hs := boxs_set (e := 101) (vs := #[.int .i64 c.bt, .int .i64 c.rw, .int .i64 c.wd, .int .i64 c.md, .int .u64 c.sd, .int .i64 l, .slice (some ⟨g, 0, none⟩) L.length cap]) hB 6 (.slice (some ⟨gr, 0, none⟩) j cp)
        have hk : Kept (fun q => q = b) wr (wr.setCell ⟨b, 6, none⟩ (.slice (some ⟨gr, 0, none⟩) j cp)) := (Kept.refl (fun q => q = b) wr).set (.inl rfl) _ _
        refine ⟨fun k => k = b ∨ k = gr, ⟨H1.out, by rw [hlr]; omega, in64_all hfit, b, gr, cp, rfl, ?_, hm7.keep hk (fun e => by omega), by rw [hlr]; exact hcp.1, hcp.2, by omega, rfl⟩, (Kept.of_below hbi).trans (hk.mono (fun q _ e => .inl e)) (fun q hq e => e), fun q hq => by
          rcases hq with h | h
          · exact .inl (.inl h)
          · exact .inr (by omega)⟩
        rw [hlr]
        exact hs)
      have HF : Hid (O = true) := Lib.hid (by rw [← HO.out]; exact hfit)
      clear hown hfit hm7 hB hcp hlr hall
      subst e
      go_wp2
      go_ret
      exact Or.inl ⟨HF.out, rfl, E.out⟩
theorem ajoin_plus (p q : Addr) (F G : Nat → Prop) (c : Cfg) (l : Int) (L M : List Int) (w : World) (h : DA w p F c l L) (h9 : DA w q G c l M) (hlen : L.length = M.length) :
    Calls Tryz.prog 45 #[.pointer (some p), .pointer (some q), .int .i64 1] w fun e w' => e = .returned (.int .i64 (exJ 1 L M)) ∧ ∃ F', DA w' p F' c l (exM 1 L M) ∧ Kept F w w' ∧ (∀ q, F' q → F q ∨ w.heap.size ≤ q) :=
  (ajoin_p p q F G c l L M w h h9 hlen).mono fun e w' hh => by
    unfold exJ exM
    rcases hh with ⟨h1, h2, h3⟩ | ⟨h1, h2, h3⟩
    · rw [if_pos h1, if_pos h1]
      exact ⟨h2, h3⟩
    · have hn : ¬ (rowS 1 L M).all Wid.fit64 = true := by rw [h1]; decide
      rw [if_neg hn, if_neg hn]
      exact ⟨h2, F, h.up h3, Kept.of_below h3, fun q hq => .inl hq⟩
theorem ajoin_minus (p q : Addr) (F G : Nat → Prop) (c : Cfg) (l : Int) (L M : List Int) (w : World) (h : DA w p F c l L) (h9 : DA w q G c l M) (hlen : L.length = M.length) (hm2 : ¬ c.md = 2) :
    Calls Tryz.prog 45 #[.pointer (some p), .pointer (some q), .int .i64 (-1)] w fun e w' => e = .returned (.int .i64 (exJ (-1) L M)) ∧ ∃ F', DA w' p F' c l (exM (-1) L M) ∧ Kept F w w' ∧ (∀ q, F' q → F q ∨ w.heap.size ≤ q) :=
  (ajoin_m p q F G c l L M w h h9 hlen hm2).mono fun e w' hh => by
    unfold exJ exM
    rcases hh with ⟨h1, h2, h3⟩ | ⟨h1, h2, h3⟩
    · rw [if_pos h1, if_pos h1]
      exact ⟨h2, h3⟩
    · have hn : ¬ (rowS (-1) L M).all Wid.fit64 = true := by rw [h1]; decide
      rw [if_neg hn, if_neg hn]
      exact ⟨h2, F, h.up h3, Kept.of_below h3, fun q hq => .inl hq⟩
set_option maxRecDepth 100000 in
set_option maxHeartbeats 4000000 in
theorem ajoin_con (p q : Addr) (F G : Nat → Prop) (c : Cfg) (l : Int) (L M : List Int) (w : World) (h : DA w p F c l L) (h9 : DA w q G c l M) (hm2 : c.md = 2) :
    Calls Tryz.prog 45 #[.pointer (some p), .pointer (some q), .int .i64 (-1)] w fun e w' => e = .returned (.int .i64 3) ∧ Below w.heap.size w w' := by
  obtain ⟨h1, h2, h3, b, g, cap, rfl, hb, hm, h4, h5, h6, rfl⟩ := h
  obtain ⟨-, k2, k3, b2, g2, cap2, rfl, hbk, hmk, k4, k5, k6, rfl⟩ := h9
  have hbl := size_of_heap hb
  have c0 := grd_cell hb 0 (v := .int .i64 c.bt) rfl
  have c1 := grd_cell hb 1 (v := .int .i64 c.rw) rfl
  have c2 := grd_cell hb 2 (v := .int .i64 c.wd) rfl
  have c3 := grd_cell hb 3 (v := .int .i64 c.md) rfl
  have c4 := grd_cell hb 4 (v := .int .u64 c.sd) rfl
  have c5 := grd_cell hb 5 (v := .int .i64 l) rfl
  have c6 := grd_cell hb 6 (v := .slice (some ⟨g, 0, none⟩) L.length cap) rfl
  have e0 := grd_cell hbk 0 (v := .int .i64 c.bt) rfl
  have e1 := grd_cell hbk 1 (v := .int .i64 c.rw) rfl
  have e2 := grd_cell hbk 2 (v := .int .i64 c.wd) rfl
  have e3 := grd_cell hbk 3 (v := .int .i64 c.md) rfl
  have e4 := grd_cell hbk 4 (v := .int .u64 c.sd) rfl
  have e5 := grd_cell hbk 5 (v := .int .i64 l) rfl
  have e6 := grd_cell hbk 6 (v := .slice (some ⟨g2, 0, none⟩) M.length cap2) rfl
  have hmb : (c.md == 2) = true := by simp [hm2]
  clear hb hbk hm hmk h1 h3 k3 hm2
  go_enter Tryz.func45, Tryz.ntmps45
  go_wp2
  go_quiet (fail)
  all_goals go_wp2
  all_goals go_ret
  all_goals exact ⟨rfl, by repeat' (first | (with_reducible exact Below.refl _ _) | (with_reducible assumption) | (with_reducible refine below_over ?_ _ _) | (with_reducible refine Lw.below_alloc ?_ _) | (with_reducible refine Below.drew ?_) | (with_reducible refine below_drewN ?_ _) | (with_reducible refine Below.setCell ?_ ?_ _) | go_size)⟩
end Go.Proofs.YtkannodfamnmcaaGreat.Exa
/- What the statements of layer 12 lean on: the level that is picked, and what must be in any case. Printed by wip/gen/exalawa.py. -/
namespace Go.Proofs.YtkannodfamnmcaaGreat.Exa
open Go Go.RowKit Lw Grd Lin Con Shp Sk
set_option linter.unusedVariables false
set_option linter.unusedSimpArgs false
def eA : Cfg := ⟨2, 1, 2, 1, 0⟩
theorem u1 : exCode eA.md [0, 0] 1 5 = 0 ∧ exRes eA.md [0, 0] 1 5 = [0, 5] := by decide
end Go.Proofs.YtkannodfamnmcaaGreat.Exa
/- What several laws of layer 12 share. Printed by wip/gen/exalaws.py. -/
namespace Go.Proofs.YtkannodfamnmcaaGreat.Exa
open Go Go.RowKit Lw Grd Lin Con Shp Sk
set_option linter.unusedVariables false
set_option linter.unusedSimpArgs false
theorem Have.perm {w0 w : World} {ts us : List Thing} (hp : ts.Perm us) : Have w0 w ts → Have w0 w us := by
  induction hp with
  | nil => exact fun h => h
  | cons t hp ih =>
    intro h
    exact ⟨h.1, h.2.1, fun u hu => h.2.2.1 u (hp.mem_iff.2 hu), ih h.2.2.2⟩
  | swap a b l =>
    intro h
    obtain ⟨h1, h2, h3, h4, h5, h6, h7⟩ := h
    exact ⟨h4, h5, fun u hu => by
      rcases List.mem_cons.1 hu with rfl | hu
      · exact fun k hk hk2 => h3 a (by simp) k hk2 hk
      · exact h6 u hu, h1, h2, fun u hu => h3 u (by simp [hu]), h7⟩
  | trans _ _ ih1 ih2 => exact fun h => ih2 (ih1 h)
abbrev Opk := Int × Int × Int
/-- A row of ops, handed in. -/
structure OpkV (w : World) (A : Option Addr) (n c : Nat) (qs : List Opk) : Prop where
  nil : A = none → n = 0 ∧ c = 0
  nc : n ≤ c
  cm : c ≤ maxLen
  len : qs.length = n
  each : ∀ (i : Nat) q, qs[i]? = some q → ∃ a, A = some a ∧ w.cell? (a.add (i * 3)) = some (.int .i64 (q.1)) ∧ w.cell? (a.add (i * 3 + 1)) = some (.int .u64 (q.2.1)) ∧ w.cell? (a.add (i * 3 + 2)) = some (.int .i64 (q.2.2)) ∧ (-9223372036854775808 ≤ (q.1) ∧ (q.1) ≤ 9223372036854775807) ∧ (0 ≤ (q.2.1) ∧ (q.2.1) ≤ 18446744073709551615) ∧ (-9223372036854775808 ≤ (q.2.2) ∧ (q.2.2) ≤ 9223372036854775807)
theorem OpkV.at {w : World} {A : Option Addr} {n c : Nat} {qs : List Opk} (h : OpkV w A n c qs) {i : Nat} {q : Opk} (hq : qs[i]? = some q) : ∃ (a : Addr) (g o : Nat), A = some a ∧ a.add (i * 3) = ⟨g, o, none⟩ ∧ w.cell? ⟨g, o, none⟩ = some (.int .i64 q.1) ∧ w.cell? ⟨g, o + 1, none⟩ = some (.int .u64 q.2.1) ∧ w.cell? ⟨g, o + 2, none⟩ = some (.int .i64 q.2.2) ∧ (0 ≤ q.2.1 ∧ q.2.1 ≤ 18446744073709551615) ∧ (-9223372036854775808 ≤ q.2.2 ∧ q.2.2 ≤ 9223372036854775807) := by
  obtain ⟨a, e, h1, h2, h3, _, h5, h6⟩ := h.each i q hq
  rw [← add_add'] at h2 h3
  have hs : (a.add (i * 3)).spot = none := by
    unfold World.cell? at h1
    split at h1
    · split at h1
      · cases h1
      · rename_i hs; simpa using hs
    · cases h1
  obtain ⟨ad, had⟩ : ∃ ad, a.add (i * 3) = ad := ⟨_, rfl⟩
  rw [had] at h1 h2 h3 hs
  obtain ⟨g, o, sp⟩ := ad
  simp only at hs
  subst hs
  rw [Ord.add_at] at h2 h3
  exact ⟨a, g, o, e, had, h1, h2, h3, h5, h6⟩
def ptV (L : List Int) (k : Int) : Int := if (L.length : Int) ≤ k then 0 else num L k
def ptC (L : List Int) (k : Int) : Int := if (L.length : Int) ≤ k then 2 else 0
theorem epoint_any (p : Addr) (F : Nat → Prop) (c : Cfg) (l : Int) (L : List Int) (k : Int) (w : World) (h : EX w p F c l L) (k0 : 0 ≤ k) (k1 : k ≤ 18446744073709551615) :
    Calls Tryz.prog 182 #[.pointer (some p), .int .u64 k] w fun e w' => e = .returned (.tuple #[.int .i64 (ptV L k), .int .i64 (ptC L k)]) ∧ Below w.heap.size w w' := by
  unfold ptV ptC
  by_cases hk : (L.length : Int) ≤ k
  · rw [if_pos hk, if_pos hk]
    exact epoint_no p F c l L k w h k0 k1 hk
  · rw [if_neg hk, if_neg hk]
    exact epoint_yes p F c l L k w h k0 k1 (by omega)
theorem apoint_any (p : Addr) (F : Nat → Prop) (c : Cfg) (l : Int) (L : List Int) (k : Int) (w : World) (h : DA w p F c l L) (k0 : 0 ≤ k) (k1 : k ≤ 18446744073709551615) :
    Calls Tryz.prog 36 #[.pointer (some p), .int .u64 k] w fun e w' => e = .returned (.tuple #[.int .i64 (ptV L k), .int .i64 (ptC L k)]) ∧ Below w.heap.size w w' := by
  unfold ptV ptC
  by_cases hk : (L.length : Int) ≤ k
  · rw [if_pos hk, if_pos hk]
    exact apoint_no p F c l L k w h k0 k1 hk
  · rw [if_neg hk, if_neg hk]
    exact apoint_yes p F c l L k w h k0 k1 (by omega)
theorem plays_perm (q r o p c x : Thing) : [q, r, o, p, c, x].Perm [r, p, q, o, c, x] :=
  ((List.perm_append_comm (l₁ := [q]) (l₂ := [r])).append_right [o, p, c, x]).trans (List.Perm.cons r ((List.perm_append_comm (l₁ := [q, o]) (l₂ := [p])).append_right [c, x]))
end Go.Proofs.YtkannodfamnmcaaGreat.Exa
/- The walks of package level (the code's): a level is an interface value that holds a pointer to an array or to a sketch. Printed by wip/gen/levcode.py. -/
namespace Go.Proofs.YtkannodfamnmcaaGreat.Lev
open Go Go.RowKit Lw Grd Lin Con Shp Sk Exa
set_option linter.unusedVariables false
set_option linter.unusedSimpArgs false
theorem ta_AA (w : World) (p : Addr) : (Instr.typeAssert (.iface 76 (.pointer (some p))) 29 76 true).run Tryz.prog w = .ok (.tuple #[.pointer (some p), .bool true]) w := by kernel_rfl
theorem ta_AS (w : World) (p : Addr) : (Instr.typeAssert (.iface 76 (.pointer (some p))) 29 68 true).run Tryz.prog w = .ok (.tuple #[.pointer none, .bool false]) w := by kernel_rfl
theorem ta_SS (w : World) (p : Addr) : (Instr.typeAssert (.iface 68 (.pointer (some p))) 29 68 true).run Tryz.prog w = .ok (.tuple #[.pointer (some p), .bool true]) w := by kernel_rfl
theorem ta_SA (w : World) (p : Addr) : (Instr.typeAssert (.iface 68 (.pointer (some p))) 29 76 true).run Tryz.prog w = .ok (.tuple #[.pointer none, .bool false]) w := by kernel_rfl
theorem ta_S1 (w : World) (p : Addr) : (Instr.typeAssert (.iface 68 (.pointer (some p))) 29 68 false).run Tryz.prog w = .ok (.pointer (some p)) w := by kernel_rfl
theorem ta_NA (w : World) : (Instr.typeAssert (.nilIface) 29 76 true).run Tryz.prog w = .ok (.tuple #[.pointer none, .bool false]) w := by kernel_rfl
theorem ta_NS (w : World) : (Instr.typeAssert (.nilIface) 29 68 true).run Tryz.prog w = .ok (.tuple #[.pointer none, .bool false]) w := by kernel_rfl
set_option maxRecDepth 100000 in
theorem vas_S (p : Addr) (w : World) : Calls Tryz.prog 25 #[.iface 68 (.pointer (some p))] w fun e w' => e = .returned (.tuple #[.pointer (some p), .bool true]) ∧ Below w.heap.size w w' := by
  have fAA := ta_AA
  have fAS := ta_AS
  have fSS := ta_SS
  have fSA := ta_SA
  have fS1 := ta_S1
  have fNA := ta_NA
  have fNS := ta_NS
  go_enter Tryz.func25, Tryz.ntmps25
  go_wp2
  go_ret2
  exact ⟨rfl, (by repeat' (first | (with_reducible exact Below.refl _ _) | (with_reducible assumption) | (with_reducible refine below_over ?_ _ _) | (with_reducible refine Lw.below_alloc ?_ _) | (with_reducible refine Below.drew ?_) | (with_reducible refine below_drewN ?_ _) | (with_reducible refine Below.setCell ?_ ?_ _) | go_size))⟩
set_option maxRecDepth 100000 in
theorem vas_A (p : Addr) (w : World) : Calls Tryz.prog 25 #[.iface 76 (.pointer (some p))] w fun e w' => e = .returned (.tuple #[.pointer none, .bool false]) ∧ Below w.heap.size w w' := by
  have fAA := ta_AA
  have fAS := ta_AS
  have fSS := ta_SS
  have fSA := ta_SA
  have fS1 := ta_S1
  have fNA := ta_NA
  have fNS := ta_NS
  go_enter Tryz.func25, Tryz.ntmps25
  go_wp2
  go_ret2
  exact ⟨rfl, (by repeat' (first | (with_reducible exact Below.refl _ _) | (with_reducible assumption) | (with_reducible refine below_over ?_ _ _) | (with_reducible refine Lw.below_alloc ?_ _) | (with_reducible refine Below.drew ?_) | (with_reducible refine below_drewN ?_ _) | (with_reducible refine Below.setCell ?_ ?_ _) | go_size))⟩
set_option maxRecDepth 100000 in
theorem vmust_S (p : Addr) (w : World) : Calls Tryz.prog 26 #[.iface 68 (.pointer (some p))] w fun e w' => e = .returned (.pointer (some p)) ∧ Below w.heap.size w w' := by
  have fAA := ta_AA
  have fAS := ta_AS
  have fSS := ta_SS
  have fSA := ta_SA
  have fS1 := ta_S1
  have fNA := ta_NA
  have fNS := ta_NS
  go_enter Tryz.func26, Tryz.ntmps26
  go_wp2
  go_ret
  exact ⟨rfl, (by repeat' (first | (with_reducible exact Below.refl _ _) | (with_reducible assumption) | (with_reducible refine below_over ?_ _ _) | (with_reducible refine Lw.below_alloc ?_ _) | (with_reducible refine Below.drew ?_) | (with_reducible refine below_drewN ?_ _) | (with_reducible refine Below.setCell ?_ ?_ _) | go_size))⟩
set_option maxRecDepth 100000 in
theorem veith_A (p : Addr) (w : World) : Calls Tryz.prog 49 #[.iface 76 (.pointer (some p))] w fun e w' => e = .returned (.tuple #[.pointer none, .pointer (some p)]) ∧ Below w.heap.size w w' := by
  have fAA := ta_AA
  have fAS := ta_AS
  have fSS := ta_SS
  have fSA := ta_SA
  have fS1 := ta_S1
  have fNA := ta_NA
  have fNS := ta_NS
  go_enter Tryz.func49, Tryz.ntmps49
  go_wp2
  go_ret2
  exact ⟨rfl, (by repeat' (first | (with_reducible exact Below.refl _ _) | (with_reducible assumption) | (with_reducible refine below_over ?_ _ _) | (with_reducible refine Lw.below_alloc ?_ _) | (with_reducible refine Below.drew ?_) | (with_reducible refine below_drewN ?_ _) | (with_reducible refine Below.setCell ?_ ?_ _) | go_size))⟩
set_option maxRecDepth 100000 in
theorem veith_S (p : Addr) (w : World) : Calls Tryz.prog 49 #[.iface 68 (.pointer (some p))] w fun e w' => e = .returned (.tuple #[.pointer (some p), .pointer none]) ∧ Below w.heap.size w w' := by
  have fAA := ta_AA
  have fAS := ta_AS
  have fSS := ta_SS
  have fSA := ta_SA
  have fS1 := ta_S1
  have fNA := ta_NA
  have fNS := ta_NS
  go_enter Tryz.func49, Tryz.ntmps49
  go_wp2
  go_ret2
  exact ⟨rfl, (by repeat' (first | (with_reducible exact Below.refl _ _) | (with_reducible assumption) | (with_reducible refine below_over ?_ _ _) | (with_reducible refine Lw.below_alloc ?_ _) | (with_reducible refine Below.drew ?_) | (with_reducible refine below_drewN ?_ _) | (with_reducible refine Below.setCell ?_ ?_ _) | go_size))⟩
set_option maxRecDepth 100000 in
set_option maxHeartbeats 4000000 in
theorem vcopy_A (p : Addr) (F : Nat → Prop) (c : Cfg) (l : Int) (L : List Int) (w : World) (h : EX w p F c l L) :
    Calls Tryz.prog 17 #[.iface 76 (.pointer (some p))] w fun e w' => ∃ (q : Addr) (G : Nat → Prop), e = .returned (.iface 76 (.pointer (some q))) ∧ EX w' q G c l L ∧ (∀ k, G k → w.heap.size ≤ k) ∧ Below w.heap.size w w' := by
  have C := Lib.hid (fun w' (hb : Below w.heap.size w w') => ecopy_any p F c l L w' (h.up hb))
  clear h
  go_enter Tryz.func17, Tryz.ntmps17
  go_wp2_with (first
    | (go_at_call 49; (with_reducible refine (veith_A p _).mono ?_); rintro e w1 ⟨rfl, hb9⟩; have HB1 := Lib.hid hb9; clear hb9)
    | (go_at_call 51; (with_reducible refine (C.out _ HB1.out).mono ?_); rintro e w2 ⟨q, G, rfl, h1, h2, hb9⟩; have H1 := Lib.hid h1; have H2 : Hid (∀ k, G k → w.heap.size ≤ k) := Lib.hid (fun k hk => Nat.le_trans HB1.out.size (h2 k hk)); have HB := Lib.hid (below_call HB1.out hb9 (Nat.le_refl _)); clear h1 h2 hb9))
  go_ret
  exact ⟨q, G, rfl, H1.out, H2.out, HB.out⟩
set_option maxRecDepth 100000 in
set_option maxHeartbeats 4000000 in
theorem vcopy_S (p : Addr) (F : Nat → Prop) (c : Cfg) (l : Int) (L : List (List Int)) (w : World) (h : SK w p F c l L) :
    Calls Tryz.prog 17 #[.iface 68 (.pointer (some p))] w fun e w' => ∃ (q : Addr) (G : Nat → Prop), e = .returned (.iface 68 (.pointer (some q))) ∧ SK w' q G c l L ∧ (∀ k, G k → w.heap.size ≤ k) ∧ Below w.heap.size w w' := by
  have C := Lib.hid (fun w' (hb : Below w.heap.size w w') => scopy_any p F c l L w' (h.up hb))
  clear h
  go_enter Tryz.func17, Tryz.ntmps17
  go_wp2_with (first
    | (go_at_call 49; (with_reducible refine (veith_S p _).mono ?_); rintro e w1 ⟨rfl, hb9⟩; have HB1 := Lib.hid hb9; clear hb9)
    | (go_at_call 50; (with_reducible refine (C.out _ HB1.out).mono ?_); rintro e w2 ⟨q, G, rfl, h1, h2, hb9⟩; have H1 := Lib.hid h1; have H2 : Hid (∀ k, G k → w.heap.size ≤ k) := Lib.hid (fun k hk => Nat.le_trans HB1.out.size (h2 k hk)); have HB := Lib.hid (below_call HB1.out hb9 (Nat.le_refl _)); clear h1 h2 hb9))
  go_ret
  exact ⟨q, G, rfl, H1.out, H2.out, HB.out⟩
set_option maxRecDepth 100000 in
set_option maxHeartbeats 4000000 in
theorem vnew_A (c : Cfg) (l : Int) (w : World) (h : c.Ok) (l0 : -9223372036854775808 ≤ l) (l1 : l ≤ 9223372036854775807) (hx : exactB c l = true) :
    Calls Tryz.prog 9 #[.agg #[.int .i64 c.bt, .int .i64 c.rw, .int .i64 c.wd, .int .i64 c.md, .int .u64 c.sd], .int .i64 l] w fun e w' => ∃ (p : Addr) (F : Nat → Prop), e = .returned (.tuple #[.iface 76 (.pointer (some p)), .int .i64 0]) ∧ EX w' p F c l (List.replicate (keys c l).toNat 0) ∧ (∀ k, F k → w.heap.size ≤ k) ∧ Below w.heap.size w w' := by
  have hk : 1 ≤ keys c l := (of_decide_eq_true hx).1
  have CK := Lib.hid (fun w => keys_any c l w h l0 l1)
  have CX := Lib.hid (fun w => exact_any c l w h l0 l1)
  have hkb : (keys c l == 0) = false := by simp; omega
  rw [hx] at CX
  have CN := Lib.hid (fun w => enew_yes c l w h l0 l1 hx)
  obtain ⟨K, hK⟩ : ∃ x, keys c l = x := ⟨_, rfl⟩
  rw [hK] at CK hkb
  have HBX : Hid (Have w (w.alloc (.cells #[.int .i64 c.bt, .int .i64 c.rw, .int .i64 c.wd, .int .i64 c.md, .int .u64 c.sd] 24)) [boxT w.heap.size 24 #[.int .i64 c.bt, .int .i64 c.rw, .int .i64 c.wd, .int .i64 c.md, .int .u64 c.sd]]) := Lib.hid (box_new w _ _)
  clear hx h hk hK
  go_enter Tryz.func9, Tryz.ntmps9
  go_wp2_with (first
    | (go_at_call 28; (with_reducible refine (CK.out _).mono ?_); rintro e w1 ⟨rfl, hb9⟩; have HV1 := Lib.hid (HBX.out.up hb9); obtain ⟨x0, x1, x2, x3, x4⟩ := box5 HV1.out.i0; clear hb9)
    | (go_at_call 29; (with_reducible refine (CX.out _).mono ?_); rintro e w2 ⟨rfl, hb9⟩; clear x0 x1 x2 x3 x4; have HV2 := Lib.hid (HV1.out.up hb9); obtain ⟨x0, x1, x2, x3, x4⟩ := box5 HV2.out.i0; clear hb9)
    | (go_at_call 30; (with_reducible refine (CN.out _).mono ?_); rintro e w3 ⟨p, F, rfl, h1, h2, hb9⟩; have H1 := Lib.hid h1; have H2 : Hid (∀ k, F k → w.heap.size ≤ k) := Lib.hid (fun k hk => Nat.le_trans HV2.out.below.size (h2 k hk)); have HB2 := Lib.hid (below_call HV2.out.below hb9 (Nat.le_refl _)); clear h1 h2 hb9))
  go_ret2
  exact ⟨p, F, rfl, H1.out, H2.out, HB2.out⟩
set_option maxRecDepth 100000 in
set_option maxHeartbeats 4000000 in
theorem vnew_S (c : Cfg) (l : Int) (w : World) (h : c.Ok) (l0 : -9223372036854775808 ≤ l) (l1 : l ≤ 9223372036854775807) (hk : 1 ≤ keys c l) (hx : exactB c l = false) :
    Calls Tryz.prog 9 #[.agg #[.int .i64 c.bt, .int .i64 c.rw, .int .i64 c.wd, .int .i64 c.md, .int .u64 c.sd], .int .i64 l] w fun e w' => ∃ (p : Addr) (F : Nat → Prop), e = .returned (.tuple #[.iface 68 (.pointer (some p)), .int .i64 0]) ∧ SK w' p F c l (zerosL (rws c) (wds c)) ∧ (∀ k, F k → w.heap.size ≤ k) ∧ Below w.heap.size w w' := by
  have CK := Lib.hid (fun w => keys_any c l w h l0 l1)
  have CX := Lib.hid (fun w => exact_any c l w h l0 l1)
  have hkb : (keys c l == 0) = false := by simp; omega
  rw [hx] at CX
  have CN := Lib.hid (fun w => snew_yes c l w h l0 l1 hk)
  obtain ⟨K, hK⟩ : ∃ x, keys c l = x := ⟨_, rfl⟩
  rw [hK] at CK hkb
  have HBX : Hid (Have w (w.alloc (.cells #[.int .i64 c.bt, .int .i64 c.rw, .int .i64 c.wd, .int .i64 c.md, .int .u64 c.sd] 24)) [boxT w.heap.size 24 #[.int .i64 c.bt, .int .i64 c.rw, .int .i64 c.wd, .int .i64 c.md, .int .u64 c.sd]]) := Lib.hid (box_new w _ _)
  clear hx h hk hK
  go_enter Tryz.func9, Tryz.ntmps9
  go_wp2_with (first
    | (go_at_call 28; (with_reducible refine (CK.out _).mono ?_); rintro e w1 ⟨rfl, hb9⟩; have HV1 := Lib.hid (HBX.out.up hb9); obtain ⟨x0, x1, x2, x3, x4⟩ := box5 HV1.out.i0; clear hb9)
    | (go_at_call 29; (with_reducible refine (CX.out _).mono ?_); rintro e w2 ⟨rfl, hb9⟩; clear x0 x1 x2 x3 x4; have HV2 := Lib.hid (HV1.out.up hb9); obtain ⟨x0, x1, x2, x3, x4⟩ := box5 HV2.out.i0; clear hb9)
    | (go_at_call 31; (with_reducible refine (CN.out _).mono ?_); rintro e w3 ⟨p, F, rfl, h1, h2, hb9⟩; have H1 := Lib.hid h1; have H2 : Hid (∀ k, F k → w.heap.size ≤ k) := Lib.hid (fun k hk => Nat.le_trans HV2.out.below.size (h2 k hk)); have HB2 := Lib.hid (below_call HV2.out.below hb9 (Nat.le_refl _)); clear h1 h2 hb9))
  go_ret2
  exact ⟨p, F, rfl, H1.out, H2.out, HB2.out⟩
set_option maxRecDepth 100000 in
set_option maxHeartbeats 4000000 in
theorem vnew_N (c : Cfg) (l : Int) (w : World) (h : c.Ok) (l0 : -9223372036854775808 ≤ l) (l1 : l ≤ 9223372036854775807) (hk : keys c l = 0) :
    Calls Tryz.prog 9 #[.agg #[.int .i64 c.bt, .int .i64 c.rw, .int .i64 c.wd, .int .i64 c.md, .int .u64 c.sd], .int .i64 l] w fun e w' => e = .returned (.tuple #[.nilIface, .int .i64 1]) ∧ Below w.heap.size w w' := by
  have CK := Lib.hid (fun w => keys_any c l w h l0 l1)
  rw [hk] at CK
  have HBX : Hid (Have w (w.alloc (.cells #[.int .i64 c.bt, .int .i64 c.rw, .int .i64 c.wd, .int .i64 c.md, .int .u64 c.sd] 24)) [boxT w.heap.size 24 #[.int .i64 c.bt, .int .i64 c.rw, .int .i64 c.wd, .int .i64 c.md, .int .u64 c.sd]]) := Lib.hid (box_new w _ _)
  clear  h hk
  go_enter Tryz.func9, Tryz.ntmps9
  go_wp2_with (go_at_call 28; (with_reducible refine (CK.out _).mono ?_); rintro e w1 ⟨rfl, hb9⟩; have HV1 := Lib.hid (HBX.out.up hb9); obtain ⟨x0, x1, x2, x3, x4⟩ := box5 HV1.out.i0; clear hb9)
  go_ret2
  have hb9 := HV1.out.below
  exact ⟨rfl, (by repeat' (first | (with_reducible exact Below.refl _ _) | (with_reducible assumption) | (with_reducible refine below_over ?_ _ _) | (with_reducible refine Lw.below_alloc ?_ _) | (with_reducible refine Below.drew ?_) | (with_reducible refine below_drewN ?_ _) | (with_reducible refine Below.setCell ?_ ?_ _) | go_size))⟩
set_option maxRecDepth 100000 in
set_option maxHeartbeats 4000000 in
theorem vjoinmerge_A (p : Addr) (F : Nat → Prop) (c : Cfg) (l : Int) (L : List Int) (q : Addr) (G : Nat → Prop) (c' : Cfg) (l' : Int) (M : List Int) (w : World) (h : EX w p F c l L) (g : EX w q G c' l' M) :
    Calls Tryz.prog 42 #[.iface 76 (.pointer (some p)), .iface 76 (.pointer (some q)), .func (.func 43) #[] #[], .func (.func 44) #[] #[]] w fun e w' => e = .returned (.int .i64 (mgC (1) c c' l l' L M)) ∧ ∃ F', EX w' p F' c l (mgR (1) c c' l l' L M) ∧ Kept F w w' ∧ (∀ k, F' k → F k ∨ w.heap.size ≤ k) := by
  have C := Lib.hid (fun w' (hb : Below w.heap.size w w') => emerge_any p F c l L q G c' l' M w' (h.up hb) (g.up hb))
  obtain ⟨E, hE⟩ : ∃ x, mgC (1) c c' l l' L M = x := ⟨_, rfl⟩
  obtain ⟨J, hJ⟩ : ∃ x, mgR (1) c c' l l' L M = x := ⟨_, rfl⟩
  rw [hE, hJ] at C ⊢
  clear h g hE hJ
  go_enter Tryz.func42, Tryz.ntmps42
  go_wp2_with (first
    | (go_at_call_of 49 (Value.iface 76 (.pointer (some p))); (with_reducible refine (veith_A p _).mono ?_); rintro e w1 ⟨rfl, hb9⟩; obtain ⟨bs1, d1, rfl⟩ := below_grow hb9; clear hb9)
    | (go_at_call_of 49 (Value.iface 76 (.pointer (some q))); (with_reducible refine (veith_A q _).mono ?_); rintro e w1 ⟨rfl, hb9⟩; obtain ⟨bs2, d2, rfl⟩ := below_grow hb9; clear hb9)
    | (go_at_call 44; (with_reducible refine (C.out _ (by repeat' (first | (with_reducible exact Below.refl _ _) | (with_reducible assumption) | (with_reducible refine below_over ?_ _ _) | (with_reducible refine Lw.below_alloc ?_ _) | (with_reducible refine Below.drew ?_) | (with_reducible refine below_drewN ?_ _) | (with_reducible refine Below.setCell ?_ ?_ _) | go_size))).mono ?_); rintro e w2 ⟨rfl, F2, h1, h2, h3⟩; have H1 := Lib.hid h1; have H2 := Lib.hid h2; have H3 := Lib.hid h3; clear h1 h2 h3))
  go_ret
  refine ⟨rfl, F2, H1.out, ?_, ?_⟩
  · have hb9 : Below w.heap.size w (grow w (bs1 ++ bs2) d2) := (by repeat' (first | (with_reducible exact Below.refl _ _) | (with_reducible assumption) | (with_reducible refine below_over ?_ _ _) | (with_reducible refine Lw.below_alloc ?_ _) | (with_reducible refine Below.drew ?_) | (with_reducible refine below_drewN ?_ _) | (with_reducible refine Below.setCell ?_ ?_ _) | go_size))
    exact Kept.trans (Kept.of_below (F := F) hb9) H2.out (fun _ _ h => h)
  · intro k hk
    rcases H3.out k hk with h | h
    · exact .inl h
    · exact .inr (Nat.le_trans (by go_size) h)
set_option maxRecDepth 100000 in
set_option maxHeartbeats 4000000 in
theorem vmerge_A (p : Addr) (F : Nat → Prop) (c : Cfg) (l : Int) (L : List Int) (q : Addr) (G : Nat → Prop) (c' : Cfg) (l' : Int) (M : List Int) (w : World) (h : EX w p F c l L) (g : EX w q G c' l' M) :
    Calls Tryz.prog 14 #[.iface 76 (.pointer (some p)), .iface 76 (.pointer (some q))] w fun e w' => e = .returned (.int .i64 (mgC (1) c c' l l' L M)) ∧ ∃ F', EX w' p F' c l (mgR (1) c c' l l' L M) ∧ Kept F w w' ∧ (∀ k, F' k → F k ∨ w.heap.size ≤ k) := by
  have C := Lib.hid (vjoinmerge_A p F c l L q G c' l' M w h g)
  obtain ⟨E, hE⟩ : ∃ x, mgC (1) c c' l l' L M = x := ⟨_, rfl⟩
  obtain ⟨J, hJ⟩ : ∃ x, mgR (1) c c' l l' L M = x := ⟨_, rfl⟩
  rw [hE, hJ] at C ⊢
  clear h g hE hJ
  go_enter Tryz.func14, Tryz.ntmps14
  go_wp2_with (go_at_call 42; (with_reducible refine (C.out).mono ?_); rintro e w2 ⟨rfl, F2, h1, h2, h3⟩; have H1 := Lib.hid h1; have H2 := Lib.hid h2; have H3 := Lib.hid h3; clear h1 h2 h3)
  go_ret
  exact ⟨rfl, F2, H1.out, H2.out, H3.out⟩
set_option maxRecDepth 100000 in
set_option maxHeartbeats 4000000 in
theorem vjoinmerge_S (p : Addr) (F : Nat → Prop) (c : Cfg) (l : Int) (L : List (List Int)) (q : Addr) (G : Nat → Prop) (c' : Cfg) (l' : Int) (M : List (List Int)) (w : World) (h : SK w p F c l L) (g : SK w q G c' l' M) :
    Calls Tryz.prog 42 #[.iface 68 (.pointer (some p)), .iface 68 (.pointer (some q)), .func (.func 43) #[] #[], .func (.func 44) #[] #[]] w fun e w' => e = .returned (.int .i64 (mgCode (1) c c' l l' L M)) ∧ ∃ F', SK w' p F' c l (mgRes (1) c c' l l' L M) ∧ Kept F w w' ∧ (∀ k, F' k → F k ∨ w.heap.size ≤ k) := by
  have C := Lib.hid (fun w' (hb : Below w.heap.size w w') => smerge_any p F c l L q G c' l' M w' (h.up hb) (g.up hb))
  obtain ⟨E, hE⟩ : ∃ x, mgCode (1) c c' l l' L M = x := ⟨_, rfl⟩
  obtain ⟨J, hJ⟩ : ∃ x, mgRes (1) c c' l l' L M = x := ⟨_, rfl⟩
  rw [hE, hJ] at C ⊢
  clear h g hE hJ
  go_enter Tryz.func42, Tryz.ntmps42
  go_wp2_with (first
    | (go_at_call_of 49 (Value.iface 68 (.pointer (some p))); (with_reducible refine (veith_S p _).mono ?_); rintro e w1 ⟨rfl, hb9⟩; obtain ⟨bs1, d1, rfl⟩ := below_grow hb9; clear hb9)
    | (go_at_call_of 49 (Value.iface 68 (.pointer (some q))); (with_reducible refine (veith_S q _).mono ?_); rintro e w1 ⟨rfl, hb9⟩; obtain ⟨bs2, d2, rfl⟩ := below_grow hb9; clear hb9)
    | (go_at_call 43; (with_reducible refine (C.out _ (by repeat' (first | (with_reducible exact Below.refl _ _) | (with_reducible assumption) | (with_reducible refine below_over ?_ _ _) | (with_reducible refine Lw.below_alloc ?_ _) | (with_reducible refine Below.drew ?_) | (with_reducible refine below_drewN ?_ _) | (with_reducible refine Below.setCell ?_ ?_ _) | go_size))).mono ?_); rintro e w2 ⟨rfl, F2, h1, h2, h3⟩; have H1 := Lib.hid h1; have H2 := Lib.hid h2; have H3 := Lib.hid h3; clear h1 h2 h3))
  go_ret
  refine ⟨rfl, F2, H1.out, ?_, ?_⟩
  · have hb9 : Below w.heap.size w (grow w (bs1 ++ bs2) d2) := (by repeat' (first | (with_reducible exact Below.refl _ _) | (with_reducible assumption) | (with_reducible refine below_over ?_ _ _) | (with_reducible refine Lw.below_alloc ?_ _) | (with_reducible refine Below.drew ?_) | (with_reducible refine below_drewN ?_ _) | (with_reducible refine Below.setCell ?_ ?_ _) | go_size))
    exact Kept.trans (Kept.of_below (F := F) hb9) H2.out (fun _ _ h => h)
  · intro k hk
    rcases H3.out k hk with h | h
    · exact .inl h
    · exact .inr (Nat.le_trans (by go_size) h)
set_option maxRecDepth 100000 in
set_option maxHeartbeats 4000000 in
theorem vmerge_S (p : Addr) (F : Nat → Prop) (c : Cfg) (l : Int) (L : List (List Int)) (q : Addr) (G : Nat → Prop) (c' : Cfg) (l' : Int) (M : List (List Int)) (w : World) (h : SK w p F c l L) (g : SK w q G c' l' M) :
    Calls Tryz.prog 14 #[.iface 68 (.pointer (some p)), .iface 68 (.pointer (some q))] w fun e w' => e = .returned (.int .i64 (mgCode (1) c c' l l' L M)) ∧ ∃ F', SK w' p F' c l (mgRes (1) c c' l l' L M) ∧ Kept F w w' ∧ (∀ k, F' k → F k ∨ w.heap.size ≤ k) := by
  have C := Lib.hid (vjoinmerge_S p F c l L q G c' l' M w h g)
  obtain ⟨E, hE⟩ : ∃ x, mgCode (1) c c' l l' L M = x := ⟨_, rfl⟩
  obtain ⟨J, hJ⟩ : ∃ x, mgRes (1) c c' l l' L M = x := ⟨_, rfl⟩
  rw [hE, hJ] at C ⊢
  clear h g hE hJ
  go_enter Tryz.func14, Tryz.ntmps14
  go_wp2_with (go_at_call 42; (with_reducible refine (C.out).mono ?_); rintro e w2 ⟨rfl, F2, h1, h2, h3⟩; have H1 := Lib.hid h1; have H2 := Lib.hid h2; have H3 := Lib.hid h3; clear h1 h2 h3)
  go_ret
  exact ⟨rfl, F2, H1.out, H2.out, H3.out⟩
set_option maxRecDepth 100000 in
set_option maxHeartbeats 4000000 in
theorem vjoinmerge_SA (p q : Addr) (w : World) : Calls Tryz.prog 42 #[.iface 68 (.pointer (some p)), .iface 76 (.pointer (some q)), .func (.func 43) #[] #[], .func (.func 44) #[] #[]] w fun e w' => e = .returned (.int .i64 5) ∧ Below w.heap.size w w' := by
  go_enter Tryz.func42, Tryz.ntmps42
  go_wp2_with (first
    | (go_at_call_of 49 (Value.iface 68 (.pointer (some p))); (with_reducible refine (veith_S p _).mono ?_); rintro e w1 ⟨rfl, hb9⟩; obtain ⟨bs1, d1, rfl⟩ := below_grow hb9; clear hb9)
    | (go_at_call_of 49 (Value.iface 76 (.pointer (some q))); (with_reducible refine (veith_A q _).mono ?_); rintro e w1 ⟨rfl, hb9⟩; obtain ⟨bs2, d2, rfl⟩ := below_grow hb9; clear hb9))
  go_ret
  exact ⟨rfl, (by repeat' (first | (with_reducible exact Below.refl _ _) | (with_reducible assumption) | (with_reducible refine below_over ?_ _ _) | (with_reducible refine Lw.below_alloc ?_ _) | (with_reducible refine Below.drew ?_) | (with_reducible refine below_drewN ?_ _) | (with_reducible refine Below.setCell ?_ ?_ _) | go_size))⟩
set_option maxRecDepth 100000 in
set_option maxHeartbeats 4000000 in
theorem vmerge_SA (p q : Addr) (w : World) : Calls Tryz.prog 14 #[.iface 68 (.pointer (some p)), .iface 76 (.pointer (some q))] w fun e w' => e = .returned (.int .i64 5) ∧ Below w.heap.size w w' := by
  go_enter Tryz.func14, Tryz.ntmps14
  go_wp2_with (go_at_call 42; (with_reducible refine (vjoinmerge_SA p q _).mono ?_); rintro e w2 ⟨rfl, hb9⟩; obtain ⟨bs1, d1, rfl⟩ := below_grow hb9; clear hb9)
  go_ret
  exact ⟨rfl, (by repeat' (first | (with_reducible exact Below.refl _ _) | (with_reducible assumption) | (with_reducible refine below_over ?_ _ _) | (with_reducible refine Lw.below_alloc ?_ _) | (with_reducible refine Below.drew ?_) | (with_reducible refine below_drewN ?_ _) | (with_reducible refine Below.setCell ?_ ?_ _) | go_size))⟩
set_option maxRecDepth 100000 in
set_option maxHeartbeats 4000000 in
theorem vjoinsub_A (p : Addr) (F : Nat → Prop) (c : Cfg) (l : Int) (L : List Int) (q : Addr) (G : Nat → Prop) (c' : Cfg) (l' : Int) (M : List Int) (w : World) (h : EX w p F c l L) (g : EX w q G c' l' M) :
    Calls Tryz.prog 42 #[.iface 76 (.pointer (some p)), .iface 76 (.pointer (some q)), .func (.func 47) #[] #[], .func (.func 48) #[] #[]] w fun e w' => e = .returned (.int .i64 (mgC (-1) c c' l l' L M)) ∧ ∃ F', EX w' p F' c l (mgR (-1) c c' l l' L M) ∧ Kept F w w' ∧ (∀ k, F' k → F k ∨ w.heap.size ≤ k) := by
  have C := Lib.hid (fun w' (hb : Below w.heap.size w w') => esub_any p F c l L q G c' l' M w' (h.up hb) (g.up hb))
  obtain ⟨E, hE⟩ : ∃ x, mgC (-1) c c' l l' L M = x := ⟨_, rfl⟩
  obtain ⟨J, hJ⟩ : ∃ x, mgR (-1) c c' l l' L M = x := ⟨_, rfl⟩
  rw [hE, hJ] at C ⊢
  clear h g hE hJ
  go_enter Tryz.func42, Tryz.ntmps42
  go_wp2_with (first
    | (go_at_call_of 49 (Value.iface 76 (.pointer (some p))); (with_reducible refine (veith_A p _).mono ?_); rintro e w1 ⟨rfl, hb9⟩; obtain ⟨bs1, d1, rfl⟩ := below_grow hb9; clear hb9)
    | (go_at_call_of 49 (Value.iface 76 (.pointer (some q))); (with_reducible refine (veith_A q _).mono ?_); rintro e w1 ⟨rfl, hb9⟩; obtain ⟨bs2, d2, rfl⟩ := below_grow hb9; clear hb9)
    | (go_at_call 48; (with_reducible refine (C.out _ (by repeat' (first | (with_reducible exact Below.refl _ _) | (with_reducible assumption) | (with_reducible refine below_over ?_ _ _) | (with_reducible refine Lw.below_alloc ?_ _) | (with_reducible refine Below.drew ?_) | (with_reducible refine below_drewN ?_ _) | (with_reducible refine Below.setCell ?_ ?_ _) | go_size))).mono ?_); rintro e w2 ⟨rfl, F2, h1, h2, h3⟩; have H1 := Lib.hid h1; have H2 := Lib.hid h2; have H3 := Lib.hid h3; clear h1 h2 h3))
  go_ret
  refine ⟨rfl, F2, H1.out, ?_, ?_⟩
  · have hb9 : Below w.heap.size w (grow w (bs1 ++ bs2) d2) := (by repeat' (first | (with_reducible exact Below.refl _ _) | (with_reducible assumption) | (with_reducible refine below_over ?_ _ _) | (with_reducible refine Lw.below_alloc ?_ _) | (with_reducible refine Below.drew ?_) | (with_reducible refine below_drewN ?_ _) | (with_reducible refine Below.setCell ?_ ?_ _) | go_size))
    exact Kept.trans (Kept.of_below (F := F) hb9) H2.out (fun _ _ h => h)
  · intro k hk
    rcases H3.out k hk with h | h
    · exact .inl h
    · exact .inr (Nat.le_trans (by go_size) h)
set_option maxRecDepth 100000 in
set_option maxHeartbeats 4000000 in
theorem vsub_A (p : Addr) (F : Nat → Prop) (c : Cfg) (l : Int) (L : List Int) (q : Addr) (G : Nat → Prop) (c' : Cfg) (l' : Int) (M : List Int) (w : World) (h : EX w p F c l L) (g : EX w q G c' l' M) :
    Calls Tryz.prog 16 #[.iface 76 (.pointer (some p)), .iface 76 (.pointer (some q))] w fun e w' => e = .returned (.int .i64 (mgC (-1) c c' l l' L M)) ∧ ∃ F', EX w' p F' c l (mgR (-1) c c' l l' L M) ∧ Kept F w w' ∧ (∀ k, F' k → F k ∨ w.heap.size ≤ k) := by
  have C := Lib.hid (vjoinsub_A p F c l L q G c' l' M w h g)
  obtain ⟨E, hE⟩ : ∃ x, mgC (-1) c c' l l' L M = x := ⟨_, rfl⟩
  obtain ⟨J, hJ⟩ : ∃ x, mgR (-1) c c' l l' L M = x := ⟨_, rfl⟩
  rw [hE, hJ] at C ⊢
  clear h g hE hJ
  go_enter Tryz.func16, Tryz.ntmps16
  go_wp2_with (go_at_call 42; (with_reducible refine (C.out).mono ?_); rintro e w2 ⟨rfl, F2, h1, h2, h3⟩; have H1 := Lib.hid h1; have H2 := Lib.hid h2; have H3 := Lib.hid h3; clear h1 h2 h3)
  go_ret
  exact ⟨rfl, F2, H1.out, H2.out, H3.out⟩
set_option maxRecDepth 100000 in
set_option maxHeartbeats 4000000 in
theorem vjoinsub_S (p : Addr) (F : Nat → Prop) (c : Cfg) (l : Int) (L : List (List Int)) (q : Addr) (G : Nat → Prop) (c' : Cfg) (l' : Int) (M : List (List Int)) (w : World) (h : SK w p F c l L) (g : SK w q G c' l' M) :
    Calls Tryz.prog 42 #[.iface 68 (.pointer (some p)), .iface 68 (.pointer (some q)), .func (.func 47) #[] #[], .func (.func 48) #[] #[]] w fun e w' => e = .returned (.int .i64 (mgCode (-1) c c' l l' L M)) ∧ ∃ F', SK w' p F' c l (mgRes (-1) c c' l l' L M) ∧ Kept F w w' ∧ (∀ k, F' k → F k ∨ w.heap.size ≤ k) := by
  have C := Lib.hid (fun w' (hb : Below w.heap.size w w') => ssub_any p F c l L q G c' l' M w' (h.up hb) (g.up hb))
  obtain ⟨E, hE⟩ : ∃ x, mgCode (-1) c c' l l' L M = x := ⟨_, rfl⟩
  obtain ⟨J, hJ⟩ : ∃ x, mgRes (-1) c c' l l' L M = x := ⟨_, rfl⟩
  rw [hE, hJ] at C ⊢
  clear h g hE hJ
  go_enter Tryz.func42, Tryz.ntmps42
  go_wp2_with (first
    | (go_at_call_of 49 (Value.iface 68 (.pointer (some p))); (with_reducible refine (veith_S p _).mono ?_); rintro e w1 ⟨rfl, hb9⟩; obtain ⟨bs1, d1, rfl⟩ := below_grow hb9; clear hb9)
    | (go_at_call_of 49 (Value.iface 68 (.pointer (some q))); (with_reducible refine (veith_S q _).mono ?_); rintro e w1 ⟨rfl, hb9⟩; obtain ⟨bs2, d2, rfl⟩ := below_grow hb9; clear hb9)
    | (go_at_call 47; (with_reducible refine (C.out _ (by repeat' (first | (with_reducible exact Below.refl _ _) | (with_reducible assumption) | (with_reducible refine below_over ?_ _ _) | (with_reducible refine Lw.below_alloc ?_ _) | (with_reducible refine Below.drew ?_) | (with_reducible refine below_drewN ?_ _) | (with_reducible refine Below.setCell ?_ ?_ _) | go_size))).mono ?_); rintro e w2 ⟨rfl, F2, h1, h2, h3⟩; have H1 := Lib.hid h1; have H2 := Lib.hid h2; have H3 := Lib.hid h3; clear h1 h2 h3))
  go_ret
  refine ⟨rfl, F2, H1.out, ?_, ?_⟩
  · have hb9 : Below w.heap.size w (grow w (bs1 ++ bs2) d2) := (by repeat' (first | (with_reducible exact Below.refl _ _) | (with_reducible assumption) | (with_reducible refine below_over ?_ _ _) | (with_reducible refine Lw.below_alloc ?_ _) | (with_reducible refine Below.drew ?_) | (with_reducible refine below_drewN ?_ _) | (with_reducible refine Below.setCell ?_ ?_ _) | go_size))
    exact Kept.trans (Kept.of_below (F := F) hb9) H2.out (fun _ _ h => h)
  · intro k hk
    rcases H3.out k hk with h | h
    · exact .inl h
    · exact .inr (Nat.le_trans (by go_size) h)
set_option maxRecDepth 100000 in
set_option maxHeartbeats 4000000 in
theorem vsub_S (p : Addr) (F : Nat → Prop) (c : Cfg) (l : Int) (L : List (List Int)) (q : Addr) (G : Nat → Prop) (c' : Cfg) (l' : Int) (M : List (List Int)) (w : World) (h : SK w p F c l L) (g : SK w q G c' l' M) :
    Calls Tryz.prog 16 #[.iface 68 (.pointer (some p)), .iface 68 (.pointer (some q))] w fun e w' => e = .returned (.int .i64 (mgCode (-1) c c' l l' L M)) ∧ ∃ F', SK w' p F' c l (mgRes (-1) c c' l l' L M) ∧ Kept F w w' ∧ (∀ k, F' k → F k ∨ w.heap.size ≤ k) := by
  have C := Lib.hid (vjoinsub_S p F c l L q G c' l' M w h g)
  obtain ⟨E, hE⟩ : ∃ x, mgCode (-1) c c' l l' L M = x := ⟨_, rfl⟩
  obtain ⟨J, hJ⟩ : ∃ x, mgRes (-1) c c' l l' L M = x := ⟨_, rfl⟩
  rw [hE, hJ] at C ⊢
  clear h g hE hJ
  go_enter Tryz.func16, Tryz.ntmps16
  go_wp2_with (go_at_call 42; (with_reducible refine (C.out).mono ?_); rintro e w2 ⟨rfl, F2, h1, h2, h3⟩; have H1 := Lib.hid h1; have H2 := Lib.hid h2; have H3 := Lib.hid h3; clear h1 h2 h3)
  go_ret
  exact ⟨rfl, F2, H1.out, H2.out, H3.out⟩
end Go.Proofs.YtkannodfamnmcaaGreat.Lev
/- The walks of package level's product and Inner (the code's). Printed by wip/gen/levinner.py. -/
namespace Go.Proofs.YtkannodfamnmcaaGreat.Lev
open Go Go.RowKit Lw Grd Lin Con Shp Sk Exa Inn
set_option linter.unusedVariables false
set_option linter.unusedSimpArgs false
def aiC (md : Int) (L M : List Int) : Int := if md = 1 then (if dok L M = true then 0 else 4) else 3
def aiH (md : Int) (L M : List Int) : Int := if md = 1 then (if dok L M = true then dhi L M else 0) else 0
def aiL (md : Int) (L M : List Int) : Int := if md = 1 then (if dok L M = true then dlo L M else 0) else 0
theorem fld_md (c : Cfg) (w : World) : (Instr.field 24 (.agg #[.int .i64 c.bt, .int .i64 c.rw, .int .i64 c.wd, .int .i64 c.md, .int .u64 c.sd]) 3).run Tryz.prog w = .ok (.int .i64 c.md) w := by kernel_rfl
set_option maxRecDepth 100000 in
set_option maxHeartbeats 4000000 in
theorem prod_mode (p : Addr) (F : Nat → Prop) (c : Cfg) (l : Int) (L : List Int) (q : Addr) (G : Nat → Prop) (M : List Int) (w : World) (h : EX w p F c l L) (g : EX w q G c l M) (hn : c.md ≠ 1) :
    Calls Tryz.prog 54 #[.pointer (some p), .pointer (some q)] w fun e w' => e = .returned (.tuple #[.agg #[.int .i64 (0), .int .u64 (0)], .int .i64 (3)]) ∧ Below w.heap.size w w' := by
  have H := Lib.hid h
  have G := Lib.hid g
  have hfd := fld_md c
  have hm : (c.md != 1) = true := by simpa using hn
  clear h g hn
  go_enter Tryz.func54, Tryz.ntmps54
  go_wp2_with (first
    | (go_at_call_of 85 (Value.pointer (some p)); (with_reducible refine (econfig_any _ _ _ _ _ _ (H.out.up (by repeat' (first | (with_reducible exact Below.refl _ _) | (with_reducible assumption) | (with_reducible refine below_over ?_ _ _) | (with_reducible refine Lw.below_alloc ?_ _) | (with_reducible refine Below.drew ?_) | (with_reducible refine below_drewN ?_ _) | (with_reducible refine Below.setCell ?_ ?_ _) | go_size)))).mono ?_); rintro e w' ⟨rfl, hb⟩; obtain ⟨bs1, d1, rfl⟩ := below_grow hb; clear hb)
    | (go_at_call_of 85 (Value.pointer (some q)); (with_reducible refine (econfig_any _ _ _ _ _ _ (G.out.up (by repeat' (first | (with_reducible exact Below.refl _ _) | (with_reducible assumption) | (with_reducible refine below_over ?_ _ _) | (with_reducible refine Lw.below_alloc ?_ _) | (with_reducible refine Below.drew ?_) | (with_reducible refine below_drewN ?_ _) | (with_reducible refine Below.setCell ?_ ?_ _) | go_size)))).mono ?_); rintro e w' ⟨rfl, hb⟩; obtain ⟨bs2, d2, rfl⟩ := below_grow hb; clear hb)
    | (go_at_call_of 86 (Value.pointer (some p)); (with_reducible refine (elevel_any _ _ _ _ _ _ (H.out.up (by repeat' (first | (with_reducible exact Below.refl _ _) | (with_reducible assumption) | (with_reducible refine below_over ?_ _ _) | (with_reducible refine Lw.below_alloc ?_ _) | (with_reducible refine Below.drew ?_) | (with_reducible refine below_drewN ?_ _) | (with_reducible refine Below.setCell ?_ ?_ _) | go_size)))).mono ?_); rintro e w' ⟨rfl, hb⟩; obtain ⟨bs3, d3, rfl⟩ := below_grow hb; clear hb)
    | (go_at_call_of 86 (Value.pointer (some q)); (with_reducible refine (elevel_any _ _ _ _ _ _ (G.out.up (by repeat' (first | (with_reducible exact Below.refl _ _) | (with_reducible assumption) | (with_reducible refine below_over ?_ _ _) | (with_reducible refine Lw.below_alloc ?_ _) | (with_reducible refine Below.drew ?_) | (with_reducible refine below_drewN ?_ _) | (with_reducible refine Below.setCell ?_ ?_ _) | go_size)))).mono ?_); rintro e w' ⟨rfl, hb⟩; obtain ⟨bs4, d4, rfl⟩ := below_grow hb; clear hb))
  go_returns
  exact ⟨rfl, (by repeat' (first | (with_reducible exact Below.refl _ _) | (with_reducible assumption) | (with_reducible refine below_over ?_ _ _) | (with_reducible refine Lw.below_alloc ?_ _) | (with_reducible refine Below.drew ?_) | (with_reducible refine below_drewN ?_ _) | (with_reducible refine Below.setCell ?_ ?_ _) | go_size))⟩
set_option maxRecDepth 100000 in
set_option maxHeartbeats 4000000 in
theorem prod_yes (p : Addr) (F : Nat → Prop) (c : Cfg) (l : Int) (L : List Int) (q : Addr) (G : Nat → Prop) (M : List Int) (w : World) (h : EX w p F c l L) (g : EX w q G c l M) (hmd : c.md = 1) (hd : dok L M = true) :
    Calls Tryz.prog 54 #[.pointer (some p), .pointer (some q)] w fun e w' => e = .returned (.tuple #[.agg #[.int .i64 (dhi L M), .int .u64 (dlo L M)], .int .i64 (0)]) ∧ Below w.heap.size w w' := by
  have H := Lib.hid h
  have G := Lib.hid g
  have sL := h.size
  have sM := g.size
  have IL := h.in64
  have IM := g.in64
  have CD := Lib.hid (fun (A B : Option Addr) (ca cb : Nat) w hx hy => idot_any A B L.length M.length ca cb L M w hx hy rfl rfl (by omega) IL IM)
  rw [hd] at CD
  obtain ⟨ph, hph⟩ : ∃ v, dhi L M = v := ⟨_, rfl⟩
  obtain ⟨pl, hpl⟩ : ∃ v, dlo L M = v := ⟨_, rfl⟩
  rw [hph, hpl] at CD ⊢
  have CL := Lib.hid (fun w' (hb : Below w.heap.size w w') => ecells_mid p F c l L w' (h.up hb))
  have CM := Lib.hid (fun w' (hb : Below w.heap.size w w') => ecells_mid q _ c l M w' (g.up hb))
  have hfd := fld_md c
  have hm : (c.md != 1) = false := by simp [hmd]
  have HBX : Hid (Have w (w.alloc (.cells #[.int .i64 0, .int .u64 0] 49)) [boxT w.heap.size 49 #[.int .i64 0, .int .u64 0]]) := Lib.hid (box_new w _ _)
  clear h g hmd hd sL sM IL IM hph hpl
  go_enter Tryz.func54, Tryz.ntmps54
  go_wp2_with (first
    | (go_at_call_of 85 (Value.pointer (some p)); (with_reducible refine (econfig_any _ _ _ _ _ _ (H.out.up (by repeat' (first | (with_reducible exact Below.refl _ _) | (with_reducible assumption) | (with_reducible refine below_over ?_ _ _) | (with_reducible refine Lw.below_alloc ?_ _) | (with_reducible refine Below.drew ?_) | (with_reducible refine below_drewN ?_ _) | (with_reducible refine Below.setCell ?_ ?_ _) | go_size)))).mono ?_); rintro e w' ⟨rfl, hb⟩; obtain ⟨bs1, d1, rfl⟩ := below_grow hb; clear hb)
    | (go_at_call_of 85 (Value.pointer (some q)); (with_reducible refine (econfig_any _ _ _ _ _ _ (G.out.up (by repeat' (first | (with_reducible exact Below.refl _ _) | (with_reducible assumption) | (with_reducible refine below_over ?_ _ _) | (with_reducible refine Lw.below_alloc ?_ _) | (with_reducible refine Below.drew ?_) | (with_reducible refine below_drewN ?_ _) | (with_reducible refine Below.setCell ?_ ?_ _) | go_size)))).mono ?_); rintro e w' ⟨rfl, hb⟩; obtain ⟨bs2, d2, rfl⟩ := below_grow hb; clear hb)
    | (go_at_call_of 86 (Value.pointer (some p)); (with_reducible refine (elevel_any _ _ _ _ _ _ (H.out.up (by repeat' (first | (with_reducible exact Below.refl _ _) | (with_reducible assumption) | (with_reducible refine below_over ?_ _ _) | (with_reducible refine Lw.below_alloc ?_ _) | (with_reducible refine Below.drew ?_) | (with_reducible refine below_drewN ?_ _) | (with_reducible refine Below.setCell ?_ ?_ _) | go_size)))).mono ?_); rintro e w' ⟨rfl, hb⟩; obtain ⟨bs3, d3, rfl⟩ := below_grow hb; clear hb)
    | (go_at_call_of 86 (Value.pointer (some q)); (with_reducible refine (elevel_any _ _ _ _ _ _ (G.out.up (by repeat' (first | (with_reducible exact Below.refl _ _) | (with_reducible assumption) | (with_reducible refine below_over ?_ _ _) | (with_reducible refine Lw.below_alloc ?_ _) | (with_reducible refine Below.drew ?_) | (with_reducible refine below_drewN ?_ _) | (with_reducible refine Below.setCell ?_ ?_ _) | go_size)))).mono ?_); rintro e w' ⟨rfl, hb⟩; obtain ⟨bs4, d4, rfl⟩ := below_grow hb; clear hb)
    | (go_at_call_of 87 (Value.pointer (some p)); (with_reducible refine (CL.out _ (by repeat' (first | (with_reducible exact Below.refl _ _) | (with_reducible assumption) | (with_reducible refine below_over ?_ _ _) | (with_reducible refine Lw.below_alloc ?_ _) | (with_reducible refine Below.drew ?_) | (with_reducible refine below_drewN ?_ _) | (with_reducible refine Below.setCell ?_ ?_ _) | go_size))).mono ?_); rintro e w3 ⟨g1, cap1, rfl, h1, h2, -, -, hb⟩; have HV3 := Lib.hid ((HBX.out.up (by repeat' (first | (with_reducible exact Below.refl _ _) | (with_reducible assumption) | (with_reducible refine below_over ?_ _ _) | (with_reducible refine Lw.below_alloc ?_ _) | (with_reducible refine Below.drew ?_) | (with_reducible refine below_drewN ?_ _) | (with_reducible refine Below.setCell ?_ ?_ _) | go_size))).push (midT g1 L) hb h1 (fun k hk => by subst hk; exact h2)); clear h1 h2 hb)
    | (go_at_call_of 87 (Value.pointer (some q)); (with_reducible refine (CM.out _ HV3.out.below).mono ?_); rintro e w4 ⟨g2, cap2, rfl, h1, h2, -, -, hb⟩; have HV4 := Lib.hid (HV3.out.push (midT g2 M) hb h1 (fun k hk => by subst hk; exact h2)); clear h1 h2 hb)
    | (go_at_call 82; (with_reducible refine (CD.out _ _ _ _ _ (midI HV4.out.i1).rd (midI HV4.out.i0).rd).mono ?_); rintro e w5 ⟨rfl, hb⟩; have HV5 := Lib.hid (HV4.out.up hb); obtain ⟨r0, r1⟩ := box2 HV5.out.i2; have q0 := boxs_frozen HV5.out.i2 0; have q1 := boxs_frozen HV5.out.i2 1; have hsz := box_lt HV5.out.i2; have lz := lt_sz hsz; clear hb))
  refine bodyPost_ret (v := .tuple #[.agg #[.int .i64 (ph), .int .u64 (pl)], .int .i64 (0)]) (by simp [results, Tryz.results54, go_sem, r0, r1, q0, q1, hsz, lz]) rfl ?_
  have hbc := HV5.out.below
  exact ⟨rfl, (by repeat' (first | (with_reducible exact Below.refl _ _) | (with_reducible assumption) | (with_reducible refine below_over ?_ _ _) | (with_reducible refine Lw.below_alloc ?_ _) | (with_reducible refine Below.drew ?_) | (with_reducible refine below_drewN ?_ _) | (with_reducible refine Below.setCell ?_ ?_ _) | go_size))⟩
set_option maxRecDepth 100000 in
set_option maxHeartbeats 4000000 in
theorem prod_over (p : Addr) (F : Nat → Prop) (c : Cfg) (l : Int) (L : List Int) (q : Addr) (G : Nat → Prop) (M : List Int) (w : World) (h : EX w p F c l L) (g : EX w q G c l M) (hmd : c.md = 1) (hd : dok L M = false) :
    Calls Tryz.prog 54 #[.pointer (some p), .pointer (some q)] w fun e w' => e = .returned (.tuple #[.agg #[.int .i64 (0), .int .u64 (0)], .int .i64 (4)]) ∧ Below w.heap.size w w' := by
  have H := Lib.hid h
  have G := Lib.hid g
  have sL := h.size
  have sM := g.size
  have IL := h.in64
  have IM := g.in64
  have CD := Lib.hid (fun (A B : Option Addr) (ca cb : Nat) w hx hy => idot_any A B L.length M.length ca cb L M w hx hy rfl rfl (by omega) IL IM)
  rw [hd] at CD
  obtain ⟨ph, hph⟩ : ∃ v, dhi L M = v := ⟨_, rfl⟩
  obtain ⟨pl, hpl⟩ : ∃ v, dlo L M = v := ⟨_, rfl⟩
  rw [hph, hpl] at CD
  have CL := Lib.hid (fun w' (hb : Below w.heap.size w w') => ecells_mid p F c l L w' (h.up hb))
  have CM := Lib.hid (fun w' (hb : Below w.heap.size w w') => ecells_mid q _ c l M w' (g.up hb))
  have hfd := fld_md c
  have hm : (c.md != 1) = false := by simp [hmd]
  have HBX : Hid (Have w (w.alloc (.cells #[.int .i64 0, .int .u64 0] 49)) [boxT w.heap.size 49 #[.int .i64 0, .int .u64 0]]) := Lib.hid (box_new w _ _)
  clear h g hmd hd sL sM IL IM hph hpl
  go_enter Tryz.func54, Tryz.ntmps54
  go_wp2_with (first
    | (go_at_call_of 85 (Value.pointer (some p)); (with_reducible refine (econfig_any _ _ _ _ _ _ (H.out.up (by repeat' (first | (with_reducible exact Below.refl _ _) | (with_reducible assumption) | (with_reducible refine below_over ?_ _ _) | (with_reducible refine Lw.below_alloc ?_ _) | (with_reducible refine Below.drew ?_) | (with_reducible refine below_drewN ?_ _) | (with_reducible refine Below.setCell ?_ ?_ _) | go_size)))).mono ?_); rintro e w' ⟨rfl, hb⟩; obtain ⟨bs1, d1, rfl⟩ := below_grow hb; clear hb)
    | (go_at_call_of 85 (Value.pointer (some q)); (with_reducible refine (econfig_any _ _ _ _ _ _ (G.out.up (by repeat' (first | (with_reducible exact Below.refl _ _) | (with_reducible assumption) | (with_reducible refine below_over ?_ _ _) | (with_reducible refine Lw.below_alloc ?_ _) | (with_reducible refine Below.drew ?_) | (with_reducible refine below_drewN ?_ _) | (with_reducible refine Below.setCell ?_ ?_ _) | go_size)))).mono ?_); rintro e w' ⟨rfl, hb⟩; obtain ⟨bs2, d2, rfl⟩ := below_grow hb; clear hb)
    | (go_at_call_of 86 (Value.pointer (some p)); (with_reducible refine (elevel_any _ _ _ _ _ _ (H.out.up (by repeat' (first | (with_reducible exact Below.refl _ _) | (with_reducible assumption) | (with_reducible refine below_over ?_ _ _) | (with_reducible refine Lw.below_alloc ?_ _) | (with_reducible refine Below.drew ?_) | (with_reducible refine below_drewN ?_ _) | (with_reducible refine Below.setCell ?_ ?_ _) | go_size)))).mono ?_); rintro e w' ⟨rfl, hb⟩; obtain ⟨bs3, d3, rfl⟩ := below_grow hb; clear hb)
    | (go_at_call_of 86 (Value.pointer (some q)); (with_reducible refine (elevel_any _ _ _ _ _ _ (G.out.up (by repeat' (first | (with_reducible exact Below.refl _ _) | (with_reducible assumption) | (with_reducible refine below_over ?_ _ _) | (with_reducible refine Lw.below_alloc ?_ _) | (with_reducible refine Below.drew ?_) | (with_reducible refine below_drewN ?_ _) | (with_reducible refine Below.setCell ?_ ?_ _) | go_size)))).mono ?_); rintro e w' ⟨rfl, hb⟩; obtain ⟨bs4, d4, rfl⟩ := below_grow hb; clear hb)
    | (go_at_call_of 87 (Value.pointer (some p)); (with_reducible refine (CL.out _ (by repeat' (first | (with_reducible exact Below.refl _ _) | (with_reducible assumption) | (with_reducible refine below_over ?_ _ _) | (with_reducible refine Lw.below_alloc ?_ _) | (with_reducible refine Below.drew ?_) | (with_reducible refine below_drewN ?_ _) | (with_reducible refine Below.setCell ?_ ?_ _) | go_size))).mono ?_); rintro e w3 ⟨g1, cap1, rfl, h1, h2, -, -, hb⟩; have HV3 := Lib.hid ((HBX.out.up (by repeat' (first | (with_reducible exact Below.refl _ _) | (with_reducible assumption) | (with_reducible refine below_over ?_ _ _) | (with_reducible refine Lw.below_alloc ?_ _) | (with_reducible refine Below.drew ?_) | (with_reducible refine below_drewN ?_ _) | (with_reducible refine Below.setCell ?_ ?_ _) | go_size))).push (midT g1 L) hb h1 (fun k hk => by subst hk; exact h2)); clear h1 h2 hb)
    | (go_at_call_of 87 (Value.pointer (some q)); (with_reducible refine (CM.out _ HV3.out.below).mono ?_); rintro e w4 ⟨g2, cap2, rfl, h1, h2, -, -, hb⟩; have HV4 := Lib.hid (HV3.out.push (midT g2 M) hb h1 (fun k hk => by subst hk; exact h2)); clear h1 h2 hb)
    | (go_at_call 82; (with_reducible refine (CD.out _ _ _ _ _ (midI HV4.out.i1).rd (midI HV4.out.i0).rd).mono ?_); rintro e w5 ⟨rfl, hb⟩; have HV5 := Lib.hid (HV4.out.up hb); obtain ⟨r0, r1⟩ := box2 HV5.out.i2; have q0 := boxs_frozen HV5.out.i2 0; have q1 := boxs_frozen HV5.out.i2 1; have hsz := box_lt HV5.out.i2; have lz := lt_sz hsz; clear hb))
  refine bodyPost_ret (v := .tuple #[.agg #[.int .i64 (0), .int .u64 (0)], .int .i64 (4)]) (by simp [results, Tryz.results54, go_sem, r0, r1, q0, q1, hsz, lz]) rfl ?_
  have hbc := HV5.out.below
  exact ⟨rfl, (by repeat' (first | (with_reducible exact Below.refl _ _) | (with_reducible assumption) | (with_reducible refine below_over ?_ _ _) | (with_reducible refine Lw.below_alloc ?_ _) | (with_reducible refine Below.drew ?_) | (with_reducible refine below_drewN ?_ _) | (with_reducible refine Below.setCell ?_ ?_ _) | go_size))⟩
set_option maxRecDepth 100000 in
set_option maxHeartbeats 4000000 in
theorem vinner_Amode (p : Addr) (F : Nat → Prop) (c : Cfg) (l : Int) (L : List Int) (q : Addr) (G : Nat → Prop) (M : List Int) (w : World) (h : EX w p F c l L) (g : EX w q G c l M) (hn : c.md ≠ 1):
    Calls Tryz.prog 20 #[.iface 76 (.pointer (some p)), .iface 76 (.pointer (some q))] w fun e w' => e = .returned (.tuple #[.agg #[.int .i64 (0), .int .u64 (0)], .int .i64 (3)]) ∧ Below w.heap.size w w' := by
  have C := Lib.hid (fun w' (hb : Below w.heap.size w w') => prod_mode p F c l L q G M w' (h.up hb) (g.up hb) hn)
  clear h g hn
  go_enter Tryz.func20, Tryz.ntmps20
  go_wp2_with (first
    | (go_at_call_of 49 (Value.iface 76 (.pointer (some p))); (with_reducible refine (veith_A p _).mono ?_); rintro e w1 ⟨rfl, hb⟩; obtain ⟨bs1, d1, rfl⟩ := below_grow hb; clear hb)
    | (go_at_call_of 49 (Value.iface 76 (.pointer (some q))); (with_reducible refine (veith_A q _).mono ?_); rintro e w1 ⟨rfl, hb⟩; obtain ⟨bs2, d2, rfl⟩ := below_grow hb; clear hb)
    | (go_at_call 54; (with_reducible refine (C.out _ (by repeat' (first | (with_reducible exact Below.refl _ _) | (with_reducible assumption) | (with_reducible refine below_over ?_ _ _) | (with_reducible refine Lw.below_alloc ?_ _) | (with_reducible refine Below.drew ?_) | (with_reducible refine below_drewN ?_ _) | (with_reducible refine Below.setCell ?_ ?_ _) | go_size))).mono ?_); rintro e w2 ⟨rfl, hb⟩; obtain ⟨bs3, d3, rfl⟩ := below_grow hb; clear hb))
  go_returns
  exact ⟨rfl, (by repeat' (first | (with_reducible exact Below.refl _ _) | (with_reducible assumption) | (with_reducible refine below_over ?_ _ _) | (with_reducible refine Lw.below_alloc ?_ _) | (with_reducible refine Below.drew ?_) | (with_reducible refine below_drewN ?_ _) | (with_reducible refine Below.setCell ?_ ?_ _) | go_size))⟩
set_option maxRecDepth 100000 in
set_option maxHeartbeats 4000000 in
theorem vinner_Aover (p : Addr) (F : Nat → Prop) (c : Cfg) (l : Int) (L : List Int) (q : Addr) (G : Nat → Prop) (M : List Int) (w : World) (h : EX w p F c l L) (g : EX w q G c l M) (hmd : c.md = 1) (hd : dok L M = false):
    Calls Tryz.prog 20 #[.iface 76 (.pointer (some p)), .iface 76 (.pointer (some q))] w fun e w' => e = .returned (.tuple #[.agg #[.int .i64 (0), .int .u64 (0)], .int .i64 (4)]) ∧ Below w.heap.size w w' := by
  have C := Lib.hid (fun w' (hb : Below w.heap.size w w') => prod_over p F c l L q G M w' (h.up hb) (g.up hb) hmd hd)
  clear h g hmd hd
  go_enter Tryz.func20, Tryz.ntmps20
  go_wp2_with (first
    | (go_at_call_of 49 (Value.iface 76 (.pointer (some p))); (with_reducible refine (veith_A p _).mono ?_); rintro e w1 ⟨rfl, hb⟩; obtain ⟨bs1, d1, rfl⟩ := below_grow hb; clear hb)
    | (go_at_call_of 49 (Value.iface 76 (.pointer (some q))); (with_reducible refine (veith_A q _).mono ?_); rintro e w1 ⟨rfl, hb⟩; obtain ⟨bs2, d2, rfl⟩ := below_grow hb; clear hb)
    | (go_at_call 54; (with_reducible refine (C.out _ (by repeat' (first | (with_reducible exact Below.refl _ _) | (with_reducible assumption) | (with_reducible refine below_over ?_ _ _) | (with_reducible refine Lw.below_alloc ?_ _) | (with_reducible refine Below.drew ?_) | (with_reducible refine below_drewN ?_ _) | (with_reducible refine Below.setCell ?_ ?_ _) | go_size))).mono ?_); rintro e w2 ⟨rfl, hb⟩; obtain ⟨bs3, d3, rfl⟩ := below_grow hb; clear hb))
  go_returns
  exact ⟨rfl, (by repeat' (first | (with_reducible exact Below.refl _ _) | (with_reducible assumption) | (with_reducible refine below_over ?_ _ _) | (with_reducible refine Lw.below_alloc ?_ _) | (with_reducible refine Below.drew ?_) | (with_reducible refine below_drewN ?_ _) | (with_reducible refine Below.setCell ?_ ?_ _) | go_size))⟩
set_option maxRecDepth 100000 in
set_option maxHeartbeats 4000000 in
theorem vinner_Ayes (p : Addr) (F : Nat → Prop) (c : Cfg) (l : Int) (L : List Int) (q : Addr) (G : Nat → Prop) (M : List Int) (w : World) (h : EX w p F c l L) (g : EX w q G c l M) (hmd : c.md = 1) (hd : dok L M = true):
    Calls Tryz.prog 20 #[.iface 76 (.pointer (some p)), .iface 76 (.pointer (some q))] w fun e w' => e = .returned (.tuple #[.agg #[.int .i64 (dhi L M), .int .u64 (dlo L M)], .int .i64 (0)]) ∧ Below w.heap.size w w' := by
  have C := Lib.hid (fun w' (hb : Below w.heap.size w w') => prod_yes p F c l L q G M w' (h.up hb) (g.up hb) hmd hd)
  obtain ⟨ph, hph⟩ : ∃ v, dhi L M = v := ⟨_, rfl⟩
  obtain ⟨pl, hpl⟩ : ∃ v, dlo L M = v := ⟨_, rfl⟩
  rw [hph, hpl] at C ⊢
  clear h g hmd hd hph hpl
  go_enter Tryz.func20, Tryz.ntmps20
  go_wp2_with (first
    | (go_at_call_of 49 (Value.iface 76 (.pointer (some p))); (with_reducible refine (veith_A p _).mono ?_); rintro e w1 ⟨rfl, hb⟩; obtain ⟨bs1, d1, rfl⟩ := below_grow hb; clear hb)
    | (go_at_call_of 49 (Value.iface 76 (.pointer (some q))); (with_reducible refine (veith_A q _).mono ?_); rintro e w1 ⟨rfl, hb⟩; obtain ⟨bs2, d2, rfl⟩ := below_grow hb; clear hb)
    | (go_at_call 54; (with_reducible refine (C.out _ (by repeat' (first | (with_reducible exact Below.refl _ _) | (with_reducible assumption) | (with_reducible refine below_over ?_ _ _) | (with_reducible refine Lw.below_alloc ?_ _) | (with_reducible refine Below.drew ?_) | (with_reducible refine below_drewN ?_ _) | (with_reducible refine Below.setCell ?_ ?_ _) | go_size))).mono ?_); rintro e w2 ⟨rfl, hb⟩; obtain ⟨bs3, d3, rfl⟩ := below_grow hb; clear hb))
  go_returns
  exact ⟨rfl, (by repeat' (first | (with_reducible exact Below.refl _ _) | (with_reducible assumption) | (with_reducible refine below_over ?_ _ _) | (with_reducible refine Lw.below_alloc ?_ _) | (with_reducible refine Below.drew ?_) | (with_reducible refine below_drewN ?_ _) | (with_reducible refine Below.setCell ?_ ?_ _) | go_size))⟩
theorem vinner_A (p : Addr) (F : Nat → Prop) (c : Cfg) (l : Int) (L : List Int) (q : Addr) (G : Nat → Prop) (M : List Int) (w : World) (h : EX w p F c l L) (g : EX w q G c l M) :
    Calls Tryz.prog 20 #[.iface 76 (.pointer (some p)), .iface 76 (.pointer (some q))] w fun e w' => e = .returned (.tuple #[.agg #[.int .i64 (aiH c.md L M), .int .u64 (aiL c.md L M)], .int .i64 (aiC c.md L M)]) ∧ Below w.heap.size w w' := by
  unfold aiH aiL aiC
  by_cases hm : c.md = 1
  · rw [if_pos hm, if_pos hm, if_pos hm]
    cases ho : dok L M with
    | true => exact vinner_Ayes p F c l L q G M w h g hm ho
    | false => exact vinner_Aover p F c l L q G M w h g hm ho
  · rw [if_neg hm, if_neg hm, if_neg hm]
    exact vinner_Amode p F c l L q G M w h g hm
set_option maxRecDepth 100000 in
set_option maxHeartbeats 4000000 in
theorem vinnerU_S (p : Addr) (F : Nat → Prop) (c : Cfg) (l : Int) (L : List (List Int)) (q : Addr) (G : Nat → Prop) (c' : Cfg) (l' : Int) (M : List (List Int)) (w : World) (h : SK w p F c l L) (g : SK w q G c' l' M) :
    Calls Tryz.prog 20 #[.iface 68 (.pointer (some p)), .iface 68 (.pointer (some q))] w fun e w' => e = .returned (.tuple #[.agg #[.int .i64 (Wid.fh (inVal c c' l l' L M)), .int .u64 (Wid.fl (inVal c c' l l' L M))], .int .i64 (inCode c c' l l' L M)]) ∧ Below w.heap.size w w' := by
  have C := Lib.hid (fun w' (hb : Below w.heap.size w w') => inner_any p F c l L q G c' l' M w' (h.up hb) (g.up hb))
  obtain ⟨ph, hph⟩ : ∃ v, Wid.fh (inVal c c' l l' L M) = v := ⟨_, rfl⟩
  obtain ⟨pl, hpl⟩ : ∃ v, Wid.fl (inVal c c' l l' L M) = v := ⟨_, rfl⟩
  obtain ⟨pc, hpc⟩ : ∃ v, inCode c c' l l' L M = v := ⟨_, rfl⟩
  rw [hph, hpl, hpc] at C ⊢
  clear h g hph hpl hpc
  go_enter Tryz.func20, Tryz.ntmps20
  go_wp2_with (first
    | (go_at_call_of 49 (Value.iface 68 (.pointer (some p))); (with_reducible refine (veith_S p _).mono ?_); rintro e w1 ⟨rfl, hb⟩; obtain ⟨bs1, d1, rfl⟩ := below_grow hb; clear hb)
    | (go_at_call_of 49 (Value.iface 68 (.pointer (some q))); (with_reducible refine (veith_S q _).mono ?_); rintro e w1 ⟨rfl, hb⟩; obtain ⟨bs2, d2, rfl⟩ := below_grow hb; clear hb)
    | (go_at_call 53; (with_reducible refine (C.out _ (by repeat' (first | (with_reducible exact Below.refl _ _) | (with_reducible assumption) | (with_reducible refine below_over ?_ _ _) | (with_reducible refine Lw.below_alloc ?_ _) | (with_reducible refine Below.drew ?_) | (with_reducible refine below_drewN ?_ _) | (with_reducible refine Below.setCell ?_ ?_ _) | go_size))).mono ?_); rintro e w2 ⟨rfl, hb⟩; obtain ⟨bs3, d3, rfl⟩ := below_grow hb; clear hb))
  go_returns
  exact ⟨rfl, (by repeat' (first | (with_reducible exact Below.refl _ _) | (with_reducible assumption) | (with_reducible refine below_over ?_ _ _) | (with_reducible refine Lw.below_alloc ?_ _) | (with_reducible refine Below.drew ?_) | (with_reducible refine below_drewN ?_ _) | (with_reducible refine Below.setCell ?_ ?_ _) | go_size))⟩
theorem vinner_S (p : Addr) (F : Nat → Prop) (c : Cfg) (l : Int) (L : List (List Int)) (q : Addr) (G : Nat → Prop) (M : List (List Int)) (w : World) (h : SK w p F c l L) (g : SK w q G c l M) :
    Calls Tryz.prog 20 #[.iface 68 (.pointer (some p)), .iface 68 (.pointer (some q))] w fun e w' => e = .returned (.tuple #[.agg #[.int .i64 (Wid.fh (inVal c c l l L M)), .int .u64 (Wid.fl (inVal c c l l L M))], .int .i64 (inCode c c l l L M)]) ∧ Below w.heap.size w w' :=
  vinnerU_S p F c l L q G c l M w h g
end Go.Proofs.YtkannodfamnmcaaGreat.Lev
