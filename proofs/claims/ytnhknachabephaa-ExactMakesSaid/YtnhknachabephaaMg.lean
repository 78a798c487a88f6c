/- Texts that the statements of this seat lean on, put together: ExaJoin, ExaLawA, ExaShr, ExaSumM. -/
import Derived.Test.YtnhknachabephaaMb
import Derived.Test.YtnhknachabephaaMc
import Derived.Test.YtnhknachabephaaMd
import Derived.Test.YtnhknachabephaaMe
import Derived.Test.YtnhknachabephaaMf
import Derived.Deep.RegionHeld3
import Derived.Deep.DeepCutAuto
import Derived.Deep.LoopGhost
import Derived.Deep.QuietTactic
import Derived.BigQuiet
/- The walk of the document's own Join for layer 12. Printed by wip/gen/exajoin.py. -/
namespace Go.Proofs.Ytnhknachabephaa.Exa
open Go Go.RowKit Lw Grd Lin Con Shp Sk
set_option linter.unusedVariables false
set_option linter.unusedSimpArgs false
theorem row_no {s : Int} {L M : List Int} {k : Nat} {x y : Int} (hx : L[k]? = some x) (hy : M[k]? = some y) (h : Wid.fit64 (x + s * y) = false) : (rowS s L M).all Wid.fit64 = false := by
  have hm : x + s * y ∈ rowS s L M := List.mem_of_getElem? (i := k) (by unfold rowS; rw [List.getElem?_zipWith, hx, hy])
  rw [List.all_eq_false]
  exact ⟨_, hm, by simp [h]⟩
theorem in64_all {zs : List Int} (h : zs.all Wid.fit64 = true) : In64 zs := fun v hv => by
  rw [List.all_eq_true] at h
  exact in64_fit (h v hv)
theorem own_cap {w : World} {base : Nat} {e : TypeId} {g n cap : Nat} {xs : List Value} (h : w.ownsRow base e 1 (.slice (some ⟨g, 0, none⟩) n cap) n xs) : n ≤ cap ∧ cap ≤ maxLen := by
  rcases h.2 with ⟨h1, _⟩ | ⟨g1, cap2, cur, h3, hbase, hh, hl, hm, hx, hy⟩
  · cases h1
  · injection h3 with _ _ h3
    subst h3
    exact ⟨hl, hm⟩
set_option maxRecDepth 100000 in
set_option maxHeartbeats 8000000 in
theorem ajoin_p (p q : Addr) (F G : Nat → Prop) (c : Cfg) (l : Int) (L M : List Int) (w : World) (h : DA w p F c l L) (h9 : DA w q G c l M) (hlen : L.length = M.length) :
    Calls Try.prog 20 #[.pointer (some p), .pointer (some q), .int .i64 1] w fun e w' =>
      ((rowS 1 L M).all Wid.fit64 = true ∧ e = .returned (.int .i64 0) ∧ ∃ F', DA w' p F' c l (rowS 1 L M) ∧ Kept F w w' ∧ (∀ q, F' q → F q ∨ w.heap.size ≤ q)) ∨
      ((rowS 1 L M).all Wid.fit64 = false ∧ e = .returned (.int .i64 4) ∧ Below w.heap.size w w') := by
  obtain ⟨i0, hi, hi0, hi1, hi2⟩ := info_parts i64_info
  obtain ⟨h1, h2, h3, b, g, cap, rfl, hb, hm, h4, h5, h6, rfl⟩ := h
  obtain ⟨-, k2, k3, b2, g2, cap2, rfl, hbk, hmk, k4, k5, k6, rfl⟩ := h9
  have hbl := size_of_heap hb
  have c0 := grd_cell hb 0 (v := .int .i64 c.bt) rfl
  have c1 := grd_cell hb 1 (v := .int .i64 c.rw) rfl
  have c2 := grd_cell hb 2 (v := .int .i64 c.wd) rfl
  have c3 := grd_cell hb 3 (v := .int .i64 c.md) rfl
  have c4 := grd_cell hb 4 (v := .int .u64 c.sd) rfl
  have c5 := grd_cell hb 5 (v := .int .i64 l) rfl
  have c6 := grd_cell hb 6 (v := .slice (some ⟨g, 0, none⟩) L.length cap) rfl
  have e0 := grd_cell hbk 0 (v := .int .i64 c.bt) rfl
  have e1 := grd_cell hbk 1 (v := .int .i64 c.rw) rfl
  have e2 := grd_cell hbk 2 (v := .int .i64 c.wd) rfl
  have e3 := grd_cell hbk 3 (v := .int .i64 c.md) rfl
  have e4 := grd_cell hbk 4 (v := .int .u64 c.sd) rfl
  have e5 := grd_cell hbk 5 (v := .int .i64 l) rfl
  have e6 := grd_cell hbk 6 (v := .slice (some ⟨g2, 0, none⟩) M.length cap2) rfl
  have HB := Lib.hid hb
  have HM := Lib.hid hm
  have HMK := Lib.hid hmk
  have H1 := Lib.hid h1
  have HIN := Lib.hid (And.intro h3 k3)
  have hL8 := h2
  obtain ⟨gad, hgad⟩ : ∃ gad : Addr, (⟨g, 0, none⟩ : Addr) = gad := ⟨_, rfl⟩
  obtain ⟨gad2, hgad2⟩ : ∃ gad : Addr, (⟨g2, 0, none⟩ : Addr) = gad := ⟨_, rfl⟩
  have HX : Hid (∀ (j : Nat) v, L[j]? = some v → w.cell? (gad.add j) = some (.int .i64 v)) := Lib.hid (fun j v hv => by
    rw [← hgad, Ord.add_at]
    exact hm.cell hv)
  have HY : Hid (∀ (j : Nat) v, M[j]? = some v → w.cell? (gad2.add j) = some (.int .i64 v)) := Lib.hid (fun j v hv => by
    rw [← hgad2, Ord.add_at]
    exact hmk.cell hv)
  rw [hgad] at c6
  rw [hgad2] at e6
  have HG := Lib.hid hgad
  have C6 := Lib.hid c6
  have E6 := Lib.hid e6
  have HLN := Lib.hid hlen
  obtain ⟨O, hO⟩ : ∃ O, (rowS 1 L M).all Wid.fit64 = O := ⟨_, rfl⟩
  have HO := Lib.hid hO
  rw [hO]
  clear hb hbk hm hmk h1 h3 k3 hgad hgad2 k6 hlen hO
  go_enter Try.func20, Try.ntmps20
  go_wp2
  go_quiet (fail)
  all_goals go_wp2
  clear c0 c1 c2 c3 c4 c5 c6 e0 e1 e2 e3 e4 e5 e6
  go_loopw [7, 8] (fun v i wi => ∃ (j gr cp : Nat), j ≤ L.length ∧ i = .int .i64 j ∧ v = .slice (some ⟨gr, 0, none⟩) j cp ∧ wi.ownsRow w.heap.size 2 1 v j ((rowS 1 (L.take j) (M.take j)).map (Value.int .i64)) ∧ (rowS 1 (L.take j) (M.take j)).all Wid.fit64 = true ∧ w.heap.size ≤ gr ∧ Below w.heap.size w wi) (fun _ i _ => L.length - (intOf i).toNat)
  case atStart => exact ⟨0, w.heap.size, 0, Nat.zero_le _, rfl, rfl, by simpa [rowS] using ((Kept.refl (fun _ => False) (w.alloc (.cells #[] 2))).drewN _).own (own_empty w 2 1 w.heap.size (Nat.le_refl _)) (fun _ _ h => h), by simp [rowS], Nat.le_refl _, by repeat' (first | (with_reducible exact Below.refl _ _) | (with_reducible assumption) | (with_reducible refine below_over ?_ _ _) | (with_reducible refine Lw.below_alloc ?_ _) | (with_reducible refine Below.drew ?_) | (with_reducible refine below_drewN ?_ _) | (with_reducible refine Below.setCell ?_ ?_ _) | go_size)⟩
  case round =>
    obtain ⟨j, gr, cp, hjw, rfl, rfl, hown, hfit, hgr, hbi⟩ := hrel
    have hb6 := cell_up C6.out hbi
    have hbk6 := cell_up E6.out hbi
    by_cases hjl : j < L.length
    · obtain ⟨x, hx⟩ : ∃ x, L[j]? = some x := ⟨_, List.getElem?_eq_getElem hjl⟩
      obtain ⟨y, hy⟩ : ∃ y, M[j]? = some y := ⟨_, List.getElem?_eq_getElem (by have := HLN.out; omega)⟩
      have hcx := cell_up (HX.out j x hx) hbi
      have hcy := cell_up (HY.out j y hy) hbi
      have hxb := HIN.out.1.at hx
      have hyb := HIN.out.2.at hy
      have hjy : j < M.length := by have := HLN.out; omega
      have hz : x + 1 * y = x + y := by omega
      have hs0 : ¬ (1 : Int) < 0 := by omega
      go_wp2_with (first
        | (go_at_call 39; (with_reducible refine (Wid.rofint_any y _ hyb.1 hyb.2).mono ?_); rintro e w' ⟨rfl, hbx⟩; obtain ⟨bs1, d1, rfl⟩ := below_grow hbx; clear hbx))
      generalize hX : (grow wr bs1 d1).alloc (.cells #[.int .i64 (Wid.dg y 0), .int .i64 (Wid.dg y 1), .int .i64 (Wid.dg y 2), .int .i64 (Wid.dg y 3), .int .i64 (Wid.dg y 4), .int .i64 (Wid.dg y 5), .int .i64 (Wid.dg y 6), .int .i64 (Wid.dg y 7), .int .i64 (Wid.dg y 8), .int .i64 (Wid.dg y 9)] 78) = X
      have hbX : Below wr.heap.size wr X := by rw [← hX]; (repeat' (first | (with_reducible exact Below.refl _ _) | (with_reducible assumption) | (with_reducible refine below_over ?_ _ _) | (with_reducible refine Lw.below_alloc ?_ _) | (with_reducible refine Below.drew ?_) | (with_reducible refine below_drewN ?_ _) | (with_reducible refine Below.setCell ?_ ?_ _) | go_size))
      have hR0 : ((grow wr bs1 d1).alloc (.cells #[.int .i64 (Wid.dg y 0), .int .i64 (Wid.dg y 1), .int .i64 (Wid.dg y 2), .int .i64 (Wid.dg y 3), .int .i64 (Wid.dg y 4), .int .i64 (Wid.dg y 5), .int .i64 (Wid.dg y 6), .int .i64 (Wid.dg y 7), .int .i64 (Wid.dg y 8), .int .i64 (Wid.dg y 9)] 78)).rangeAt (wr.heap.size + bs1.size) 0 [.int .i64 (Wid.dg y 0), .int .i64 (Wid.dg y 1), .int .i64 (Wid.dg y 2), .int .i64 (Wid.dg y 3), .int .i64 (Wid.dg y 4), .int .i64 (Wid.dg y 5), .int .i64 (Wid.dg y 6), .int .i64 (Wid.dg y 7), .int .i64 (Wid.dg y 8), .int .i64 (Wid.dg y 9)] := by
        have h := Wid.range_box (w := grow wr bs1 d1) (C := [.int .i64 (Wid.dg y 0), .int .i64 (Wid.dg y 1), .int .i64 (Wid.dg y 2), .int .i64 (Wid.dg y 3), .int .i64 (Wid.dg y 4), .int .i64 (Wid.dg y 5), .int .i64 (Wid.dg y 6), .int .i64 (Wid.dg y 7), .int .i64 (Wid.dg y 8), .int .i64 (Wid.dg y 9)]) (t := 78) (Below.refl _ _)
        rw [size_grow] at h
        exact h
      have hR : X.rangeAt (wr.heap.size + bs1.size) 0 [.int .i64 (Wid.dg y 0), .int .i64 (Wid.dg y 1), .int .i64 (Wid.dg y 2), .int .i64 (Wid.dg y 3), .int .i64 (Wid.dg y 4), .int .i64 (Wid.dg y 5), .int .i64 (Wid.dg y 6), .int .i64 (Wid.dg y 7), .int .i64 (Wid.dg y 8), .int .i64 (Wid.dg y 9)] := by rw [← hX]; exact hR0
      clear hX hR0
      have x1 := cell_up hb6 hbX
      have x3 := cell_up hcx hbX
      have hu57 := Wid.long_u
      have hi57 : (Try.prog.info? 78).map (·.size) = some ([.int .i64 (Wid.dg y 0), .int .i64 (Wid.dg y 1), .int .i64 (Wid.dg y 2), .int .i64 (Wid.dg y 3), .int .i64 (Wid.dg y 4), .int .i64 (Wid.dg y 5), .int .i64 (Wid.dg y 6), .int .i64 (Wid.dg y 7), .int .i64 (Wid.dg y 8), .int .i64 (Wid.dg y 9)] : List Value).length := Wid.long_i
      go_cut [10, 11] (fun s12 s13 wx => s12 = .int .i64 (Wid.f64 (x + y)) ∧ s13 = .bool (Wid.fit64 (x + y)) ∧ Below wr.heap.size wr wx)
      case first =>
        go_region_held3 (fun w' => w'.cell? ⟨b, 6, none⟩ = some (.slice (some gad) L.length cap) ∧ w'.cell? (gad.add j) = some (.int .i64 x) ∧ w'.rangeAt (wr.heap.size + bs1.size) 0 [.int .i64 (Wid.dg y 0), .int .i64 (Wid.dg y 1), .int .i64 (Wid.dg y 2), .int .i64 (Wid.dg y 3), .int .i64 (Wid.dg y 4), .int .i64 (Wid.dg y 5), .int .i64 (Wid.dg y 6), .int .i64 (Wid.dg y 7), .int .i64 (Wid.dg y 8), .int .i64 (Wid.dg y 9)]) ((refine ⟨cell_up x1 ?_, cell_up x3 ?_, Wid.range_call hR ?_⟩ <;> (repeat' (first | (with_reducible exact Below.refl _ _) | (with_reducible assumption) | (with_reducible refine below_over ?_ _ _) | (with_reducible refine Lw.below_alloc ?_ _) | (with_reducible refine Below.drew ?_) | (with_reducible refine below_drewN ?_ _) | (with_reducible refine Below.setCell ?_ ?_ _) | go_size)))) (first
          | (go_at_call 39; (with_reducible refine (Wid.rofint_any x _ hxb.1 hxb.2).mono ?_); rintro e w' ⟨rfl, hbx⟩; obtain ⟨bs3, d3, rfl⟩ := below_grow hbx; clear hbx)
          | (go_at_call 42; (with_reducible refine (Wid.rplus_any x y _ _ _ _ _ _ _ _ _ _ _ _ _ _ _ _ _ _ _ _ _ rfl rfl).mono ?_); rintro e w' ⟨rfl, hbx⟩; obtain ⟨bs4, d4, rfl⟩ := below_grow hbx; clear hbx)
          | (go_at_call 41; (with_reducible refine (Wid.rint_any (x + y) _ _ _ _ _ _ _ _ _ _ _ rfl (by omega) (by omega)).mono ?_); rintro e w' ⟨rfl, hbx⟩; obtain ⟨bs5, d5, rfl⟩ := below_grow hbx; clear hbx))
        all_goals go_wp2
        all_goals go_meet
        all_goals refine ⟨rfl, rfl, below_call hbX (w1 := _) ?_ (Nat.le_refl _)⟩
        all_goals (repeat' (first | (with_reducible exact Below.refl _ _) | (with_reducible assumption) | (with_reducible refine below_over ?_ _ _) | (with_reducible refine Lw.below_alloc ?_ _) | (with_reducible refine Below.drew ?_) | (with_reducible refine below_drewN ?_ _) | (with_reducible refine Below.setCell ?_ ?_ _) | go_size))
      case rest =>
        obtain ⟨rfl, rfl, hbc⟩ := hcut
        have hownc := (Kept.of_below (F := fun _ => False) hbc).own hown (fun _ _ h => h)
        have hbw2 := below_call hbi hbc (Nat.le_refl _)
        have HNX := Lib.hid (rowS_next (s := 1) hx hy)
        have hbcs := hbw2.size
        cases hf : Wid.fit64 (x + y)
        · have HNF : Hid (O = false) := Lib.hid (by rw [← HO.out]; exact row_no hx hy (by rw [hz]; exact hf))
          clear hx hy
          go_wp2
          go_ret
          exact Or.inr ⟨HNF.out, rfl, hbw2⟩
        · have e64 : Wid.f64 (x + y) = x + y := by unfold Wid.f64; rw [if_pos hf]
          rw [e64]
          clear hx hy
          go_wp2_with (at_builtin; (refine app_one .i64 rfl _ _ 46 rfl w.heap.size 2 i0 8 i64s_u hi hi0 hi1 hi2 (.slice (some ⟨gr, 0, none⟩) j cp) j (rowS 1 (L.take j) (M.take j)) rfl (hownc.alloc _) (x + y) wc.heap.size rfl (cell_one_new _ _ _) (by unfold maxLen; omega) (by omega) (by simp; omega) ?_); intro v1 w1 own1 grow1 oth1; obtain ⟨gg, cc, rfl, hgg, hgl⟩ := own1.form (by omega); have hb1 : Below w.heap.size w w1 := app_below3 (Lw.below_alloc hbw2 _) grow1 (fun q hq => own_ge hownc q hq))
          go_roundw
          case rel => exact ⟨j + 1, gg, cc, by omega, by go_num, rfl, by rw [HNX.out, hz]; exact own1, by rw [HNX.out, hz, List.all_append, hfit]; simp [hf], hgg, hb1⟩
          case measure => simp [intOf]; omega
    · have e : L.length = j := by omega
      have hall : L.take j = L ∧ M.take j = M := ⟨List.take_of_length_le (by omega), List.take_of_length_le (by have := HLN.out; omega)⟩
      rw [hall.1, hall.2] at hown hfit
      obtain ⟨g7, hA7, hg7, hm7⟩ := Ord.mid_own hown
      injection hA7 with hA7
      subst hA7
      have hB := (Kept.of_below (F := fun _ => False) hbi).heap HB.out (fun h => h)
      have hfz : wr.frozen? ⟨b, 6, none⟩ = false := boxs_frozen (e := 50) (vs := #[.int .i64 c.bt, .int .i64 c.rw, .int .i64 c.wd, .int .i64 c.md, .int .u64 c.sd, .int .i64 l, .slice (some ⟨g, 0, none⟩) L.length cap]) hB 6
      have hlr : (rowS 1 L M).length = j := by unfold rowS; rw [List.length_zipWith]; have := HLN.out; omega
      have hcp := own_cap hown
      have E : Hid (∃ F', DA (wr.setCell ⟨b, 6, none⟩ (.slice (some ⟨gr, 0, none⟩) j cp)) ⟨b, 0, none⟩ F' c l (rowS 1 L M) ∧ Kept (fun k => k = b ∨ k = g) w (wr.setCell ⟨b, 6, none⟩ (.slice (some ⟨gr, 0, none⟩) j cp)) ∧ (∀ q, F' q → (q = b ∨ q = g) ∨ w.heap.size ≤ q)) := Lib.hid (by
        have hs := boxs_set (e := 50) (vs := #[.int .i64 c.bt, .int .i64 c.rw, .int .i64 c.wd, .int .i64 c.md, .int .u64 c.sd, .int .i64 l, .slice (some ⟨g, 0, none⟩) L.length cap]) hB 6 (.slice (some ⟨gr, 0, none⟩) j cp)
        have hk : Kept (fun q => q = b) wr (wr.setCell ⟨b, 6, none⟩ (.slice (some ⟨gr, 0, none⟩) j cp)) := (Kept.refl (fun q => q = b) wr).set (.inl rfl) _ _
        refine ⟨fun k => k = b ∨ k = gr, ⟨H1.out, by rw [hlr]; omega, in64_all hfit, b, gr, cp, rfl, ?_, hm7.keep hk (fun e => by omega), by rw [hlr]; exact hcp.1, hcp.2, by omega, rfl⟩, (Kept.of_below hbi).trans (hk.mono (fun q _ e => .inl e)) (fun q hq e => e), fun q hq => by
          rcases hq with h | h
          · exact .inl (.inl h)
          · exact .inr (by omega)⟩
        rw [hlr]
        exact hs)
      have HF : Hid (O = true) := Lib.hid (by rw [← HO.out]; exact hfit)
      clear hown hfit hm7 hB hcp hlr hall
      subst e
      go_wp2
      go_ret
      exact Or.inl ⟨HF.out, rfl, E.out⟩
set_option maxRecDepth 100000 in
set_option maxHeartbeats 8000000 in
theorem ajoin_m (p q : Addr) (F G : Nat → Prop) (c : Cfg) (l : Int) (L M : List Int) (w : World) (h : DA w p F c l L) (h9 : DA w q G c l M) (hlen : L.length = M.length) (hm2 : ¬ c.md = 2) :
    Calls Try.prog 20 #[.pointer (some p), .pointer (some q), .int .i64 (-1)] w fun e w' =>
      ((rowS (-1) L M).all Wid.fit64 = true ∧ e = .returned (.int .i64 0) ∧ ∃ F', DA w' p F' c l (rowS (-1) L M) ∧ Kept F w w' ∧ (∀ q, F' q → F q ∨ w.heap.size ≤ q)) ∨
      ((rowS (-1) L M).all Wid.fit64 = false ∧ e = .returned (.int .i64 4) ∧ Below w.heap.size w w') := by
  obtain ⟨i0, hi, hi0, hi1, hi2⟩ := info_parts i64_info
  obtain ⟨h1, h2, h3, b, g, cap, rfl, hb, hm, h4, h5, h6, rfl⟩ := h
  obtain ⟨-, k2, k3, b2, g2, cap2, rfl, hbk, hmk, k4, k5, k6, rfl⟩ := h9
  have hbl := size_of_heap hb
  have c0 := grd_cell hb 0 (v := .int .i64 c.bt) rfl
  have c1 := grd_cell hb 1 (v := .int .i64 c.rw) rfl
  have c2 := grd_cell hb 2 (v := .int .i64 c.wd) rfl
  have c3 := grd_cell hb 3 (v := .int .i64 c.md) rfl
  have c4 := grd_cell hb 4 (v := .int .u64 c.sd) rfl
  have c5 := grd_cell hb 5 (v := .int .i64 l) rfl
  have c6 := grd_cell hb 6 (v := .slice (some ⟨g, 0, none⟩) L.length cap) rfl
  have e0 := grd_cell hbk 0 (v := .int .i64 c.bt) rfl
  have e1 := grd_cell hbk 1 (v := .int .i64 c.rw) rfl
  have e2 := grd_cell hbk 2 (v := .int .i64 c.wd) rfl
  have e3 := grd_cell hbk 3 (v := .int .i64 c.md) rfl
  have e4 := grd_cell hbk 4 (v := .int .u64 c.sd) rfl
  have e5 := grd_cell hbk 5 (v := .int .i64 l) rfl
  have e6 := grd_cell hbk 6 (v := .slice (some ⟨g2, 0, none⟩) M.length cap2) rfl
  have hmb : (c.md == 2) = false := by simpa using hm2
  have HB := Lib.hid hb
  have HM := Lib.hid hm
  have HMK := Lib.hid hmk
  have H1 := Lib.hid h1
  have HIN := Lib.hid (And.intro h3 k3)
  have hL8 := h2
  obtain ⟨gad, hgad⟩ : ∃ gad : Addr, (⟨g, 0, none⟩ : Addr) = gad := ⟨_, rfl⟩
  obtain ⟨gad2, hgad2⟩ : ∃ gad : Addr, (⟨g2, 0, none⟩ : Addr) = gad := ⟨_, rfl⟩
  have HX : Hid (∀ (j : Nat) v, L[j]? = some v → w.cell? (gad.add j) = some (.int .i64 v)) := Lib.hid (fun j v hv => by
    rw [← hgad, Ord.add_at]
    exact hm.cell hv)
  have HY : Hid (∀ (j : Nat) v, M[j]? = some v → w.cell? (gad2.add j) = some (.int .i64 v)) := Lib.hid (fun j v hv => by
    rw [← hgad2, Ord.add_at]
    exact hmk.cell hv)
  rw [hgad] at c6
  rw [hgad2] at e6
  have HG := Lib.hid hgad
  have C6 := Lib.hid c6
  have E6 := Lib.hid e6
  have HLN := Lib.hid hlen
  obtain ⟨O, hO⟩ : ∃ O, (rowS (-1) L M).all Wid.fit64 = O := ⟨_, rfl⟩
  have HO := Lib.hid hO
  rw [hO]
  clear hb hbk hm hmk h1 h3 k3 hgad hgad2 k6 hlen hO hm2
  go_enter Try.func20, Try.ntmps20
  go_wp2
  go_quiet (fail)
  all_goals go_wp2
  clear c0 c1 c2 c3 c4 c5 c6 e0 e1 e2 e3 e4 e5 e6 hmb
  go_loopw [7, 8] (fun v i wi => ∃ (j gr cp : Nat), j ≤ L.length ∧ i = .int .i64 j ∧ v = .slice (some ⟨gr, 0, none⟩) j cp ∧ wi.ownsRow w.heap.size 2 1 v j ((rowS (-1) (L.take j) (M.take j)).map (Value.int .i64)) ∧ (rowS (-1) (L.take j) (M.take j)).all Wid.fit64 = true ∧ w.heap.size ≤ gr ∧ Below w.heap.size w wi) (fun _ i _ => L.length - (intOf i).toNat)
  case atStart => exact ⟨0, w.heap.size, 0, Nat.zero_le _, rfl, rfl, by simpa [rowS] using ((Kept.refl (fun _ => False) (w.alloc (.cells #[] 2))).drewN _).own (own_empty w 2 1 w.heap.size (Nat.le_refl _)) (fun _ _ h => h), by simp [rowS], Nat.le_refl _, by repeat' (first | (with_reducible exact Below.refl _ _) | (with_reducible assumption) | (with_reducible refine below_over ?_ _ _) | (with_reducible refine Lw.below_alloc ?_ _) | (with_reducible refine Below.drew ?_) | (with_reducible refine below_drewN ?_ _) | (with_reducible refine Below.setCell ?_ ?_ _) | go_size)⟩
  case round =>
    obtain ⟨j, gr, cp, hjw, rfl, rfl, hown, hfit, hgr, hbi⟩ := hrel
    have hb6 := cell_up C6.out hbi
    have hbk6 := cell_up E6.out hbi
    by_cases hjl : j < L.length
    · obtain ⟨x, hx⟩ : ∃ x, L[j]? = some x := ⟨_, List.getElem?_eq_getElem hjl⟩
      obtain ⟨y, hy⟩ : ∃ y, M[j]? = some y := ⟨_, List.getElem?_eq_getElem (by have := HLN.out; omega)⟩
      have hcx := cell_up (HX.out j x hx) hbi
      have hcy := cell_up (HY.out j y hy) hbi
      have hxb := HIN.out.1.at hx
      have hyb := HIN.out.2.at hy
      have hjy : j < M.length := by have := HLN.out; omega
      have hz : x + (-1) * y = x + (-y) := by omega
      have hs0 : ((-1) : Int) < 0 := by omega
      go_wp2_with (first
        | (go_at_call 39; (with_reducible refine (Wid.rofint_any y _ hyb.1 hyb.2).mono ?_); rintro e w' ⟨rfl, hbx⟩; obtain ⟨bs1, d1, rfl⟩ := below_grow hbx; clear hbx)
        | (go_at_call 40; (with_reducible refine (Wid.rminus_any y _ _ _ _ _ _ _ _ _ _ _ rfl).mono ?_); rintro e w' ⟨rfl, hbx⟩; obtain ⟨bs2, d2, rfl⟩ := below_grow hbx; clear hbx))
      generalize hX : grow ((grow wr bs1 d1).alloc (.cells #[.int .i64 (Wid.dg (-y) 0), .int .i64 (Wid.dg (-y) 1), .int .i64 (Wid.dg (-y) 2), .int .i64 (Wid.dg (-y) 3), .int .i64 (Wid.dg (-y) 4), .int .i64 (Wid.dg (-y) 5), .int .i64 (Wid.dg (-y) 6), .int .i64 (Wid.dg (-y) 7), .int .i64 (Wid.dg (-y) 8), .int .i64 (Wid.dg (-y) 9)] 78)) bs2 d2 = X
      have hbX : Below wr.heap.size wr X := by rw [← hX]; (repeat' (first | (with_reducible exact Below.refl _ _) | (with_reducible assumption) | (with_reducible refine below_over ?_ _ _) | (with_reducible refine Lw.below_alloc ?_ _) | (with_reducible refine Below.drew ?_) | (with_reducible refine below_drewN ?_ _) | (with_reducible refine Below.setCell ?_ ?_ _) | go_size))
      have hR0 : ((grow wr bs1 d1).alloc (.cells #[.int .i64 (Wid.dg (-y) 0), .int .i64 (Wid.dg (-y) 1), .int .i64 (Wid.dg (-y) 2), .int .i64 (Wid.dg (-y) 3), .int .i64 (Wid.dg (-y) 4), .int .i64 (Wid.dg (-y) 5), .int .i64 (Wid.dg (-y) 6), .int .i64 (Wid.dg (-y) 7), .int .i64 (Wid.dg (-y) 8), .int .i64 (Wid.dg (-y) 9)] 78)).rangeAt (wr.heap.size + bs1.size) 0 [.int .i64 (Wid.dg (-y) 0), .int .i64 (Wid.dg (-y) 1), .int .i64 (Wid.dg (-y) 2), .int .i64 (Wid.dg (-y) 3), .int .i64 (Wid.dg (-y) 4), .int .i64 (Wid.dg (-y) 5), .int .i64 (Wid.dg (-y) 6), .int .i64 (Wid.dg (-y) 7), .int .i64 (Wid.dg (-y) 8), .int .i64 (Wid.dg (-y) 9)] := by
        have h := Wid.range_box (w := grow wr bs1 d1) (C := [.int .i64 (Wid.dg (-y) 0), .int .i64 (Wid.dg (-y) 1), .int .i64 (Wid.dg (-y) 2), .int .i64 (Wid.dg (-y) 3), .int .i64 (Wid.dg (-y) 4), .int .i64 (Wid.dg (-y) 5), .int .i64 (Wid.dg (-y) 6), .int .i64 (Wid.dg (-y) 7), .int .i64 (Wid.dg (-y) 8), .int .i64 (Wid.dg (-y) 9)]) (t := 78) (Below.refl _ _)
        rw [size_grow] at h
        exact h
      have hR : X.rangeAt (wr.heap.size + bs1.size) 0 [.int .i64 (Wid.dg (-y) 0), .int .i64 (Wid.dg (-y) 1), .int .i64 (Wid.dg (-y) 2), .int .i64 (Wid.dg (-y) 3), .int .i64 (Wid.dg (-y) 4), .int .i64 (Wid.dg (-y) 5), .int .i64 (Wid.dg (-y) 6), .int .i64 (Wid.dg (-y) 7), .int .i64 (Wid.dg (-y) 8), .int .i64 (Wid.dg (-y) 9)] := by rw [← hX]; exact Wid.range_call hR0 (grow_below _ _ _)
      clear hX hR0
      have x1 := cell_up hb6 hbX
      have x3 := cell_up hcx hbX
      have hu57 := Wid.long_u
      have hi57 : (Try.prog.info? 78).map (·.size) = some ([.int .i64 (Wid.dg (-y) 0), .int .i64 (Wid.dg (-y) 1), .int .i64 (Wid.dg (-y) 2), .int .i64 (Wid.dg (-y) 3), .int .i64 (Wid.dg (-y) 4), .int .i64 (Wid.dg (-y) 5), .int .i64 (Wid.dg (-y) 6), .int .i64 (Wid.dg (-y) 7), .int .i64 (Wid.dg (-y) 8), .int .i64 (Wid.dg (-y) 9)] : List Value).length := Wid.long_i
      go_cut [10, 11] (fun s12 s13 wx => s12 = .int .i64 (Wid.f64 (x + (-y))) ∧ s13 = .bool (Wid.fit64 (x + (-y))) ∧ Below wr.heap.size wr wx)
      case first =>
        go_region_held3 (fun w' => w'.cell? ⟨b, 6, none⟩ = some (.slice (some gad) L.length cap) ∧ w'.cell? (gad.add j) = some (.int .i64 x) ∧ w'.rangeAt (wr.heap.size + bs1.size) 0 [.int .i64 (Wid.dg (-y) 0), .int .i64 (Wid.dg (-y) 1), .int .i64 (Wid.dg (-y) 2), .int .i64 (Wid.dg (-y) 3), .int .i64 (Wid.dg (-y) 4), .int .i64 (Wid.dg (-y) 5), .int .i64 (Wid.dg (-y) 6), .int .i64 (Wid.dg (-y) 7), .int .i64 (Wid.dg (-y) 8), .int .i64 (Wid.dg (-y) 9)]) ((refine ⟨cell_up x1 ?_, cell_up x3 ?_, Wid.range_call hR ?_⟩ <;> (repeat' (first | (with_reducible exact Below.refl _ _) | (with_reducible assumption) | (with_reducible refine below_over ?_ _ _) | (with_reducible refine Lw.below_alloc ?_ _) | (with_reducible refine Below.drew ?_) | (with_reducible refine below_drewN ?_ _) | (with_reducible refine Below.setCell ?_ ?_ _) | go_size)))) (first
          | (go_at_call 39; (with_reducible refine (Wid.rofint_any x _ hxb.1 hxb.2).mono ?_); rintro e w' ⟨rfl, hbx⟩; obtain ⟨bs3, d3, rfl⟩ := below_grow hbx; clear hbx)
          | (go_at_call 42; (with_reducible refine (Wid.rplus_any x (-y) _ _ _ _ _ _ _ _ _ _ _ _ _ _ _ _ _ _ _ _ _ rfl rfl).mono ?_); rintro e w' ⟨rfl, hbx⟩; obtain ⟨bs4, d4, rfl⟩ := below_grow hbx; clear hbx)
          | (go_at_call 41; (with_reducible refine (Wid.rint_any (x + (-y)) _ _ _ _ _ _ _ _ _ _ _ rfl (by omega) (by omega)).mono ?_); rintro e w' ⟨rfl, hbx⟩; obtain ⟨bs5, d5, rfl⟩ := below_grow hbx; clear hbx))
        all_goals go_wp2
        all_goals go_meet
        all_goals refine ⟨rfl, rfl, below_call hbX (w1 := _) ?_ (Nat.le_refl _)⟩
        all_goals (repeat' (first | (with_reducible exact Below.refl _ _) | (with_reducible assumption) | (with_reducible refine below_over ?_ _ _) | (with_reducible refine Lw.below_alloc ?_ _) | (with_reducible refine Below.drew ?_) | (with_reducible refine below_drewN ?_ _) | (with_reducible refine Below.setCell ?_ ?_ _) | go_size))
      case rest =>
        obtain ⟨rfl, rfl, hbc⟩ := hcut
        have hownc := (Kept.of_below (F := fun _ => False) hbc).own hown (fun _ _ h => h)
        have hbw2 := below_call hbi hbc (Nat.le_refl _)
        have HNX := Lib.hid (rowS_next (s := (-1)) hx hy)
        have hbcs := hbw2.size
        cases hf : Wid.fit64 (x + (-y))
        · have HNF : Hid (O = false) := Lib.hid (by rw [← HO.out]; exact row_no hx hy (by rw [hz]; exact hf))
          clear hx hy
          go_wp2
          go_ret
          exact Or.inr ⟨HNF.out, rfl, hbw2⟩
        · have e64 : Wid.f64 (x + (-y)) = x + (-y) := by unfold Wid.f64; rw [if_pos hf]
          rw [e64]
          clear hx hy
          go_wp2_with (at_builtin; (refine app_one .i64 rfl _ _ 46 rfl w.heap.size 2 i0 8 i64s_u hi hi0 hi1 hi2 (.slice (some ⟨gr, 0, none⟩) j cp) j (rowS (-1) (L.take j) (M.take j)) rfl (hownc.alloc _) (x + (-y)) wc.heap.size rfl (cell_one_new _ _ _) (by unfold maxLen; omega) (by omega) (by simp; omega) ?_); intro v1 w1 own1 grow1 oth1; obtain ⟨gg, cc, rfl, hgg, hgl⟩ := own1.form (by omega); have hb1 : Below w.heap.size w w1 := app_below3 (Lw.below_alloc hbw2 _) grow1 (fun q hq => own_ge hownc q hq))
          go_roundw
          case rel => exact ⟨j + 1, gg, cc, by omega, by go_num, rfl, by rw [HNX.out, hz]; exact own1, by rw [HNX.out, hz, List.all_append, hfit]; simp [hf], hgg, hb1⟩
          case measure => simp [intOf]; omega
    · have e : L.length = j := by omega
      have hall : L.take j = L ∧ M.take j = M := ⟨List.take_of_length_le (by omega), List.take_of_length_le (by have := HLN.out; omega)⟩
      rw [hall.1, hall.2] at hown hfit
      obtain ⟨g7, hA7, hg7, hm7⟩ := Ord.mid_own hown
      injection hA7 with hA7
      subst hA7
      have hB := (Kept.of_below (F := fun _ => False) hbi).heap HB.out (fun h => h)
      have hfz : wr.frozen? ⟨b, 6, none⟩ = false := boxs_frozen (e := 50) (vs := #[.int .i64 c.bt, .int .i64 c.rw, .int .i64 c.wd, .int .i64 c.md, .int .u64 c.sd, .int .i64 l, .slice (some ⟨g, 0, none⟩) L.length cap]) hB 6
      have hlr : (rowS (-1) L M).length = j := by unfold rowS; rw [List.length_zipWith]; have := HLN.out; omega
      have hcp := own_cap hown
      have E : Hid (∃ F', DA (wr.setCell ⟨b, 6, none⟩ (.slice (some ⟨gr, 0, none⟩) j cp)) ⟨b, 0, none⟩ F' c l (rowS (-1) L M) ∧ Kept (fun k => k = b ∨ k = g) w (wr.setCell ⟨b, 6, none⟩ (.slice (some ⟨gr, 0, none⟩) j cp)) ∧ (∀ q, F' q → (q = b ∨ q = g) ∨ w.heap.size ≤ q)) := Lib.hid (by
        have hs := boxs_set (e := 50) (vs := #[.int .i64 c.bt, .int .i64 c.rw, .int .i64 c.wd, .int .i64 c.md, .int .u64 c.sd, .int .i64 l, .slice (some ⟨g, 0, none⟩) L.length cap]) hB 6 (.slice (some ⟨gr, 0, none⟩) j cp)
        have hk : Kept (fun q => q = b) wr (wr.setCell ⟨b, 6, none⟩ (.slice (some ⟨gr, 0, none⟩) j cp)) := (Kept.refl (fun q => q = b) wr).set (.inl rfl) _ _
        refine ⟨fun k => k = b ∨ k = gr, ⟨H1.out, by rw [hlr]; omega, in64_all hfit, b, gr, cp, rfl, ?_, hm7.keep hk (fun e => by omega), by rw [hlr]; exact hcp.1, hcp.2, by omega, rfl⟩, (Kept.of_below hbi).trans (hk.mono (fun q _ e => .inl e)) (fun q hq e => e), fun q hq => by
          rcases hq with h | h
          · exact .inl (.inl h)
          · exact .inr (by omega)⟩
        rw [hlr]
        exact hs)
      have HF : Hid (O = true) := Lib.hid (by rw [← HO.out]; exact hfit)
      clear hown hfit hm7 hB hcp hlr hall
      subst e
      go_wp2
      go_ret
      exact Or.inl ⟨HF.out, rfl, E.out⟩
theorem ajoin_plus (p q : Addr) (F G : Nat → Prop) (c : Cfg) (l : Int) (L M : List Int) (w : World) (h : DA w p F c l L) (h9 : DA w q G c l M) (hlen : L.length = M.length) :
    Calls Try.prog 20 #[.pointer (some p), .pointer (some q), .int .i64 1] w fun e w' => e = .returned (.int .i64 (exJ 1 L M)) ∧ ∃ F', DA w' p F' c l (exM 1 L M) ∧ Kept F w w' ∧ (∀ q, F' q → F q ∨ w.heap.size ≤ q) :=
  (ajoin_p p q F G c l L M w h h9 hlen).mono fun e w' hh => by
    unfold exJ exM
    rcases hh with ⟨h1, h2, h3⟩ | ⟨h1, h2, h3⟩
    · rw [if_pos h1, if_pos h1]
      exact ⟨h2, h3⟩
    · have hn : ¬ (rowS 1 L M).all Wid.fit64 = true := by rw [h1]; decide
      rw [if_neg hn, if_neg hn]
      exact ⟨h2, F, h.up h3, Kept.of_below h3, fun q hq => .inl hq⟩
theorem ajoin_minus (p q : Addr) (F G : Nat → Prop) (c : Cfg) (l : Int) (L M : List Int) (w : World) (h : DA w p F c l L) (h9 : DA w q G c l M) (hlen : L.length = M.length) (hm2 : ¬ c.md = 2) :
    Calls Try.prog 20 #[.pointer (some p), .pointer (some q), .int .i64 (-1)] w fun e w' => e = .returned (.int .i64 (exJ (-1) L M)) ∧ ∃ F', DA w' p F' c l (exM (-1) L M) ∧ Kept F w w' ∧ (∀ q, F' q → F q ∨ w.heap.size ≤ q) :=
  (ajoin_m p q F G c l L M w h h9 hlen hm2).mono fun e w' hh => by
    unfold exJ exM
    rcases hh with ⟨h1, h2, h3⟩ | ⟨h1, h2, h3⟩
    · rw [if_pos h1, if_pos h1]
      exact ⟨h2, h3⟩
    · have hn : ¬ (rowS (-1) L M).all Wid.fit64 = true := by rw [h1]; decide
      rw [if_neg hn, if_neg hn]
      exact ⟨h2, F, h.up h3, Kept.of_below h3, fun q hq => .inl hq⟩
set_option maxRecDepth 100000 in
set_option maxHeartbeats 4000000 in
theorem ajoin_con (p q : Addr) (F G : Nat → Prop) (c : Cfg) (l : Int) (L M : List Int) (w : World) (h : DA w p F c l L) (h9 : DA w q G c l M) (hm2 : c.md = 2) :
    Calls Try.prog 20 #[.pointer (some p), .pointer (some q), .int .i64 (-1)] w fun e w' => e = .returned (.int .i64 3) ∧ Below w.heap.size w w' := by
  obtain ⟨h1, h2, h3, b, g, cap, rfl, hb, hm, h4, h5, h6, rfl⟩ := h
  obtain ⟨-, k2, k3, b2, g2, cap2, rfl, hbk, hmk, k4, k5, k6, rfl⟩ := h9
  have hbl := size_of_heap hb
  have c0 := grd_cell hb 0 (v := .int .i64 c.bt) rfl
  have c1 := grd_cell hb 1 (v := .int .i64 c.rw) rfl
  have c2 := grd_cell hb 2 (v := .int .i64 c.wd) rfl
  have c3 := grd_cell hb 3 (v := .int .i64 c.md) rfl
  have c4 := grd_cell hb 4 (v := .int .u64 c.sd) rfl
  have c5 := grd_cell hb 5 (v := .int .i64 l) rfl
  have c6 := grd_cell hb 6 (v := .slice (some ⟨g, 0, none⟩) L.length cap) rfl
  have e0 := grd_cell hbk 0 (v := .int .i64 c.bt) rfl
  have e1 := grd_cell hbk 1 (v := .int .i64 c.rw) rfl
  have e2 := grd_cell hbk 2 (v := .int .i64 c.wd) rfl
  have e3 := grd_cell hbk 3 (v := .int .i64 c.md) rfl
  have e4 := grd_cell hbk 4 (v := .int .u64 c.sd) rfl
  have e5 := grd_cell hbk 5 (v := .int .i64 l) rfl
  have e6 := grd_cell hbk 6 (v := .slice (some ⟨g2, 0, none⟩) M.length cap2) rfl
  have hmb : (c.md == 2) = true := by simp [hm2]
  clear hb hbk hm hmk h1 h3 k3 hm2
  go_enter Try.func20, Try.ntmps20
  go_wp2
  go_quiet (fail)
  all_goals go_wp2
  all_goals go_ret
  all_goals exact ⟨rfl, by repeat' (first | (with_reducible exact Below.refl _ _) | (with_reducible assumption) | (with_reducible refine below_over ?_ _ _) | (with_reducible refine Lw.below_alloc ?_ _) | (with_reducible refine Below.drew ?_) | (with_reducible refine below_drewN ?_ _) | (with_reducible refine Below.setCell ?_ ?_ _) | go_size)⟩
end Go.Proofs.Ytnhknachabephaa.Exa
/- What the statements of layer 12 lean on: the level that is picked, and what must be in any case. Printed by wip/gen/exalawa.py. -/
namespace Go.Proofs.Ytnhknachabephaa.Exa
open Go Go.RowKit Lw Grd Lin Con Shp Sk
set_option linter.unusedVariables false
set_option linter.unusedSimpArgs false
theorem lit2 {w : World} {g : Nat} {x y : Int} (h0 : w.cell? ⟨g, 0, none⟩ = some (.int .i64 x)) (h1 : w.cell? ⟨g, 1, none⟩ = some (.int .i64 y)) : Rd .i64 w (some ⟨g, 0, none⟩) [x, y] := by
  intro j v hj
  match j, hj with
  | 0, hj => cases hj; exact ⟨_, rfl, h0⟩
  | 1, hj => cases hj; exact ⟨_, rfl, by simpa [Addr.add] using h1⟩
theorem exact_top {c : Cfg} (hr : IsRight c) : exactB c c.bt = true := by
  refine decide_eq_true ?_
  rw [keys_top hr]
  exact ⟨by omega, hr.2.2.2.2.1⟩
theorem exact_len {c : Cfg} {l : Int} (h : exactB c l = true) : 1 ≤ keys c l ∧ keys c l ≤ 128 := by
  have h1 := of_decide_eq_true h
  have h2 := (keys_pos.1 h1.1).1.2.2.2.2.2.1
  omega
set_option maxRecDepth 100000 in
set_option maxHeartbeats 4000000 in
theorem top_any (c : Cfg) (lv : Int) (w : World) (h : c.Ok) (hr : IsRight c) (v0 : -9223372036854775808 ≤ lv) (v1 : lv ≤ 9223372036854775807) :
    Calls Try.prog 10 #[.agg #[.int .i64 c.bt, .int .i64 c.rw, .int .i64 c.wd, .int .i64 c.md, .int .u64 c.sd], .int .i64 lv] w fun e w' => ∃ l : Int, e = .returned (.int .i64 l) ∧ exactB c l = true ∧ Below w.heap.size w w' := by
  obtain ⟨n, hn⟩ : ∃ n : Nat, c.bt = (n : Int) := ⟨c.bt.toNat, by have := hr.1; omega⟩
  have hn1 : 1 ≤ n := by have := hr.1; omega
  have hn5 : n ≤ 59 := by have := hr.2.1; omega
  have HT := Lib.hid (exact_top hr)
  have HN := Lib.hid hn
  have HO := Lib.hid h
  have LV : Hid (∀ m : Int, 1 ≤ m → m ≤ 65536 → _) := Lib.hid (fun m h1 h2 => level_of lv m h1 h2)
  have H0 : Hid (∀ i : Nat, i ≤ 0 → exactB c (c.bt - i) = true) := Lib.hid (fun i hi => by
    have e : i = 0 := by omega
    subst e
    simpa using HT.out)
  have HBX : Hid (Have w (w.alloc (.cells #[.int .i64 c.bt, .int .i64 c.rw, .int .i64 c.wd, .int .i64 c.md, .int .u64 c.sd] 24)) [boxT w.heap.size 24 #[.int .i64 c.bt, .int .i64 c.rw, .int .i64 c.wd, .int .i64 c.md, .int .u64 c.sd]]) := Lib.hid (box_new w _ _)
  clear h hr hn
  go_enter Try.func10, Try.ntmps10
  go_wp2
  go_loopw [5] (fun iv wr => ∃ j : Nat, j ≤ n ∧ iv = .int .i64 j ∧ (∀ i : Nat, i ≤ j → exactB c (c.bt - i) = true) ∧ Have w wr [boxT w.heap.size 24 #[.int .i64 c.bt, .int .i64 c.rw, .int .i64 c.wd, .int .i64 c.md, .int .u64 c.sd]]) (fun iv _ => n - (intOf iv).toNat)
  case atStart => exact ⟨0, Nat.zero_le _, rfl, H0.out, HBX.out⟩
  case round =>
    obtain ⟨j, hj, rfl, hal, hv⟩ := hrel
    have HV := Lib.hid hv
    have HAL := Lib.hid hal
    have hrl := HN.out
    obtain ⟨c0, c1, c2, c3, c4⟩ := box5 hv.i0
    clear hv hal
    obtain ⟨X, L, a1, a2, a3, a4, a5, a6⟩ := LV.out ((j : Int) + 1) (by omega) (by omega)
    have HE : Hid (exactB c (c.bt - L) = true) := Lib.hid (by
      have h1 := HAL.out L.toNat (by omega)
      rwa [Int.toNat_of_nonneg a5] at h1)
    have z1 : ¬ (j : Int) + 1 = 0 := by omega
    have hlr : -9223372036854775808 ≤ c.bt - L ∧ c.bt - L ≤ 9223372036854775807 := by omega
    have z2 : IntKind.i64.wrap ((j : Int) + 1) = (j : Int) + 1 := IntWalk.i64_in _ ⟨by omega, by omega⟩
    have z5 : IntKind.i64.wrap L = L := IntWalk.i64_in _ ⟨by omega, by omega⟩
    have z3 : IntKind.i64.wrap (c.bt - L) = c.bt - L := IntWalk.i64_in _ hlr
    by_cases hlt : (j : Int) < c.bt
    · have hp : -9223372036854775808 ≤ c.bt - j - 1 ∧ c.bt - j - 1 ≤ 9223372036854775807 := by omega
      have CX := Lib.hid (fun w => rexact_any c (c.bt - j - 1) w HO.out hp.1 hp.2)
      have hw1 : wrap64 (c.bt - (j : Int)) = c.bt - j := IntWalk.wrap64_in _ ⟨by omega, by omega⟩
      have hw2 : wrap64 (c.bt - (j : Int) - 1) = c.bt - j - 1 := IntWalk.wrap64_in _ hp
      have hjn : j + 1 ≤ n := by omega
      clear hp hlr hrl a2 a3 a5 a6 hj
      cases hx : exactB c (c.bt - j - 1) with
      | true =>
        rw [hx] at CX
        have HX := Lib.hid hx
        clear hx
        go_wp2_with (go_at_call 29; (with_reducible refine (CX.out _).mono ?_); rintro e w2 ⟨rfl, hb⟩; have HV2 := Lib.hid (HV.out.up hb); clear hb)
        clear a1 a4 z1 z2 z3 z5 hw1 hw2 c0 c1 c2 c3 c4
        go_roundw
        case rel => exact ⟨j + 1, hjn, by go_num, fun i hi => by
          by_cases h : i = j + 1
          · subst h
            have h9 := HX.out
            rwa [show c.bt - ((j + 1 : Nat) : Int) = c.bt - j - 1 by omega]
          · exact HAL.out i (by omega), HV2.out⟩
        case measure => simp [intOf]; omega
      | false =>
        rw [hx] at CX
        clear hx
        go_wp2_with (go_at_call 29; (with_reducible refine (CX.out _).mono ?_); rintro e w2 ⟨rfl, hb⟩; have HV2 := Lib.hid (HV.out.up hb); clear c0 c1 c2 c3 c4 hb; obtain ⟨c0, c1, c2, c3, c4⟩ := box5 HV2.out.i0)
        go_quiet (fail)
        all_goals go_wp2
        all_goals go_ret
        all_goals exact ⟨_, rfl, HE.out, (HV2.out.up (by repeat' (first | (with_reducible exact Below.refl _ _) | (with_reducible assumption) | (with_reducible refine below_over ?_ _ _) | (with_reducible refine Lw.below_alloc ?_ _) | (with_reducible refine Below.drew ?_) | (with_reducible refine below_drewN ?_ _) | (with_reducible refine Below.setCell ?_ ?_ _) | go_size))).below⟩
    · clear hlr hrl a2 a3 a5 a6 hj
      go_wp2
      go_quiet (fail)
      all_goals go_wp2
      all_goals go_ret
      all_goals exact ⟨_, rfl, HE.out, (HV.out.up (by repeat' (first | (with_reducible exact Below.refl _ _) | (with_reducible assumption) | (with_reducible refine below_over ?_ _ _) | (with_reducible refine Lw.below_alloc ?_ _) | (with_reducible refine Below.drew ?_) | (with_reducible refine below_drewN ?_ _) | (with_reducible refine Below.setCell ?_ ?_ _) | go_size))).below⟩
def eA : Cfg := ⟨2, 1, 2, 1, 0⟩
theorem have_then {P Q : Prop} (h : P) (k : P → Q) : Q := k h
theorem eA_ok : eA.Ok := by constructor <;> decide
theorem eA_1 : exactB eA 1 = true := by decide
theorem eA_0 : exactB eA 0 = false := by decide
theorem eA_k : keys eA 1 = 2 := by decide
theorem n_yes (w : World) : Calls Try.prog 11 #[.agg #[.int .i64 2, .int .i64 1, .int .i64 2, .int .i64 1, .int .u64 0], .int .i64 1] w fun e w' => ∃ (p : Addr) (F : Nat → Prop), e = .returned (.tuple #[.pointer (some p), .int .i64 0]) ∧ EX w' p F eA 1 [0, 0] ∧ (∀ k, F k → w.heap.size ≤ k) ∧ Below w.heap.size w w' := by
  have C := enew_yes eA 1 w eA_ok (by omega) (by omega) eA_1
  rw [eA_k] at C
  exact C
theorem n_no (w : World) : Calls Try.prog 11 #[.agg #[.int .i64 2, .int .i64 1, .int .i64 2, .int .i64 1, .int .u64 0], .int .i64 0] w fun e w' => e = .returned (.tuple #[.pointer none, .int .i64 1]) ∧ Below w.heap.size w w' := enew_no eA 0 w eA_ok (by omega) (by omega) eA_0
theorem u1 : exCode eA.md [0, 0] 1 5 = 0 ∧ exRes eA.md [0, 0] 1 5 = [0, 5] := by decide
theorem u2 : exCode eA.md [0, 5] 2 5 = 2 ∧ exRes eA.md [0, 5] 2 5 = [0, 5] := by decide
theorem up_any (p : Addr) (F : Nat → Prop) (L M : List Int) (k d x : Int) (w : World) (h : EX w p F eA 1 L) (k0 : 0 ≤ k) (k1 : k ≤ 18446744073709551615) (d0 : -9223372036854775808 ≤ d) (d1 : d ≤ 9223372036854775807) (hu : exCode eA.md L k d = x ∧ exRes eA.md L k d = M) :
    Calls Try.prog 25 #[.pointer (some p), .int .u64 k, .int .i64 d] w fun e w' => e = .returned (.int .i64 x) ∧ ∃ F', EX w' p F' eA 1 M ∧ Kept F w w' ∧ (∀ q, F' q → F q ∨ w.heap.size ≤ q) := by
  have C := eupd_any p F eA 1 L k d w h k0 k1 d0 d1
  rw [hu.1, hu.2] at C
  exact C
theorem pt_any (p : Addr) (F : Nat → Prop) (w : World) (h : EX w p F eA 1 [0, 5]) : Calls Try.prog 14 #[.pointer (some p), .int .u64 1] w fun e w' => e = .returned (.tuple #[.int .i64 5, .int .i64 0]) ∧ Below w.heap.size w w' :=
  epoint_yes p F eA 1 [0, 5] 1 w h (by omega) (by omega) (by decide)
theorem c_any (p : Addr) (F : Nat → Prop) (w : World) (h : EX w p F eA 1 [0, 5]) : Calls Try.prog 27 #[.pointer (some p)] w fun e w' => e = .returned (.agg #[.int .i64 2, .int .i64 1, .int .i64 2, .int .i64 1, .int .u64 0]) ∧ Below w.heap.size w w' := econfig_any p F eA 1 [0, 5] w h
set_option maxRecDepth 100000 in
set_option maxHeartbeats 8000000 in
theorem shown_any (w : World) : Calls Try.prog 8 #[] w fun e w' => e = .returned (.bool true) ∧ Below w.heap.size w w' := by
  have HV0 : Hid (Have w (w.alloc (.cells #[.int .i64 2, .int .i64 1, .int .i64 2, .int .i64 1, .int .u64 0] 24)) [boxT w.heap.size 24 #[.int .i64 2, .int .i64 1, .int .i64 2, .int .i64 1, .int .u64 0]]) := Lib.hid (box_new w _ _)
  go_enter Try.func8, Try.ntmps8
  go_upto_region 9 with (first
    | (go_at_call 14; (with_reducible refine (pt_any p F3 _ (exI HV4.out.i0)).mono ?_); rintro e w5 ⟨rfl, hb⟩; have HV5 := Lib.hid (HV4.out.up hb); clear hb; clear c0 c1 c2 c3 c4; obtain ⟨c0, c1, c2, c3, c4⟩ := box5 HV5.out.i1)
    | (go_at_call 25; (with_reducible refine (up_any p F2 [0, 5] [0, 5] 2 5 2 _ (exI HV3.out.i0) (by omega) (by omega) (by omega) (by omega) u2).mono ?_); rintro e w4 ⟨rfl, F3, h1, h2, h3⟩; have HV4 := Lib.hid (HV3.out.turn_0 (exT p F3 eA 1 [0, 5]) h1 h2 h3); clear h1 h2 h3; clear c0 c1 c2 c3 c4; obtain ⟨c0, c1, c2, c3, c4⟩ := box5 HV4.out.i1)
    | (go_at_call 25; (with_reducible refine (up_any p F1 [0, 0] [0, 5] 1 5 0 _ (exI HV2.out.i0) (by omega) (by omega) (by omega) (by omega) u1).mono ?_); rintro e w3 ⟨rfl, F2, h1, h2, h3⟩; have HV3 := Lib.hid (HV2.out.turn_0 (exT p F2 eA 1 [0, 5]) h1 h2 h3); clear h1 h2 h3; clear c0 c1 c2 c3 c4; obtain ⟨c0, c1, c2, c3, c4⟩ := box5 HV3.out.i1)
    | (go_at_call 11; (with_reducible refine (n_no _).mono ?_); rintro e w2 ⟨rfl, hb⟩; have HV2 := Lib.hid (HV1.out.up hb); clear hb; clear c0 c1 c2 c3 c4; obtain ⟨c0, c1, c2, c3, c4⟩ := box5 HV2.out.i1)
    | (go_at_call 11; (with_reducible refine (n_yes _).mono ?_); rintro e w1 ⟨p, F1, rfl, h1, h2, hb⟩; have HV1 := Lib.hid (HV0.out.push (exT p F1 eA 1 [0, 0]) hb h1 h2); clear h1 h2 hb; obtain ⟨c0, c1, c2, c3, c4⟩ := box5 HV1.out.i1))
  go_region_held3 (fun w' => w'.cell? ⟨w.heap.size, 0, none⟩ = some (.int .i64 2) ∧ w'.cell? ⟨w.heap.size, 1, none⟩ = some (.int .i64 1) ∧ w'.cell? ⟨w.heap.size, 2, none⟩ = some (.int .i64 2) ∧ w'.cell? ⟨w.heap.size, 3, none⟩ = some (.int .i64 1) ∧ w'.cell? ⟨w.heap.size, 4, none⟩ = some (.int .u64 0)) (first | (refine ⟨?_, ?_, ?_, ?_, ?_⟩ <;> (first | (with_reducible assumption) | (with_reducible refine cell_up c0 ?_) | (with_reducible refine cell_up c1 ?_) | (with_reducible refine cell_up c2 ?_) | (with_reducible refine cell_up c3 ?_) | (with_reducible refine cell_up c4 ?_)) <;> (repeat' (first | (with_reducible exact Below.refl _ _) | (with_reducible assumption) | (with_reducible refine below_over ?_ _ _) | (with_reducible refine Lw.below_alloc ?_ _) | (with_reducible refine Below.drew ?_) | (with_reducible refine below_drewN ?_ _) | (with_reducible refine Below.setCell ?_ ?_ _) | go_size)))) (first
    | (go_at_call 24; (with_reducible refine (ecells_mid p F3 eA 1 [0, 5] _ (exI (HV5.out.up (by repeat' (first | (with_reducible exact Below.refl _ _) | (with_reducible assumption) | (with_reducible refine below_over ?_ _ _) | (with_reducible refine Lw.below_alloc ?_ _) | (with_reducible refine Below.drew ?_) | (with_reducible refine below_drewN ?_ _) | (with_reducible refine Below.setCell ?_ ?_ _) | go_size))).i0)).mono ?_); rintro e w6 ⟨g, cap, rfl, h1, h2, -, -, hb⟩; have RD6 := Lib.hid h1.rd; have hb6 : Below w5.heap.size w5 w6 := below_call (show Below w5.heap.size w5 _ from (by repeat' (first | (with_reducible exact Below.refl _ _) | (with_reducible assumption) | (with_reducible refine below_over ?_ _ _) | (with_reducible refine Lw.below_alloc ?_ _) | (with_reducible refine Below.drew ?_) | (with_reducible refine below_drewN ?_ _) | (with_reducible refine Below.setCell ?_ ?_ _) | go_size))) hb (Nat.le_refl _); (first | (refine have_then (P := w6.cell? ⟨w5.heap.size, 0, none⟩ = some (.int .i64 0) ∧ w6.cell? ⟨w5.heap.size, 1, none⟩ = some (.int .i64 5)) ?_ ?_; ((refine ⟨?_, ?_⟩) <;> (with_reducible refine cell_up ?_ hb) <;> (simp [go_sem]; done)); rintro ⟨l0, l1⟩) | skip); clear h1 h2 hb)
    | (go_at_call 26; (with_reducible refine (rsame_any _ _ 2 2 _ _ [0, 5] [0, 5] _ (RD6.out.up (by repeat' (first | (with_reducible exact Below.refl _ _) | (with_reducible assumption) | (with_reducible refine below_over ?_ _ _) | (with_reducible refine Lw.below_alloc ?_ _) | (with_reducible refine Below.drew ?_) | (with_reducible refine below_drewN ?_ _) | (with_reducible refine Below.setCell ?_ ?_ _) | go_size))) (lit2 (by first | assumption | (simp [go_sem]; done)) (by first | assumption | (simp [go_sem]; done))) rfl rfl (by omega) (by omega)).mono ?_); rintro e w7 ⟨rfl, hb⟩; have hb7 : Below w5.heap.size w5 w7 := below_call (show Below w5.heap.size w5 _ from (by repeat' (first | (with_reducible exact Below.refl _ _) | (with_reducible assumption) | (with_reducible refine below_over ?_ _ _) | (with_reducible refine Lw.below_alloc ?_ _) | (with_reducible refine Below.drew ?_) | (with_reducible refine below_drewN ?_ _) | (with_reducible refine Below.setCell ?_ ?_ _) | go_size))) hb (Nat.le_refl _); clear hb)
    | (go_at_call 28; (with_reducible refine (elevel_any p F3 eA 1 [0, 5] _ (exI (HV5.out.up (by repeat' (first | (with_reducible exact Below.refl _ _) | (with_reducible assumption) | (with_reducible refine below_over ?_ _ _) | (with_reducible refine Lw.below_alloc ?_ _) | (with_reducible refine Below.drew ?_) | (with_reducible refine below_drewN ?_ _) | (with_reducible refine Below.setCell ?_ ?_ _) | go_size))).i0)).mono ?_); rintro e w8 ⟨rfl, hb⟩; have hb8 : Below w5.heap.size w5 w8 := below_call (show Below w5.heap.size w5 _ from (by repeat' (first | (with_reducible exact Below.refl _ _) | (with_reducible assumption) | (with_reducible refine below_over ?_ _ _) | (with_reducible refine Lw.below_alloc ?_ _) | (with_reducible refine Below.drew ?_) | (with_reducible refine below_drewN ?_ _) | (with_reducible refine Below.setCell ?_ ?_ _) | go_size))) hb (Nat.le_refl _); clear hb)
    | (go_at_call 27; (with_reducible refine (c_any p F3 _ (exI (HV5.out.up (by repeat' (first | (with_reducible exact Below.refl _ _) | (with_reducible assumption) | (with_reducible refine below_over ?_ _ _) | (with_reducible refine Lw.below_alloc ?_ _) | (with_reducible refine Below.drew ?_) | (with_reducible refine below_drewN ?_ _) | (with_reducible refine Below.setCell ?_ ?_ _) | go_size))).i0)).mono ?_); rintro e w9 ⟨rfl, hb⟩; have hb9 : Below w5.heap.size w5 w9 := below_call (show Below w5.heap.size w5 _ from (by repeat' (first | (with_reducible exact Below.refl _ _) | (with_reducible assumption) | (with_reducible refine below_over ?_ _ _) | (with_reducible refine Lw.below_alloc ?_ _) | (with_reducible refine Below.drew ?_) | (with_reducible refine below_drewN ?_ _) | (with_reducible refine Below.setCell ?_ ?_ _) | go_size))) hb (Nat.le_refl _); clear hb))
  all_goals go_wp2
  all_goals go_ret
  all_goals exact ⟨ret_bs (by first | rfl | (simp [*]; done)), (HV5.out.up (by repeat' (first | (with_reducible exact Below.refl _ _) | (with_reducible assumption) | (with_reducible refine below_over ?_ _ _) | (with_reducible refine Lw.below_alloc ?_ _) | (with_reducible refine Below.drew ?_) | (with_reducible refine below_drewN ?_ _) | (with_reducible refine Below.setCell ?_ ?_ _) | go_size))).below⟩
end Go.Proofs.Ytnhknachabephaa.Exa
/- What several laws of layer 12 share. Printed by wip/gen/exalaws.py. -/
namespace Go.Proofs.Ytnhknachabephaa.Exa
open Go Go.RowKit Lw Grd Lin Con Shp Sk
set_option linter.unusedVariables false
set_option linter.unusedSimpArgs false
theorem lst_int64_c : Try.prog.cellsOf 2 = 1 := by kernel_rfl
set_option maxRecDepth 100000 in
theorem open_list_int64 {H : Type} {enc : TypeId × Value → H} {W : World} {v : Value} {d : DataW H} {p : List MemPlace} {base : Nat} (hv : Value.okWide Try.prog W .any base 46 v)
    (h : DataW.Trod enc Try.prog W 0 (fun _ => true) true 46 v d p) :
    ∃ (A : Option Addr) (n cap : Nat) (zs : List Int), v = .slice A n cap ∧ (A = none → n = 0 ∧ cap = 0) ∧ n ≤ cap ∧ cap ≤ maxLen ∧ Rd .i64 W A zs ∧ zs.length = n ∧ (∀ v ∈ zs, -9223372036854775808 ≤ v ∧ v ≤ 9223372036854775807) := by
  obtain ⟨a0, len, cap, rfl⟩ := Go.WideShapes.okWide_slice Try.underlying46 hv
  obtain ⟨fuel, hf⟩ := h
  rcases Go.ChangeShapes.open_ints Try.underlying46 Try.underlying2 lst_int64_c hf with ⟨hcs, _⟩ | ⟨a, len', cap', zs, hcs, _, hl, hm, hz, _, hcell, hwz⟩
  · simp [Value.cells] at hcs
    obtain ⟨rfl, rfl, rfl⟩ := hcs
    exact ⟨none, 0, 0, [], rfl, fun _ => ⟨rfl, rfl⟩, Nat.le_refl _, by simp, rd_nil _ _ _, rfl, fun v h => by simp at h⟩
  · simp [Value.cells] at hcs
    obtain ⟨rfl, rfl, rfl⟩ := hcs
    have hz2 : zs.length = cap := by simpa using hz
    refine ⟨some a, len, cap, zs.take len, rfl, (fun h => by cases h), hl, hm, ?_, by simp; omega, ?_⟩
    · intro k v hk
      rw [List.getElem?_take] at hk
      split at hk
      · refine ⟨a, rfl, ?_⟩
        rw [hcell k (by omega)]
        simp [hk]
      · cases hk
    · intro v hv
      exact Lw.wf_i64 (hwz v (List.mem_of_mem_take hv))
theorem arr2_int_u : Try.prog.underlying 61 = some (.array 2 3) := by kernel_rfl
theorem arr2_int_c : Try.prog.cellsOf 61 = 2 := by kernel_rfl
theorem arr2_int_e : Try.prog.cellsOf 3 = 1 := by kernel_rfl
theorem arr2_int_k : Try.prog.underlying 3 = some (.int .i64) := by kernel_rfl
theorem arr2_int_l {α : Type} (T : Array α) (h : T.size = 2) : ∃ x0 x1 : α, T = #[x0, x1] := by
  obtain ⟨l⟩ := T
  match l, h with
  | [x0, x1], _ => exact ⟨x0, x1, rfl⟩
set_option maxRecDepth 100000 in
theorem open_arr2_int {H : Type} {enc : TypeId × Value → H} {W : World} {v : Value} {d : DataW H} {p : List MemPlace} {base : Nat} (hv : Value.okWide Try.prog W .any base 61 v)
    (h : DataW.Trod enc Try.prog W 0 (fun _ => true) true 61 v d p) :
    ∃ x0 x1 : Int, v = .agg #[.int .i64 x0, .int .i64 x1] ∧ (-9223372036854775808 ≤ x0 ∧ x0 ≤ 9223372036854775807) ∧ (-9223372036854775808 ≤ x1 ∧ x1 ≤ 9223372036854775807) := by
  have hcs : ∃ cs : Array Value, v = .agg cs ∧ cs.size = Try.prog.cellsOf 61 := by
    simp only [Value.okWide, arr2_int_u] at hv
    obtain ⟨cs, h1, h2, _⟩ := hv
    exact ⟨cs, h1, h2⟩
  obtain ⟨cs, rfl, hsz⟩ := hcs
  obtain ⟨c0, c1, rfl⟩ := arr2_int_l _ (hsz.trans arr2_int_c)
  obtain ⟨fuel, hf⟩ := h
  obtain ⟨xs, m, _, _, _, hlen, hg⟩ := DataW.trod_array arr2_int_u hf
  have g0 := hg 0 (by omega)
  have g1 := hg 1 (by omega)
  rw [arr2_int_e] at g0 g1
  match xs, hlen with
  | [y0, y1], _ =>
    simp [Value.cells] at g0 g1
    obtain ⟨x0, e0, _, w0⟩ := DataW.trod_int arr2_int_k g0
    obtain ⟨x1, e1, _, w1⟩ := DataW.trod_int arr2_int_k g1
    simp at e0 e1
    subst e0 e1
    exact ⟨x0, x1, rfl, Lw.wf_i64 w0, Lw.wf_i64 w1⟩
theorem open_opk_u : Try.prog.underlying 25 = some (.slice 37) := by kernel_rfl
theorem open_opk_c : Try.prog.cellsOf 37 = 3 := by kernel_rfl
set_option maxRecDepth 100000 in
theorem open_opk {H : Type} {enc : TypeId × Value → H} {w : World} {base fuel : Nat} {spare : Nat → Bool} {held : Bool} {cs : List Value} {x : DataW H × List MemPlace} (h : DataW.trod enc Try.prog w base spare held fuel 25 cs = some x) :
    ∃ (A : Option Addr) (len cap : Nat) (qs : List (Int × Int × Int)), cs = [.slice A len cap] ∧ (A = none → len = 0 ∧ cap = 0) ∧ len ≤ cap ∧ cap ≤ maxLen ∧ qs.length = len ∧ ∀ (i : Nat) q, qs[i]? = some q → ∃ a, A = some a ∧ w.cell? (a.add (i * 3)) = some (.int .i64 (q.1)) ∧ w.cell? (a.add (i * 3 + 1)) = some (.int .u64 (q.2.1)) ∧ w.cell? (a.add (i * 3 + 2)) = some (.int .i64 (q.2.2)) ∧ (-9223372036854775808 ≤ (q.1) ∧ (q.1) ≤ 9223372036854775807) ∧ (0 ≤ (q.2.1) ∧ (q.2.1) ≤ 18446744073709551615) ∧ (-9223372036854775808 ≤ (q.2.2) ∧ (q.2.2) ≤ 9223372036854775807) := by
  rcases Go.Deep.open_slice open_opk_u h with ⟨rfl, _⟩ | ⟨a, len, cap, m, n, D, Pl, rfl, hb, hl, hm, hmm, _, hx⟩
  · exact ⟨none, 0, 0, [], rfl, fun _ => ⟨rfl, rfl⟩, Nat.le_refl _, by simp, rfl, fun i q hq => by simp at hq⟩
  have hlm : len ≤ m := by rw [hmm]; split <;> omega
  have each : ∀ i, i < len → ∃ q : Int × Int × Int, w.cell? (a.add (i * 3)) = some (.int .i64 (q.1)) ∧ w.cell? (a.add (i * 3 + 1)) = some (.int .u64 (q.2.1)) ∧ w.cell? (a.add (i * 3 + 2)) = some (.int .i64 (q.2.2)) ∧ (-9223372036854775808 ≤ (q.1) ∧ (q.1) ≤ 9223372036854775807) ∧ (0 ≤ (q.2.1) ∧ (q.2.1) ≤ 18446744073709551615) ∧ (-9223372036854775808 ≤ (q.2.2) ∧ (q.2.2) ≤ 9223372036854775807) := by
    intro i hi
    obtain ⟨cs', h1, h2⟩ := hx i (by omega)
    rw [open_opk_c] at h1
    obtain ⟨_, hlen, hcell⟩ := World.cells?_some h1
    obtain ⟨xs, k, _, _, _, hxl, hf⟩ := DataW.trod_struct Try.underlying37 h2
    match xs, hxl, cs', hlen with
    | [y0, y1, y2], _, [v0, v1, v2], _ =>
      have g0 := hf 0 _ rfl
      have g1 := hf 1 _ rfl
      have g2 := hf 2 _ rfl
      have e0 := hcell 0 (by omega)
      have e1 := hcell 1 (by omega)
      have e2 := hcell 2 (by omega)
      rw [add_add'] at e0 e1 e2
      simp [show Try.prog.cellsOf 3 = 1 from by kernel_rfl, show Try.prog.cellsOf 22 = 1 from by kernel_rfl, show Try.prog.cellsOf 2 = 1 from by kernel_rfl] at g0 g1 g2
      obtain ⟨x0, f0, _, w0⟩ := DataW.trod_int (show Try.prog.underlying 3 = some (.int .i64) by kernel_rfl) g0
      obtain ⟨x1, f1, _, w1⟩ := DataW.trod_int (show Try.prog.underlying 22 = some (.int .u64) by kernel_rfl) g1
      obtain ⟨x2, f2, _, w2⟩ := DataW.trod_int (show Try.prog.underlying 2 = some (.int .i64) by kernel_rfl) g2
      simp at f0 f1 f2
      subst f0 f1 f2
      exact ⟨(x0, x1, x2), by simpa using e0, by simpa using e1, by simpa using e2, Lw.wf_i64 w0, Lw.wf_u64 w1, Lw.wf_i64 w2⟩
  have each2 : ∀ i, ∃ q : Int × Int × Int, i < len → (w.cell? (a.add (i * 3)) = some (.int .i64 (q.1)) ∧ w.cell? (a.add (i * 3 + 1)) = some (.int .u64 (q.2.1)) ∧ w.cell? (a.add (i * 3 + 2)) = some (.int .i64 (q.2.2)) ∧ (-9223372036854775808 ≤ (q.1) ∧ (q.1) ≤ 9223372036854775807) ∧ (0 ≤ (q.2.1) ∧ (q.2.1) ≤ 18446744073709551615) ∧ (-9223372036854775808 ≤ (q.2.2) ∧ (q.2.2) ≤ 9223372036854775807)) := fun i => by
    by_cases hi : i < len
    · obtain ⟨q, hq⟩ := each i hi
      exact ⟨q, fun _ => hq⟩
    · exact ⟨(0, 0, 0), fun h => absurd h hi⟩
  refine ⟨some a, len, cap, (List.range len).map fun i => Classical.choose (each2 i), rfl, (fun h => by cases h), hl, hm, by simp, ?_⟩
  intro i q hq
  rw [List.getElem?_map] at hq
  obtain ⟨j, hj, rfl⟩ := Option.map_eq_some_iff.1 hq
  have hj2 := List.getElem?_eq_some_iff.1 hj
  obtain ⟨hj3, hj4⟩ := hj2
  simp at hj3 hj4
  subst hj4
  exact ⟨a, rfl, Classical.choose_spec (each2 i) hj3⟩
theorem Have.perm {w0 w : World} {ts us : List Thing} (hp : ts.Perm us) : Have w0 w ts → Have w0 w us := by
  induction hp with
  | nil => exact fun h => h
  | cons t hp ih =>
    intro h
    exact ⟨h.1, h.2.1, fun u hu => h.2.2.1 u (hp.mem_iff.2 hu), ih h.2.2.2⟩
  | swap a b l =>
    intro h
    obtain ⟨h1, h2, h3, h4, h5, h6, h7⟩ := h
    exact ⟨h4, h5, fun u hu => by
      rcases List.mem_cons.1 hu with rfl | hu
      · exact fun k hk hk2 => h3 a (by simp) k hk2 hk
      · exact h6 u hu, h1, h2, fun u hu => h3 u (by simp [hu]), h7⟩
  | trans _ _ ih1 ih2 => exact fun h => ih2 (ih1 h)
abbrev Opk := Int × Int × Int
/-- A row of ops, handed in. -/
structure OpkV (w : World) (A : Option Addr) (n c : Nat) (qs : List Opk) : Prop where
  nil : A = none → n = 0 ∧ c = 0
  nc : n ≤ c
  cm : c ≤ maxLen
  len : qs.length = n
  each : ∀ (i : Nat) q, qs[i]? = some q → ∃ a, A = some a ∧ w.cell? (a.add (i * 3)) = some (.int .i64 (q.1)) ∧ w.cell? (a.add (i * 3 + 1)) = some (.int .u64 (q.2.1)) ∧ w.cell? (a.add (i * 3 + 2)) = some (.int .i64 (q.2.2)) ∧ (-9223372036854775808 ≤ (q.1) ∧ (q.1) ≤ 9223372036854775807) ∧ (0 ≤ (q.2.1) ∧ (q.2.1) ≤ 18446744073709551615) ∧ (-9223372036854775808 ≤ (q.2.2) ∧ (q.2.2) ≤ 9223372036854775807)
theorem OpkV.at {w : World} {A : Option Addr} {n c : Nat} {qs : List Opk} (h : OpkV w A n c qs) {i : Nat} {q : Opk} (hq : qs[i]? = some q) : ∃ (a : Addr) (g o : Nat), A = some a ∧ a.add (i * 3) = ⟨g, o, none⟩ ∧ w.cell? ⟨g, o, none⟩ = some (.int .i64 q.1) ∧ w.cell? ⟨g, o + 1, none⟩ = some (.int .u64 q.2.1) ∧ w.cell? ⟨g, o + 2, none⟩ = some (.int .i64 q.2.2) ∧ (0 ≤ q.2.1 ∧ q.2.1 ≤ 18446744073709551615) ∧ (-9223372036854775808 ≤ q.2.2 ∧ q.2.2 ≤ 9223372036854775807) := by
  obtain ⟨a, e, h1, h2, h3, _, h5, h6⟩ := h.each i q hq
  rw [← add_add'] at h2 h3
  have hs : (a.add (i * 3)).spot = none := by
    unfold World.cell? at h1
    split at h1
    · split at h1
      · cases h1
      · rename_i hs; simpa using hs
    · cases h1
  obtain ⟨ad, had⟩ : ∃ ad, a.add (i * 3) = ad := ⟨_, rfl⟩
  rw [had] at h1 h2 h3 hs
  obtain ⟨g, o, sp⟩ := ad
  simp only at hs
  subst hs
  rw [Ord.add_at] at h2 h3
  exact ⟨a, g, o, e, had, h1, h2, h3, h5, h6⟩
theorem open_playE_c : Try.prog.cellsOf 57 = 7 := by kernel_rfl
set_option maxRecDepth 100000 in
theorem open_playE {H : Type} {enc : TypeId × Value → H} {w : World} {v : Value} {d : DataW H} {p : List MemPlace} {base : Nat} (hv : Value.okWide Try.prog w .any base 57 v)
    (h : DataW.Trod enc Try.prog w 0 (fun _ => true) true 57 v d p) :
    ∃ (c : Cfg) (lv : Int) (A : Option Addr) (n k : Nat) (qs : Ups), v = .agg #[.int .i64 c.bt, .int .i64 c.rw, .int .i64 c.wd, .int .i64 c.md, .int .u64 c.sd, .int .i64 lv, .slice A n k] ∧ c.Ok ∧ (-9223372036854775808 ≤ lv ∧ lv ≤ 9223372036854775807) ∧ UpdV w A n k qs := by
  have hcs : ∃ cs : Array Value, v = .agg cs ∧ cs.size = Try.prog.cellsOf 57 := by
    simp only [Value.okWide, Try.underlying57] at hv
    obtain ⟨cs, h1, h2, _⟩ := hv
    exact ⟨cs, h1, h2⟩
  obtain ⟨⟨l⟩, rfl, hsz⟩ := hcs
  rw [open_playE_c] at hsz
  obtain ⟨fuel, hf0⟩ := h
  obtain ⟨xs, k, _, _, _, hxl, hf⟩ := DataW.trod_struct Try.underlying57 hf0
  match xs, hxl, l, hsz with
  | [y0, y1, y2], _, [v0, v1, v2, v3, v4, v5, v6], _ =>
    have g0 := hf 0 _ rfl
    have g1 := hf 1 _ rfl
    have g2 := hf 2 _ rfl
    simp [Value.cells, show Try.prog.cellsOf 3 = 1 from by kernel_rfl, show Try.prog.cellsOf 24 = 5 from by kernel_rfl, show Try.prog.cellsOf 55 = 1 from by kernel_rfl] at g0 g1 g2
    obtain ⟨zs, k2, _, _, _, hzl, hz⟩ := DataW.trod_struct Try.underlying24 g0
    match zs, hzl with
    | [z0, z1, z2, z3, z4], _ =>
      have c0 := hz 0 _ rfl
      have c1 := hz 1 _ rfl
      have c2 := hz 2 _ rfl
      have c3 := hz 3 _ rfl
      have c4 := hz 4 _ rfl
      simp [show Try.prog.cellsOf 3 = 1 from by kernel_rfl, show Try.prog.cellsOf 22 = 1 from by kernel_rfl] at c0 c1 c2 c3 c4
      obtain ⟨x0, f0, _, w0⟩ := DataW.trod_int (show Try.prog.underlying 3 = some (.int .i64) by kernel_rfl) c0
      simp at f0
      subst f0
      obtain ⟨x1, f1, _, w1⟩ := DataW.trod_int (show Try.prog.underlying 3 = some (.int .i64) by kernel_rfl) c1
      simp at f1
      subst f1
      obtain ⟨x2, f2, _, w2⟩ := DataW.trod_int (show Try.prog.underlying 3 = some (.int .i64) by kernel_rfl) c2
      simp at f2
      subst f2
      obtain ⟨x3, f3, _, w3⟩ := DataW.trod_int (show Try.prog.underlying 3 = some (.int .i64) by kernel_rfl) c3
      simp at f3
      subst f3
      obtain ⟨x4, f4, _, w4⟩ := DataW.trod_int (show Try.prog.underlying 22 = some (.int .u64) by kernel_rfl) c4
      simp at f4
      subst f4
      obtain ⟨x5, f5, _, w5⟩ := DataW.trod_int (show Try.prog.underlying 3 = some (.int .i64) by kernel_rfl) g1
      simp at f5
      subst f5
      obtain ⟨A, n, cp, qs, f6, h0, h1, h2, h3, h4⟩ := open_upds g2
      simp at f6
      subst f6
      have b0 := Lw.wf_i64 w0
      have b1 := Lw.wf_i64 w1
      have b2 := Lw.wf_i64 w2
      have b3 := Lw.wf_i64 w3
      have b4 := Lw.wf_u64 w4
      exact ⟨⟨x0, x1, x2, x3, x4⟩, x5, A, n, cp, qs, rfl, ⟨b0.1, b0.2, b1.1, b1.2, b2.1, b2.2, b3.1, b3.2, b4.1, b4.2⟩, Lw.wf_i64 w5, ⟨h0, h1, h2, h3, h4⟩⟩
theorem three_boxs (w : World) (e1 e2 e3 : TypeId) (v1 v2 v3 : Array Value) : Have w (((w.alloc (.cells v1 e1)).alloc (.cells v2 e2)).alloc (.cells v3 e3)) [boxT (w.heap.size + 1 + 1) e3 v3, boxT (w.heap.size + 1) e2 v2, boxT w.heap.size e1 v1] := by
  refine (two_boxs w e1 e2 v1 v2).push (boxT (w.heap.size + 1 + 1) e3 v3) (Lw.below_alloc (Below.refl _ _) _) ?_ (fun k hk => ?_)
  · have h := heap_alloc_new ((w.alloc (.cells v1 e1)).alloc (.cells v2 e2)) (.cells v3 e3)
    rw [World.size_alloc, World.size_alloc] at h
    exact h
  · rw [World.size_alloc, World.size_alloc]
    exact Nat.le_of_eq hk.symm
theorem zero_num (n : Nat) (k : Int) : num (List.replicate n 0) k = 0 := by
  unfold num
  rw [List.getElem?_replicate]
  split <;> rfl
theorem one_up {md : Int} {n : Nat} {d : Int} (hn : 1 ≤ n) (d0 : 0 ≤ d) (d1 : d ≤ 100) : exCode md (List.replicate n 0) 0 d = 0 ∧ exRes md (List.replicate n 0) 0 d = (List.replicate n 0).set 0 d := by
  have h := ex_yes (md := md) (L := List.replicate n 0) (k := 0) (d := d) (by rw [List.length_replicate]; omega) (fun h => by omega) (by rw [zero_num]; exact (Wid.fit64_yes (by omega) (by omega)).1)
  rw [zero_num, Int.zero_add] at h
  exact h
theorem one_rows (a b : Int) (m : Nat) : rowS 1 ((List.replicate (m + 1) 0).set 0 a) ((List.replicate (m + 1) 0).set 0 b) = (a + b) :: List.replicate m 0 := by
  unfold rowS
  rw [List.replicate_succ, List.set_cons_zero, List.set_cons_zero, List.zipWith_cons_cons]
  simp
theorem one_join {n : Nat} {a b : Int} (hn : 1 ≤ n) (a0 : 0 ≤ a) (a1 : a ≤ 100) (b0 : 0 ≤ b) (b1 : b ≤ 100) : exJ 1 ((List.replicate n 0).set 0 a) ((List.replicate n 0).set 0 b) = 0 ∧ num (exM 1 ((List.replicate n 0).set 0 a) ((List.replicate n 0).set 0 b)) 0 = a + b ∧ (exM 1 ((List.replicate n 0).set 0 a) ((List.replicate n 0).set 0 b)).length = n := by
  obtain ⟨m, rfl⟩ : ∃ m, n = m + 1 := ⟨n - 1, by omega⟩
  have hf : ((a + b) :: List.replicate m 0).all Wid.fit64 = true := by
    rw [List.all_eq_true]
    intro z hz
    rcases List.mem_cons.1 hz with rfl | hz
    · exact (Wid.fit64_yes (by omega) (by omega)).1
    · rw [(List.mem_replicate.1 hz).2]
      decide
  unfold exJ exM
  rw [one_rows, if_pos hf, if_pos hf]
  exact ⟨rfl, rfl, by simp⟩
end Go.Proofs.Ytnhknachabephaa.Exa
/- What each key has, update by update, in numbers. For layer 12. Printed by wip/gen/exalaws.py. -/
namespace Go.Proofs.Ytnhknachabephaa.Exa
open Go Go.RowKit Lw Grd Lin Con Shp Sk
set_option linter.unusedVariables false
def UpsE (md : Int) (K : Nat) (us : Ups) : Prop := ∀ u ∈ us, 0 ≤ u.1 ∧ u.1 < K ∧ -1099511627776 ≤ u.2 ∧ u.2 ≤ 1099511627776 ∧ (md = 2 → 0 ≤ u.2)
theorem UpsE.rev {md : Int} {K : Nat} {us : Ups} (h : UpsE md K us) : UpsE md K us.reverse := fun u hu => h u (List.mem_reverse.1 hu)
theorem sums_next {md : Int} {K : Nat} {us : Ups} {i : Nat} {u : Int × Int} (hE : UpsE md K us) (hl : us.length ≤ 60) (hu : us[i]? = some u) :
    exCode md (sums K (us.take i)) u.1 u.2 = 0 ∧ exRes md (sums K (us.take i)) u.1 u.2 = sums K (us.take (i + 1)) ∧ (sums K (us.take i)).set u.1.toNat (num (sums K (us.take i)) u.1 + u.2) = sums K (us.take (i + 1)) ∧ -9223372036854775808 ≤ num (sums K (us.take i)) u.1 + u.2 ∧ num (sums K (us.take i)) u.1 + u.2 ≤ 9223372036854775807 := by
  obtain ⟨h1, e1⟩ := List.getElem?_eq_some_iff.1 hu
  have ht : us.take (i + 1) = us.take i ++ [u] := by rw [List.take_succ_eq_append_getElem h1, e1]
  have hm : u ∈ us := List.mem_of_getElem? hu
  have h0 := hE u hm
  have hb : ∀ v ∈ us.take i ++ [u], -1099511627776 ≤ v.2 ∧ v.2 ≤ 1099511627776 := by
    intro v hv
    rcases List.mem_append.1 hv with h | h
    · have := hE v (List.mem_of_mem_take h)
      exact ⟨this.2.2.1, this.2.2.2.1⟩
    · rw [List.mem_singleton] at h
      subst h
      exact ⟨h0.2.2.1, h0.2.2.2.1⟩
  have hln : (us.take i).length ≤ 60 := by rw [List.length_take]; omega
  have hs := sums_step (md := md) h0.1 h0.2.1 hln hb h0.2.2.2.2
  have hc := sums_snoc (us := us.take i) h0.1 h0.2.1
  have hz := ex_zero hs.1
  have hf := in64_fit hz.2
  rw [ht]
  exact ⟨hs.1, hs.2, hc.symm, hf.1, hf.2⟩
theorem cut_UpsE {c : Cfg} {l : Int} {K : Nat} (hk : keys c l = K) (h1 : 1 ≤ K) (qs : Ups) : UpsE c.md K (qs.map (cutU c l)) := by
  intro u hu
  obtain ⟨v, _, rfl⟩ := List.mem_map.1 hu
  have h := cutU_ok (c := c) (l := l) (by omega) v
  rw [hk] at h
  exact ⟨h.1, h.2.1, h.2.2.1, h.2.2.2.1, h.2.2.2.2⟩
theorem cut_get {c : Cfg} {l : Int} {qs : Ups} {N i : Nat} {q : Int × Int} (hi : i < N) (hq : qs[i]? = some q) : ((qs.take N).map (cutU c l))[i]? = some (cutU c l q) := by
  rw [List.getElem?_map, List.getElem?_take, if_pos hi, hq]
  rfl
theorem rev_get {us : Ups} {N i : Nat} {u : Int × Int} (hl : us.length = N) (hi : i < N) (hq : us[N - 1 - i]? = some u) : us.reverse[i]? = some u := by
  rw [List.getElem?_reverse (by omega), hl]
  exact hq
theorem cut_parts (c : Cfg) (l K : Int) (hk : keys c l = K) (h1 : 1 ≤ K) (q : Int × Int) (k0 : 0 ≤ q.1) (k1 : q.1 ≤ 18446744073709551615) : Int.tmod q.1 K = (cutU c l q).1 ∧ 0 ≤ (cutU c l q).1 ∧ (cutU c l q).1 < K ∧ (c.md ≠ 2 → Int.tmod q.2 1099511627776 = (cutU c l q).2) ∧ (c.md = 2 → (cutU c l q).2 = if Int.tmod q.2 1099511627776 < -Int.tmod q.2 1099511627776 then -Int.tmod q.2 1099511627776 else Int.tmod q.2 1099511627776) := by
  have h := cutU_ok (c := c) (l := l) (by omega) q
  rw [hk] at h
  refine ⟨?_, h.1, h.2.1, fun hm => ?_, fun hm => ?_⟩
  · rw [Int.tmod_eq_emod_of_nonneg k0]
    unfold cutU
    rw [hk]
  · unfold cutU dv
    simp [hm]
  · unfold cutU dv
    simp only [hm, decide_true, if_pos]
    split <;> split <;> first | rfl | omega
end Go.Proofs.Ytnhknachabephaa.Exa
