/- The walk of the document's Raise. Printed by wip/gen/con.py. -/
import Derived.Test.YtonbidohhgenlaaConDef
import Derived.Test.YtonbidohhgenlaaLinChg
import Derived.Deep.DeepCutAuto
import Derived.Deep.LoopGhost
import Derived.Deep.RegionHeld3
import Derived.Deep.QuietTactic
import Derived.BigQuiet
import Derived.WalkSpells
namespace Go.Proofs.Ytonbidohhgenlaa.Con
open Go Go.RowKit Lw Grd Lin
set_option linter.unusedVariables false
set_option linter.unusedSimpArgs false
theorem rlea_any (q : Addr) (F : Nat → Prop) (m n : Nat) (L : List (List Int)) (A : Option Addr) (N cap : Nat) (cols : List Int) (w : World) (h : DG w q F m n L) (hc : Rd .i64 w A cols) (hl : cols.length = N) (hN : N ≤ 1000) (hz : In64 cols) (hm : Meets m n cols) :
    Calls Try.prog 28 #[.pointer (some q), .slice A N cap] w fun e w' => e = .returned (.tuple #[.int .i64 (lea L cols), .int .i64 0]) ∧ Below w.heap.size w w' := by
  refine (rleast_any q F m n L A N cap cols w h hc hl hN hz).mono fun e w' ⟨he, hb⟩ => ?_
  have e1 : readOf m n L cols = named L cols := if_pos hm
  have e2 : rdCode m n cols = 0 := if_pos hm
  rw [e1, e2] at he
  exact ⟨he, hb⟩
theorem rlea_no (q : Addr) (F : Nat → Prop) (m n : Nat) (L : List (List Int)) (A : Option Addr) (N cap : Nat) (cols : List Int) (w : World) (h : DG w q F m n L) (hc : Rd .i64 w A cols) (hl : cols.length = N) (hN : N ≤ 1000) (hz : In64 cols) (hm : ¬ Meets m n cols) :
    Calls Try.prog 28 #[.pointer (some q), .slice A N cap] w fun e w' => e = .returned (.tuple #[.int .i64 0, .int .i64 1]) ∧ Below w.heap.size w w' := by
  refine (rleast_any q F m n L A N cap cols w h hc hl hN hz).mono fun e w' ⟨he, hb⟩ => ?_
  have e1 : readOf m n L cols = [] := if_neg hm
  have e2 : rdCode m n cols = 1 := if_neg hm
  rw [e1, e2, (Ord.kv_no (l := []) (k := _) (by simp)).1] at he
  exact ⟨he, hb⟩
set_option maxRecDepth 100000 in
set_option maxHeartbeats 8000000 in
theorem rraise_any (q : Addr) (F : Nat → Prop) (m n : Nat) (L : List (List Int)) (A : Option Addr) (N cap : Nat) (cols : List Int) (d : Int) (w : World) (h : DG w q F m n L) (hc : Rd .i64 w A cols) (hap : ∀ a, A = some a → ¬ F a.block) (hl : cols.length = N) (hN : N ≤ 1000) (hz : In64 cols) (d0 : -9223372036854775808 ≤ d) (d1 : d ≤ 9223372036854775807) :
    Calls Try.prog 12 #[.pointer (some q), .slice A N cap, .int .i64 d] w fun e w' => e = .returned (.int .i64 (rsCode m n L cols d)) ∧ ∃ G', DG w' q G' m n (rsRes m n L cols d) ∧ Kept F w w' ∧ (∀ k, G' k → F k ∨ w.heap.size ≤ k) := by
  have HH := Lib.hid h
  have hm8 := h.dims.m8
  have hn128 := h.dims.n128
  by_cases hme : Meets m n cols
  · have C := Lib.hid (rlea_any q F m n L A N cap cols w h hc hl hN hz hme)
    have hlb := lea_in (cols := cols) h.dims
    obtain ⟨y, hy⟩ : ∃ y, lea L cols = y := ⟨_, rfl⟩
    have HY := Lib.hid hy
    rw [hy] at C hlb
    clear hy
    by_cases hd0 : d < 0
    · have HO := Lib.hid (rs_neg (L := L) hme hd0)
      clear h hc hl hz hme hap
      go_enter Try.func12, Try.ntmps12
      go_wp2_with (go_at_call 28; (with_reducible refine C.out.mono ?_); rintro e w2 ⟨rfl, hb2⟩; have HB := Lib.hid hb2; clear hb2)
      go_ret
      exact ⟨ret_i HO.out.1.symm, F, HO.out.2.symm ▸ dg_up HH.out HB.out, Kept.of_below HB.out, fun k h => .inl h⟩
    · cases hf : Wid.fit64 (y + d) with
      | false =>
        have HO := Lib.hid (rs_over (L := L) (d := d) hme (by omega) (by rw [HY.out]; exact hf))
        clear h hc hl hz hme hap
        go_enter Try.func12, Try.ntmps12
        go_wp2_with (first
          | (go_at_call 29; (with_reducible refine (Wid.radd_any y d _ hlb.1 hlb.2 d0 d1).mono ?_); rintro e w3 ⟨rfl, hb3⟩; rw [hf]; have HB3 := Lib.hid hb3; clear hb3)
          | (go_at_call 28; (with_reducible refine C.out.mono ?_); rintro e w2 ⟨rfl, hb2⟩; have HB := Lib.hid hb2; clear hb2))
        go_ret
        have hbb := below_call HB.out HB3.out (Nat.le_refl _)
        exact ⟨ret_i HO.out.1.symm, F, HO.out.2.symm ▸ dg_up HH.out hbb, Kept.of_below hbb, fun k h => .inl h⟩
      | true =>
        have HO := Lib.hid (rs_yes (L := L) (d := d) hme (by omega) (by rw [HY.out]; exact hf))
        rw [HY.out] at HO
        have hfb := of_decide_eq_true hf
        have e64 : Wid.f64 (y + d) = y + d := if_pos hf
        have HE64 := Lib.hid e64
        have HF := Lib.hid hf
        obtain ⟨x, hx⟩ : ∃ x, y + d = x := ⟨_, rfl⟩
        have HX := Lib.hid hx
        rw [hx] at HO hfb
        have hNm : N = m := by rw [← hl]; exact hme.2.1
        subst hNm
        have HC := Lib.hid hc
        have HL := Lib.hid hl
        have HZ := Lib.hid hz
        have HAP := Lib.hid hap
        have HME := Lib.hid hme
        obtain ⟨b, hdr, R, rfl, hg, rfl, hG, hd⟩ := h
        have hRm : R.length = N := by rw [← nums_len]; exact hd.len
        have HD := Lib.hid hd
        have HR := Lib.hid hRm
        have HGF := Lib.hid hG
        have HCL : Hid (cols.length = (nums R).length) := Lib.hid (by rw [hl, hd.len])
        have HYL : Hid ((raised (nums R) cols x).length = N) := Lib.hid (by rw [raised_len x HCL.out, hd.len])
        have HG := Lib.hid hg
        have hAs : ∃ a, A = some a := hc.some_of (by have := hme.1; have := hme.2.1; omega)
        obtain ⟨a, rfl⟩ := hAs
        clear hc hz hg hG hme hd hl hap e64 hx hf hRm
        go_enter Try.func12, Try.ntmps12
        go_wp2_with (first
          | (go_at_call 29; (with_reducible refine (Wid.radd_any y d _ hlb.1 hlb.2 d0 d1).mono ?_); rintro e w3 ⟨rfl, hb3⟩; rw [HF.out, HE64.out, HX.out]; have HB3 := Lib.hid hb3; clear hb3)
          | (go_at_call 28; (with_reducible refine C.out.mono ?_); rintro e w2 ⟨rfl, hb2⟩; have HB := Lib.hid hb2; clear hb2))
        have HBB := Lib.hid (below_call HB.out HB3.out (Nat.le_refl _))
        have HW3 := Lib.hid (HG.out.keep (Kept.of_below (F := fun _ => False) HBB.out) (fun _ _ h => h))
        have HC3 := Lib.hid (HC.out.up HBB.out)
        go_loopw [11] (fun i wr => ∃ (j : Nat) (R2 : List Row), j ≤ N ∧ i = .int .i64 j ∧ RG wr b hdr R2 ∧ R2.length = R.length ∧ (∀ k, RF b hdr R2 k ↔ RF b hdr R k) ∧ nums R2 = upto2 (nums R) (raised (nums R) cols x) j ∧ Kept (RF b hdr R) w3 wr) (fun i _ => N - (intOf i).toNat)
        case atStart => exact ⟨0, R, Nat.zero_le _, rfl, HW3.out, rfl, fun x => Iff.rfl, (upto2_start _ _).symm, Kept.refl _ _⟩
        case round =>
          obtain ⟨j, R2, hj, rfl, hg2, hlen2, hrf2, hn2, hk2⟩ := hrel
          have HG2 := Lib.hid hg2
          have HRF := Lib.hid hrf2
          have HN2 := Lib.hid hn2
          have HK2 := Lib.hid hk2
          have HLE2 := Lib.hid hlen2
          by_cases hjl : j < N
          · obtain ⟨v, hv⟩ : ∃ v, cols[j]? = some v := ⟨_, List.getElem?_eq_getElem (by have := HL.out; omega)⟩
            obtain ⟨r, hr⟩ : ∃ r, R2[j]? = some r := ⟨_, List.getElem?_eq_getElem (by have := HR.out; omega)⟩
            have hjR : j < (nums R).length := by rw [HD.out.len]; exact hjl
            obtain ⟨r0, hr0⟩ : ∃ r0, (nums R)[j]? = some r0 := ⟨_, List.getElem?_eq_getElem hjR⟩
            have hr2 : r.2.2 = r0 := by
              have e3 := upto2_get (X := nums R) (Y := raised (nums R) cols x) HD.out.len HYL.out hjl
              rw [← hn2, hr0] at e3
              unfold nums at e3
              rw [List.getElem?_map, hr] at e3
              simpa using e3
            have hrl : r.2.2.length = n := by rw [hr2]; exact (HD.out.rows _ (List.mem_of_getElem? hr0)).1
            have hvb := HME.out.2.2 v (List.mem_of_getElem? hv)
            have hya := raised_at HD.out HME.out x hv
            obtain ⟨vn, rfl⟩ : ∃ vn : Nat, v = vn := ⟨v.toNat, by omega⟩
            obtain ⟨u, hu⟩ : ∃ u, r.2.2[vn]? = some u := ⟨_, List.getElem?_eq_getElem (by omega)⟩
            have hau : at2 (nums R) j vn = u := by
              unfold at2
              rw [if_neg (by omega), Int.toNat_natCast, hr0, ← hr2]
              simp [hu]
            rw [hau, hr0] at hya
            simp only [Option.map_some, Int.toNat_natCast] at hya
            have hrm := List.mem_of_getElem? hr
            have hcu := hg2.numAt hrm hu
            have hfz := (hg2.rows _ hrm).frozenAt (g := r.1) (cap := r.2.1) vn
            obtain ⟨A4, cap4, he4, _, _, hcell4⟩ := hg2.hd
            obtain ⟨ah, rfl, hcr⟩ := hcell4 j r hr
            have hb2 := cell_of_row _ b 0 _ _ _ hg2.cell
            simp only [List.getElem?_toArray, List.getElem?_cons_zero] at hb2
            rw [he4, hlen2, HR.out] at hb2
            have hkc : Rd .i64 wr (some a) cols := HC3.out.keep hk2 (fun a ha hF => HAP.out a ha ((HGF.out _).2 hF))
            have hcv := hkc.at hv
            have hub := (HD.out.rows _ (List.mem_of_getElem? hr0)).2.at (hr2 ▸ hu)
            have hadd : (⟨r.1, 0, none⟩ : Addr).add vn = ⟨r.1, vn, none⟩ := by rw [Ord.add_at, Nat.zero_add]
            have hput := hg2.put hr vn (max u x)
            have hkp : Kept (RF b hdr R) w3 (wr.setCell ⟨r.1, vn, none⟩ (.int .i64 (max u x))) := hk2.set (.inl ((hrf2 _).1 (.inr (.inr ⟨r, hrm, rfl⟩)))) _ _
            rw [← hadd] at hput hkp hfz
            have hnn : nums (set2 R2 j vn (max u x)) = upto2 (nums R) (raised (nums R) cols x) (j + 1) := by
              rw [nums_set2, hn2]
              exact upto2_mod (fun r => r.set vn (max u x)) HD.out.len HYL.out hr0 hya
            have hl2 : (set2 R2 j vn (max u x)).length = R.length := by rw [set2_len]; exact hlen2
            have HNN := Lib.hid hnn
            have HLL := Lib.hid hl2
            obtain ⟨gr, gc, zs⟩ := r
            unfold rowHd at hcr
            simp only at hcr hrl hcu hput hkp hfz
            rw [hrl] at hcr
            obtain ⟨gad, hgad⟩ : ∃ gad : Addr, (⟨gr, 0, none⟩ : Addr) = gad := ⟨_, rfl⟩
            rw [hgad] at hcr hcu hput hkp hfz
            clear hv hr hu hr0 hr2 hrl hrm hg2 hrf2 hn2 hk2 hlen2 hkc hnn hl2 hadd hjR hgad hcell4 hya hau he4
            rcases (show u < x ∨ x ≤ u by omega) with hux | hux
            · have hmax : max u x = x := by omega
              rw [hmax] at hput hkp HNN HLL
              have HPU := Lib.hid hput
              have HKP := Lib.hid hkp
              clear hput hkp hmax
              go_wp2
              go_region
              go_wp2
              go_roundw
              case rel => exact ⟨j + 1, _, by omega, by go_num, HPU.out.keep (Kept.of_below (F := fun _ => False) (Below.drew (Below.refl _ _))) (fun _ _ h => h), HLL.out, fun x => (RF_set2 x).trans (HRF.out x), HNN.out, HKP.out.drew⟩
              case measure => simp [intOf]; omega
            · have hmax : max u x = u := by omega
              rw [hmax] at hput hkp HNN HLL
              have HPU := Lib.hid hput
              have HKP := Lib.hid hkp
              clear hput hkp hmax
              go_wp2
              go_region
              go_wp2
              go_roundw
              case rel => exact ⟨j + 1, _, by omega, by go_num, HPU.out.keep (Kept.of_below (F := fun _ => False) (Below.drew (Below.refl _ _))) (fun _ _ h => h), HLL.out, fun x => (RF_set2 x).trans (HRF.out x), HNN.out, HKP.out.drew⟩
              case measure => simp [intOf]; omega
          · have e : j = N := by omega
            subst e
            have hfull : nums R2 = raised (nums R) cols x := by
              rw [hn2]
              exact upto2_end HD.out.len HYL.out
            have HFU := Lib.hid hfull
            clear hfull hg2 hrf2 hn2 hk2 hlen2
            go_wp2
            go_ret
            refine ⟨ret_i HO.out.1.symm, F, ?_, (Kept.of_below (F := F) HBB.out).trans HK2.out (fun x hx h => (HGF.out x).2 h), fun x h => .inl h⟩
            rw [HO.out.2]
            exact ⟨b, _, R2, rfl, HG2.out, HFU.out, fun x => (HGF.out x).trans (HRF.out x).symm, raised_dims HD.out HME.out (by omega) (by omega)⟩
  · have C := Lib.hid (rlea_no q F m n L A N cap cols w h hc hl hN hz hme)
    have HO := Lib.hid (rs_no (L := L) (d := d) hme)
    clear h hc hl hz hme hap
    go_enter Try.func12, Try.ntmps12
    go_wp2_with (go_at_call 28; (with_reducible refine C.out.mono ?_); rintro e w2 ⟨rfl, hb2⟩; have HB := Lib.hid hb2; clear hb2)
    go_ret
    exact ⟨ret_i HO.out.1.symm, F, HO.out.2.symm ▸ dg_up HH.out HB.out, Kept.of_below HB.out, fun k h => .inl h⟩
end Go.Proofs.Ytonbidohhgenlaa.Con
