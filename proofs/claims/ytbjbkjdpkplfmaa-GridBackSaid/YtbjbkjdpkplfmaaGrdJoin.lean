/- The walk of the document's own answer Join for layer 6. Printed by wip/gen/grdjoin.py. -/
import Derived.Test.YtbjbkjdpkplfmaaGrdNew
import Derived.Test.YtbjbkjdpkplfmaaGrdDef
import Derived.Test.YtbjbkjdpkplfmaaWidROfInt
import Derived.Test.YtbjbkjdpkplfmaaWidRPlus
import Derived.Test.YtbjbkjdpkplfmaaWidRMinus
import Derived.Test.YtbjbkjdpkplfmaaWidRInt
import Derived.Deep.RegionHeld3
import Derived.Deep.DeepCutAuto
namespace Go.Proofs.Ytbjbkjdpkplfmaa.Grd
open Go Go.RowKit Lw
set_option linter.unusedVariables false
theorem own_slice {w : World} {B : Nat} {e : TypeId} {size : Nat} {v : Value} {n : Nat} {xs : List Value} (h : w.ownsRow B e size v n xs) : ∃ A c, v = .slice A n c := by
  rcases h.2 with ⟨h1, h2⟩ | ⟨g, cap, cur, h1, _⟩
  · exact ⟨none, 0, by rw [h1, h2]⟩
  · exact ⟨_, _, h1⟩
/-- Rows of one's own, behind a slice of headers. -/
structure RO (w : World) (B : Nat) (hdr : Value) (R : List Row) : Prop where
  outer : w.ownsRow B 34 1 hdr R.length (R.map rowHd)
  rows : ∀ r ∈ R, w.ownsRow B 2 1 (rowHd r) r.2.2.length (r.2.2.map (Value.int .i64))
  apart : ∀ r ∈ R, hdr.ownBlock ≠ some r.1
  nd : (R.map (·.1)).Nodup
theorem RO.push {w w4 : World} {B : Nat} {hdr hdr' : Value} {R : List Row} {g c : Nat} {zs : List Int} (h : RO w B hdr R) (hk : Kept (fun q => hdr.ownBlock = some q) w w4)
    (ho : w4.ownsRow B 34 1 hdr' (R.length + 1) (R.map rowHd ++ [rowHd (g, c, zs)]))
    (hr : w4.ownsRow B 2 1 (rowHd (g, c, zs)) zs.length (zs.map (Value.int .i64))) (hg : w.heap.size ≤ g)
    (hh : hdr'.ownBlock = hdr.ownBlock ∨ ∃ q, hdr'.ownBlock = some q ∧ w.heap.size ≤ q ∧ q ≠ g) : RO w4 B hdr' (R ++ [(g, c, zs)]) := by
  have hold : ∀ q, hdr.ownBlock = some q → q < w.heap.size := fun q hq => own_lt h.outer hq
  have hrow : ∀ r ∈ R, r.1 < w.heap.size := fun r hr => own_lt (h.rows r hr) rfl
  refine ⟨by simpa using ho, ?_, ?_, ?_⟩
  · intro r hrm
    rcases List.mem_append.1 hrm with h1 | h1
    · exact hk.own (h.rows r h1) (fun q hq e => by
        simp [rowHd, Value.ownBlock] at hq
        exact h.apart r h1 (by rw [hq, e]))
    · simp at h1
      subst h1
      exact hr
  · intro r hrm
    rcases List.mem_append.1 hrm with h1 | h1
    · rcases hh with h2 | ⟨q, h2, h3, h4⟩
      · rw [h2]; exact h.apart r h1
      · rw [h2]; intro e; injection e with e; have := hrow r h1; omega
    · simp at h1
      subst h1
      rcases hh with h2 | ⟨q, h2, h3, h4⟩
      · rw [h2]; intro e; have := hold _ e; simp only at this; omega
      · rw [h2]; intro e; injection e with e; exact h4 e
  · rw [List.map_append, List.nodup_append]
    refine ⟨h.nd, by simp, ?_⟩
    intro x hx y hy e
    simp at hy
    subst hy
    subst e
    obtain ⟨r, hr, e⟩ := List.mem_map.1 hx
    have := hrow r hr
    omega
theorem RO.keep {F : Nat → Prop} {w w' : World} {B : Nat} {hdr : Value} {R : List Row} (h : RO w B hdr R) (k : Kept F w w') (hf : ∀ q, B ≤ q → ¬ F q) : RO w' B hdr R where
  outer := k.own h.outer (fun q hq => hf q (own_ge h.outer q hq))
  rows := fun r hr => k.own (h.rows r hr) (fun q hq => hf q (own_ge (h.rows r hr) q hq))
  apart := h.apart
  nd := h.nd
/-- Laid into a grid's block that lies below. -/
theorem RO.laid {w : World} {B b : Nat} {hdr old : Value} {R : List Row} (h : RO w B hdr R) (hb : b < B) (hc : w.heap[b]? = some (.cells #[old] 56 (0, 0))) : RG (w.setCell ⟨b, 0, none⟩ hdr) b hdr R := by
  have hk : Kept (fun q => q = b) w (w.setCell ⟨b, 0, none⟩ hdr) := Kept.set (F := fun q => q = b) (Kept.refl _ w) (.inl rfl) 0 _
  have h2 := h.keep hk (fun q hq e => by omega)
  refine ⟨?_, own_mono h2.outer (Nat.zero_le _), fun r hr => own_mono (h2.rows r hr) (Nat.zero_le _), ?_, fun r hr => ⟨?_, h2.apart r hr⟩, h2.nd⟩
  · have := heap_setCell_same w b 0 _ _ hdr hc
    simpa using this
  · intro e; have := own_ge h2.outer b e; omega
  · have := own_ge (h2.rows r hr) r.1 rfl; omega
theorem rowS_next (s : Int) (xs ys : List Int) (j : Nat) (x y : Int) (hx : xs[j]? = some x) (hy : ys[j]? = some y) : rowS s (xs.take (j + 1)) (ys.take (j + 1)) = rowS s (xs.take j) (ys.take j) ++ [x + s * y] := by
  unfold rowS
  rw [List.take_add_one, List.take_add_one, hx, hy]
  have h1 := (List.getElem?_eq_some_iff.1 hx).1
  have h2 := (List.getElem?_eq_some_iff.1 hy).1
  rw [List.zipWith_append (by simp; omega)]
  rfl
theorem gridS_next (s : Int) (L M : List (List Int)) (k : Nat) (x y : List Int) (hx : L[k]? = some x) (hy : M[k]? = some y) : gridS s (L.take (k + 1)) (M.take (k + 1)) = gridS s (L.take k) (M.take k) ++ [rowS s x y] := by
  unfold gridS
  rw [List.take_add_one, List.take_add_one, hx, hy]
  have h1 := (List.getElem?_eq_some_iff.1 hx).1
  have h2 := (List.getElem?_eq_some_iff.1 hy).1
  rw [List.zipWith_append (by simp; omega)]
  rfl
theorem not_fits {s : Int} {L M : List (List Int)} {k j : Nat} {xs ys : List Int} {x y : Int} (hL : L[k]? = some xs) (hM : M[k]? = some ys) (hx : xs[j]? = some x) (hy : ys[j]? = some y) (hf : Wid.fit64 (x + s * y) = false) : fitsAll (gridS s L M) = false := by
  unfold fitsAll
  rw [List.all_eq_false]
  refine ⟨rowS s xs ys, ?_, ?_⟩
  · refine List.mem_of_getElem? (i := k) ?_
    unfold gridS
    rw [List.getElem?_zipWith, hL, hM]
  · rw [Bool.not_eq_true, List.all_eq_false]
    refine ⟨x + s * y, ?_, by simp [hf]⟩
    refine List.mem_of_getElem? (i := j) ?_
    unfold rowS
    rw [List.getElem?_zipWith, hx, hy]
set_option maxRecDepth 100000 in
set_option maxHeartbeats 4000000 in
theorem rjoin_any (b b2 : Nat) (hdr hdr2 : Value) (R S : List Row) (s : Int) (w : World) (h : RG w b hdr R) (h2 : RG w b2 hdr2 S) (hs : s = 1 ∨ s = -1) (hlen : R.length = S.length) (hlens : ∀ (i : Nat) (r q : Row), R[i]? = some r → S[i]? = some q → r.2.2.length = q.2.2.length)
    (hn : R.length ≤ 8) (hm : ∀ r ∈ R, r.2.2.length ≤ 128) (hz : ∀ r ∈ R, In64 r.2.2) (hz2 : ∀ r ∈ S, In64 r.2.2) (J : List (List Int)) (hJ : gridS s (nums R) (nums S) = J) :
    Calls Try.prog 22 #[.pointer (some ⟨b, 0, none⟩), .pointer (some ⟨b2, 0, none⟩), .int .i64 s] w fun e w' =>
      (fitsAll J = true ∧ e = .returned (.int .i64 0) ∧ ∃ (hdr' : Value) (R' : List Row), RG w' b hdr' R' ∧ nums R' = J ∧ (∀ q, RF b hdr' R' q → q = b ∨ w.heap.size ≤ q) ∧ Kept (fun q => q = b) w w') ∨
      (fitsAll J = false ∧ e = .returned (.int .i64 4) ∧ Below w.heap.size w w') := by
  obtain ⟨i0, hi, hi0, hi1, hi2⟩ := info_parts i64_info
  obtain ⟨j0, hj, hj0, hj1, hj2⟩ := info_parts rows_info
  have HG := Lib.hid h
  have HH := Lib.hid h2
  have HZ := Lib.hid hz
  have HZ2 := Lib.hid hz2
  have HL := Lib.hid hlens
  have HM := Lib.hid hm
  have HLEN := Lib.hid hlen
  have HJ := Lib.hid hJ
  obtain ⟨A, cap, rfl, hcap, hA, hcell⟩ := h.hd
  obtain ⟨A2, cap2, rfl, hcap2, hA2, hcell2⟩ := h2.hd
  have hb := cell_of_row w b 0 _ _ _ h.cell
  have hb2 := cell_of_row w b2 0 _ _ _ h2.cell
  simp only [List.getElem?_toArray, List.getElem?_cons_zero] at hb hb2
  have hblt := h.blt (.inl rfl)
  have HC := Lib.hid hcell
  have HC2 := Lib.hid hcell2
  clear h h2 hz hz2 hlens hm hcell hcell2 hA hA2 hlen hJ
  go_enter Try.func22, Try.ntmps22
  go_wp2
  go_loopw [7, 8] (fun v i wr => ∃ (k : Nat) (Q : List Row), k ≤ R.length ∧ Q.length = k ∧ i = .int .i64 k ∧ RO wr w.heap.size v Q ∧ nums Q = gridS s ((nums R).take k) ((nums S).take k) ∧ fitsAll (nums Q) = true ∧ Below w.heap.size w wr) (fun _ i _ => R.length - (intOf i).toNat)
  case atStart => exact ⟨0, [], Nat.zero_le _, rfl, rfl, ⟨World.ownsRow_nil _ _ _ _, (fun r h => by cases h), (fun r h => by cases h), by simp⟩, by simp [nums, gridS], rfl, Below.refl _ _⟩
  case round =>
    obtain ⟨k, Q, hk, hQ, rfl, hro, hnq, hfq, hbel⟩ := hrel
    have hbr := cell_up hb hbel
    have hbs := hbel.size
    by_cases hlt : k < R.length
    · obtain ⟨⟨g, gc, xs⟩, hr⟩ : ∃ r, R[k]? = some r := ⟨_, List.getElem?_eq_getElem hlt⟩
      obtain ⟨⟨g2, gc2, ys⟩, hr2⟩ : ∃ r, S[k]? = some r := ⟨_, List.getElem?_eq_getElem (by have := HLEN.out; omega)⟩
      obtain ⟨oad, rfl, hcr⟩ := HC.out k _ hr
      obtain ⟨oad2, rfl, hcr2⟩ := HC2.out k _ hr2
      have hrm := List.mem_of_getElem? hr
      have hrm2 := List.mem_of_getElem? hr2
      have hml := HM.out _ hrm
      have hxy : xs.length = ys.length := HL.out k _ _ hr hr2
      have hxz := HZ.out _ hrm
      have hyz := HZ2.out _ hrm2
      have hrd : Rd .i64 w (some ⟨g, 0, none⟩) xs := fun j v hv => ⟨_, rfl, HG.out.numAt hrm hv⟩
      have hrd2 : Rd .i64 w (some ⟨g2, 0, none⟩) ys := fun j v hv => ⟨_, rfl, HH.out.numAt hrm2 hv⟩
      unfold rowHd at hcr hcr2
      simp only at hcr hcr2 hml hxz hyz
      have hLk : (nums R)[k]? = some xs := by simp [nums, hr]
      have hMk : (nums S)[k]? = some ys := by simp [nums, hr2]
      have hkl2 : k < S.length := by have := HLEN.out; omega
      obtain ⟨gad, hgad⟩ : ∃ gad : Addr, (⟨g, 0, none⟩ : Addr) = gad := ⟨_, rfl⟩
      obtain ⟨gad2, hgad2⟩ : ∃ gad : Addr, (⟨g2, 0, none⟩ : Addr) = gad := ⟨_, rfl⟩
      rw [hgad] at hcr hrd
      rw [hgad2] at hcr2 hrd2
      have HXZ := Lib.hid hxz
      have HYZ := Lib.hid hyz
      have HLK := Lib.hid hLk
      have HMK := Lib.hid hMk
      have HRO := Lib.hid hro
      have HNQ := Lib.hid hnq
      have HFQ := Lib.hid hfq
      have HB := Lib.hid hbel
      have HQ := Lib.hid hQ
      have HXY := Lib.hid hxy
      have HRX := Lib.hid hrd
      have HRY := Lib.hid hrd2
      clear hxy hr hr2 hrm hrm2 hxz hyz hrd hrd2 hLk hMk hgad hgad2 hro hnq hfq hbel hQ
      go_wp2
      obtain ⟨wo, rfl⟩ : ∃ wo, wo = wr := ⟨_, rfl⟩
      go_loopw [9, 10] (fun v c wi => ∃ (j gr cp : Nat), j ≤ xs.length ∧ c = .int .i64 j ∧ v = .slice (some ⟨gr, 0, none⟩) j cp ∧ wi.ownsRow wo.heap.size 2 1 v j ((rowS s (xs.take j) (ys.take j)).map (Value.int .i64)) ∧ (rowS s (xs.take j) (ys.take j)).all Wid.fit64 = true ∧ wo.heap.size ≤ gr ∧ Below wo.heap.size wo wi) (fun _ c _ => xs.length - (intOf c).toNat)
      case atStart => exact ⟨0, wo.heap.size, 0, Nat.zero_le _, rfl, rfl, by simpa [rowS] using own_empty wo 2 1 _ (Nat.le_refl _), by simp [rowS], Nat.le_refl _, Lw.below_alloc (Below.refl _ _) _⟩
      case round =>
        obtain ⟨j, gr, cp, hjw, rfl, rfl, hown, hfit, hgr, hbi⟩ := hrel
        have hbw : Below w.heap.size w wr := below_call HB.out hbi (Nat.le_refl _)
        have hbr2 := cell_up hb hbw
        have hcr3 := cell_up hcr hbw
        by_cases hjl : j < xs.length
        · obtain ⟨x, hx⟩ : ∃ x, xs[j]? = some x := ⟨_, List.getElem?_eq_getElem hjl⟩
          obtain ⟨y, hy⟩ : ∃ y, ys[j]? = some y := ⟨_, List.getElem?_eq_getElem (by have := HXY.out; omega)⟩
          have hbb := cell_up hb2 hbw
          have hcc := cell_up hcr2 hbw
          have hcx := (HRX.out.up hbw).at hx
          have hcy := (HRY.out.up hbw).at hy
          have hxb := HXZ.out.at hx
          have hyb := HYZ.out.at hy
          have hjy : j < ys.length := by have := HXY.out; omega
          rcases hs with rfl | rfl
          · have hz : x + 1 * y = x + y := by omega
            have hs0 : ¬ (1 : Int) < 0 := by omega
            go_wp2_with (first
              | (go_at_call 29; (with_reducible refine (Wid.rofint_any y _ hyb.1 hyb.2).mono ?_); rintro e w' ⟨rfl, hbx⟩; obtain ⟨bs1, d1, rfl⟩ := below_grow hbx; clear hbx))
            generalize hX : (grow wr bs1 d1).alloc (.cells #[.int .i64 (Wid.dg y 0), .int .i64 (Wid.dg y 1), .int .i64 (Wid.dg y 2), .int .i64 (Wid.dg y 3), .int .i64 (Wid.dg y 4), .int .i64 (Wid.dg y 5), .int .i64 (Wid.dg y 6), .int .i64 (Wid.dg y 7), .int .i64 (Wid.dg y 8), .int .i64 (Wid.dg y 9)] 61) = X
            have hbX : Below wr.heap.size wr X := by rw [← hX]; (repeat' (first | (with_reducible exact Below.refl _ _) | (with_reducible assumption) | (with_reducible refine below_over ?_ _ _) | (with_reducible refine Lw.below_alloc ?_ _) | (with_reducible refine Below.drew ?_) | (with_reducible refine below_drewN ?_ _) | (with_reducible refine Below.setCell ?_ ?_ _) | go_size))
            have hR0 : ((grow wr bs1 d1).alloc (.cells #[.int .i64 (Wid.dg y 0), .int .i64 (Wid.dg y 1), .int .i64 (Wid.dg y 2), .int .i64 (Wid.dg y 3), .int .i64 (Wid.dg y 4), .int .i64 (Wid.dg y 5), .int .i64 (Wid.dg y 6), .int .i64 (Wid.dg y 7), .int .i64 (Wid.dg y 8), .int .i64 (Wid.dg y 9)] 61)).rangeAt (wr.heap.size + bs1.size) 0 [.int .i64 (Wid.dg y 0), .int .i64 (Wid.dg y 1), .int .i64 (Wid.dg y 2), .int .i64 (Wid.dg y 3), .int .i64 (Wid.dg y 4), .int .i64 (Wid.dg y 5), .int .i64 (Wid.dg y 6), .int .i64 (Wid.dg y 7), .int .i64 (Wid.dg y 8), .int .i64 (Wid.dg y 9)] := by
              have h := Wid.range_box (w := grow wr bs1 d1) (C := [.int .i64 (Wid.dg y 0), .int .i64 (Wid.dg y 1), .int .i64 (Wid.dg y 2), .int .i64 (Wid.dg y 3), .int .i64 (Wid.dg y 4), .int .i64 (Wid.dg y 5), .int .i64 (Wid.dg y 6), .int .i64 (Wid.dg y 7), .int .i64 (Wid.dg y 8), .int .i64 (Wid.dg y 9)]) (t := 61) (Below.refl _ _)
              rw [size_grow] at h
              exact h
            have hR : X.rangeAt (wr.heap.size + bs1.size) 0 [.int .i64 (Wid.dg y 0), .int .i64 (Wid.dg y 1), .int .i64 (Wid.dg y 2), .int .i64 (Wid.dg y 3), .int .i64 (Wid.dg y 4), .int .i64 (Wid.dg y 5), .int .i64 (Wid.dg y 6), .int .i64 (Wid.dg y 7), .int .i64 (Wid.dg y 8), .int .i64 (Wid.dg y 9)] := by rw [← hX]; exact hR0
            clear hX hR0
            have x1 := cell_up hbr2 hbX
            have x2 := cell_up hcr3 hbX
            have x3 := cell_up hcx hbX
            have hu57 := Wid.long_u
            have hi57 : (Try.prog.info? 61).map (·.size) = some ([.int .i64 (Wid.dg y 0), .int .i64 (Wid.dg y 1), .int .i64 (Wid.dg y 2), .int .i64 (Wid.dg y 3), .int .i64 (Wid.dg y 4), .int .i64 (Wid.dg y 5), .int .i64 (Wid.dg y 6), .int .i64 (Wid.dg y 7), .int .i64 (Wid.dg y 8), .int .i64 (Wid.dg y 9)] : List Value).length := Wid.long_i
            go_cut [12, 13] (fun s12 s13 wx => s12 = .int .i64 (Wid.f64 (x + y)) ∧ s13 = .bool (Wid.fit64 (x + y)) ∧ Below wr.heap.size wr wx)
            case first =>
              go_region_held3 (fun w' => w'.cell? ⟨b, 0, none⟩ = some (.slice (some oad) R.length cap) ∧ w'.cell? (oad.add k) = some (.slice (some gad) xs.length gc) ∧ w'.cell? (gad.add j) = some (.int .i64 x) ∧ w'.rangeAt (wr.heap.size + bs1.size) 0 [.int .i64 (Wid.dg y 0), .int .i64 (Wid.dg y 1), .int .i64 (Wid.dg y 2), .int .i64 (Wid.dg y 3), .int .i64 (Wid.dg y 4), .int .i64 (Wid.dg y 5), .int .i64 (Wid.dg y 6), .int .i64 (Wid.dg y 7), .int .i64 (Wid.dg y 8), .int .i64 (Wid.dg y 9)]) ((refine ⟨cell_up x1 ?_, cell_up x2 ?_, cell_up x3 ?_, Wid.range_call hR ?_⟩ <;> (repeat' (first | (with_reducible exact Below.refl _ _) | (with_reducible assumption) | (with_reducible refine below_over ?_ _ _) | (with_reducible refine Lw.below_alloc ?_ _) | (with_reducible refine Below.drew ?_) | (with_reducible refine below_drewN ?_ _) | (with_reducible refine Below.setCell ?_ ?_ _) | go_size)))) (first
                | (go_at_call 29; (with_reducible refine (Wid.rofint_any x _ hxb.1 hxb.2).mono ?_); rintro e w' ⟨rfl, hbx⟩; obtain ⟨bs3, d3, rfl⟩ := below_grow hbx; clear hbx)
                | (go_at_call 32; (with_reducible refine (Wid.rplus_any x y _ _ _ _ _ _ _ _ _ _ _ _ _ _ _ _ _ _ _ _ _ rfl rfl).mono ?_); rintro e w' ⟨rfl, hbx⟩; obtain ⟨bs4, d4, rfl⟩ := below_grow hbx; clear hbx)
                | (go_at_call 31; (with_reducible refine (Wid.rint_any (x + y) _ _ _ _ _ _ _ _ _ _ _ rfl (by omega) (by omega)).mono ?_); rintro e w' ⟨rfl, hbx⟩; obtain ⟨bs5, d5, rfl⟩ := below_grow hbx; clear hbx))
              all_goals go_wp2
              all_goals go_meet
              all_goals refine ⟨rfl, rfl, below_call hbX (w1 := _) ?_ (Nat.le_refl _)⟩
              all_goals (repeat' (first | (with_reducible exact Below.refl _ _) | (with_reducible assumption) | (with_reducible refine below_over ?_ _ _) | (with_reducible refine Lw.below_alloc ?_ _) | (with_reducible refine Below.drew ?_) | (with_reducible refine below_drewN ?_ _) | (with_reducible refine Below.setCell ?_ ?_ _) | go_size))
            case rest =>
              obtain ⟨rfl, rfl, hbc⟩ := hcut
              have hownc := (Kept.of_below (F := fun _ => False) hbc).own hown (fun _ _ h => h)
              have hbc2 := below_call hbi hbc (Nat.le_refl _)
              have hbw2 := below_call hbw hbc (Nat.le_refl _)
              have HNX := Lib.hid (rowS_next 1 xs ys j x y hx hy)
              have hbcs := hbc2.size
              cases hf : Wid.fit64 (x + y)
              · have HNF := Lib.hid (HJ.out ▸ not_fits HLK.out HMK.out hx hy (by rw [hz]; exact hf))
                clear hx hy
                go_wp2
                go_ret
                exact Or.inr ⟨HNF.out, rfl, hbw2⟩
              · have e64 : Wid.f64 (x + y) = x + y := by unfold Wid.f64; rw [if_pos hf]
                rw [e64]
                clear hx hy
                go_wp2_with (at_builtin; (refine app_one .i64 rfl _ _ 34 rfl wo.heap.size 2 i0 8 i64s_u hi hi0 hi1 hi2 (.slice (some ⟨gr, 0, none⟩) j cp) j (rowS 1 (xs.take j) (ys.take j)) rfl (hownc.alloc _) (x + y) wc.heap.size rfl (cell_one_new _ _ _) (by unfold maxLen; omega) (by omega) (by simp; omega) ?_); intro v1 w1 own1 grow1 oth1; obtain ⟨gg, cc, rfl, hgg, hgl⟩ := own1.form (by omega); have hb1 : Below wo.heap.size wo w1 := app_below3 (Lw.below_alloc hbc2 _) grow1 (fun q hq => own_ge hownc q hq))
                go_roundw
                case rel => exact ⟨j + 1, gg, cc, by omega, by go_num, rfl, by rw [HNX.out, hz]; exact own1, by rw [HNX.out, hz, List.all_append, hfit]; simp [hf], hgg, hb1⟩
                case measure => simp [intOf]; omega
          · have hz : x + (-1) * y = x + (-y) := by omega
            have hs0 : (-1 : Int) < 0 := by omega
            go_wp2_with (first
              | (go_at_call 29; (with_reducible refine (Wid.rofint_any y _ hyb.1 hyb.2).mono ?_); rintro e w' ⟨rfl, hbx⟩; obtain ⟨bs1, d1, rfl⟩ := below_grow hbx; clear hbx)
              | (go_at_call 30; (with_reducible refine (Wid.rminus_any y _ _ _ _ _ _ _ _ _ _ _ rfl).mono ?_); rintro e w' ⟨rfl, hbx⟩; obtain ⟨bs2, d2, rfl⟩ := below_grow hbx; clear hbx))
            generalize hX : grow ((grow wr bs1 d1).alloc (.cells #[.int .i64 (Wid.dg (-y) 0), .int .i64 (Wid.dg (-y) 1), .int .i64 (Wid.dg (-y) 2), .int .i64 (Wid.dg (-y) 3), .int .i64 (Wid.dg (-y) 4), .int .i64 (Wid.dg (-y) 5), .int .i64 (Wid.dg (-y) 6), .int .i64 (Wid.dg (-y) 7), .int .i64 (Wid.dg (-y) 8), .int .i64 (Wid.dg (-y) 9)] 61)) bs2 d2 = X
            have hbX : Below wr.heap.size wr X := by rw [← hX]; (repeat' (first | (with_reducible exact Below.refl _ _) | (with_reducible assumption) | (with_reducible refine below_over ?_ _ _) | (with_reducible refine Lw.below_alloc ?_ _) | (with_reducible refine Below.drew ?_) | (with_reducible refine below_drewN ?_ _) | (with_reducible refine Below.setCell ?_ ?_ _) | go_size))
            have hR0 : ((grow wr bs1 d1).alloc (.cells #[.int .i64 (Wid.dg (-y) 0), .int .i64 (Wid.dg (-y) 1), .int .i64 (Wid.dg (-y) 2), .int .i64 (Wid.dg (-y) 3), .int .i64 (Wid.dg (-y) 4), .int .i64 (Wid.dg (-y) 5), .int .i64 (Wid.dg (-y) 6), .int .i64 (Wid.dg (-y) 7), .int .i64 (Wid.dg (-y) 8), .int .i64 (Wid.dg (-y) 9)] 61)).rangeAt (wr.heap.size + bs1.size) 0 [.int .i64 (Wid.dg (-y) 0), .int .i64 (Wid.dg (-y) 1), .int .i64 (Wid.dg (-y) 2), .int .i64 (Wid.dg (-y) 3), .int .i64 (Wid.dg (-y) 4), .int .i64 (Wid.dg (-y) 5), .int .i64 (Wid.dg (-y) 6), .int .i64 (Wid.dg (-y) 7), .int .i64 (Wid.dg (-y) 8), .int .i64 (Wid.dg (-y) 9)] := by
              have h := Wid.range_box (w := grow wr bs1 d1) (C := [.int .i64 (Wid.dg (-y) 0), .int .i64 (Wid.dg (-y) 1), .int .i64 (Wid.dg (-y) 2), .int .i64 (Wid.dg (-y) 3), .int .i64 (Wid.dg (-y) 4), .int .i64 (Wid.dg (-y) 5), .int .i64 (Wid.dg (-y) 6), .int .i64 (Wid.dg (-y) 7), .int .i64 (Wid.dg (-y) 8), .int .i64 (Wid.dg (-y) 9)]) (t := 61) (Below.refl _ _)
              rw [size_grow] at h
              exact h
            have hR : X.rangeAt (wr.heap.size + bs1.size) 0 [.int .i64 (Wid.dg (-y) 0), .int .i64 (Wid.dg (-y) 1), .int .i64 (Wid.dg (-y) 2), .int .i64 (Wid.dg (-y) 3), .int .i64 (Wid.dg (-y) 4), .int .i64 (Wid.dg (-y) 5), .int .i64 (Wid.dg (-y) 6), .int .i64 (Wid.dg (-y) 7), .int .i64 (Wid.dg (-y) 8), .int .i64 (Wid.dg (-y) 9)] := by rw [← hX]; exact Wid.range_call hR0 (grow_below _ _ _)
            clear hX hR0
            have x1 := cell_up hbr2 hbX
            have x2 := cell_up hcr3 hbX
            have x3 := cell_up hcx hbX
            have hu57 := Wid.long_u
            have hi57 : (Try.prog.info? 61).map (·.size) = some ([.int .i64 (Wid.dg (-y) 0), .int .i64 (Wid.dg (-y) 1), .int .i64 (Wid.dg (-y) 2), .int .i64 (Wid.dg (-y) 3), .int .i64 (Wid.dg (-y) 4), .int .i64 (Wid.dg (-y) 5), .int .i64 (Wid.dg (-y) 6), .int .i64 (Wid.dg (-y) 7), .int .i64 (Wid.dg (-y) 8), .int .i64 (Wid.dg (-y) 9)] : List Value).length := Wid.long_i
            go_cut [12, 13] (fun s12 s13 wx => s12 = .int .i64 (Wid.f64 (x + (-y))) ∧ s13 = .bool (Wid.fit64 (x + (-y))) ∧ Below wr.heap.size wr wx)
            case first =>
              go_region_held3 (fun w' => w'.cell? ⟨b, 0, none⟩ = some (.slice (some oad) R.length cap) ∧ w'.cell? (oad.add k) = some (.slice (some gad) xs.length gc) ∧ w'.cell? (gad.add j) = some (.int .i64 x) ∧ w'.rangeAt (wr.heap.size + bs1.size) 0 [.int .i64 (Wid.dg (-y) 0), .int .i64 (Wid.dg (-y) 1), .int .i64 (Wid.dg (-y) 2), .int .i64 (Wid.dg (-y) 3), .int .i64 (Wid.dg (-y) 4), .int .i64 (Wid.dg (-y) 5), .int .i64 (Wid.dg (-y) 6), .int .i64 (Wid.dg (-y) 7), .int .i64 (Wid.dg (-y) 8), .int .i64 (Wid.dg (-y) 9)]) ((refine ⟨cell_up x1 ?_, cell_up x2 ?_, cell_up x3 ?_, Wid.range_call hR ?_⟩ <;> (repeat' (first | (with_reducible exact Below.refl _ _) | (with_reducible assumption) | (with_reducible refine below_over ?_ _ _) | (with_reducible refine Lw.below_alloc ?_ _) | (with_reducible refine Below.drew ?_) | (with_reducible refine below_drewN ?_ _) | (with_reducible refine Below.setCell ?_ ?_ _) | go_size)))) (first
                | (go_at_call 29; (with_reducible refine (Wid.rofint_any x _ hxb.1 hxb.2).mono ?_); rintro e w' ⟨rfl, hbx⟩; obtain ⟨bs3, d3, rfl⟩ := below_grow hbx; clear hbx)
                | (go_at_call 32; (with_reducible refine (Wid.rplus_any x (-y) _ _ _ _ _ _ _ _ _ _ _ _ _ _ _ _ _ _ _ _ _ rfl rfl).mono ?_); rintro e w' ⟨rfl, hbx⟩; obtain ⟨bs4, d4, rfl⟩ := below_grow hbx; clear hbx)
                | (go_at_call 31; (with_reducible refine (Wid.rint_any (x + (-y)) _ _ _ _ _ _ _ _ _ _ _ rfl (by omega) (by omega)).mono ?_); rintro e w' ⟨rfl, hbx⟩; obtain ⟨bs5, d5, rfl⟩ := below_grow hbx; clear hbx))
              all_goals go_wp2
              all_goals go_meet
              all_goals refine ⟨rfl, rfl, below_call hbX (w1 := _) ?_ (Nat.le_refl _)⟩
              all_goals (repeat' (first | (with_reducible exact Below.refl _ _) | (with_reducible assumption) | (with_reducible refine below_over ?_ _ _) | (with_reducible refine Lw.below_alloc ?_ _) | (with_reducible refine Below.drew ?_) | (with_reducible refine below_drewN ?_ _) | (with_reducible refine Below.setCell ?_ ?_ _) | go_size))
            case rest =>
              obtain ⟨rfl, rfl, hbc⟩ := hcut
              have hownc := (Kept.of_below (F := fun _ => False) hbc).own hown (fun _ _ h => h)
              have hbc2 := below_call hbi hbc (Nat.le_refl _)
              have hbw2 := below_call hbw hbc (Nat.le_refl _)
              have HNX := Lib.hid (rowS_next (-1) xs ys j x y hx hy)
              have hbcs := hbc2.size
              cases hf : Wid.fit64 (x + (-y))
              · have HNF := Lib.hid (HJ.out ▸ not_fits HLK.out HMK.out hx hy (by rw [hz]; exact hf))
                clear hx hy
                go_wp2
                go_ret
                exact Or.inr ⟨HNF.out, rfl, hbw2⟩
              · have e64 : Wid.f64 (x + (-y)) = x + (-y) := by unfold Wid.f64; rw [if_pos hf]
                rw [e64]
                clear hx hy
                go_wp2_with (at_builtin; (refine app_one .i64 rfl _ _ 34 rfl wo.heap.size 2 i0 8 i64s_u hi hi0 hi1 hi2 (.slice (some ⟨gr, 0, none⟩) j cp) j (rowS (-1) (xs.take j) (ys.take j)) rfl (hownc.alloc _) (x + (-y)) wc.heap.size rfl (cell_one_new _ _ _) (by unfold maxLen; omega) (by omega) (by simp; omega) ?_); intro v1 w1 own1 grow1 oth1; obtain ⟨gg, cc, rfl, hgg, hgl⟩ := own1.form (by omega); have hb1 : Below wo.heap.size wo w1 := app_below3 (Lw.below_alloc hbc2 _) grow1 (fun q hq => own_ge hownc q hq))
                go_roundw
                case rel => exact ⟨j + 1, gg, cc, by omega, by go_num, rfl, by rw [HNX.out, hz]; exact own1, by rw [HNX.out, hz, List.all_append, hfit]; simp [hf], hgg, hb1⟩
                case measure => simp [intOf]; omega
        · have e : j = xs.length := by omega
          subst e
          have hol : u7.ownBlock = u7.ownBlock := rfl
          have hQl : ∀ q, u7.ownBlock = some q → q < wo.heap.size := fun q hq => own_lt HRO.out.outer hq
          have hgrl := own_lt hown (g := gr) rfl
          have hwos := HB.out.size
          have hbis := hbi.size
          have hout := (Kept.of_below (F := fun _ => False) hbi).own HRO.out.outer (fun _ _ h => h)
          rw [HQ.out] at hout
          rw [List.take_of_length_le (Nat.le_refl _), List.take_of_length_le (by have := HXY.out; omega)] at hown hfit
          have hrl : (rowS s xs ys).length = xs.length := by unfold rowS; rw [List.length_zipWith]; have := HXY.out; omega
          have hk8 : k ≤ 8 := by omega
          go_wp2_with (at_builtin; (refine app_val rfl _ _ 54 rfl w.heap.size 34 j0 (.slice none 0 0) 24 rows_u hj hj0 hj1 hj2 rfl _ k (Q.map rowHd) rfl (hout.alloc _) (.slice (some ⟨gr, 0, none⟩) xs.length cp) wr.heap.size rfl (cell_one_new _ _ _) rfl (by unfold maxLen; omega) (by omega) (by have := HB.out.size; simp; omega) ?_); intro g3 cap3 w3 own3 grow3 hat3 hl3)
          go_roundw
          case rel =>
            have K3 : Kept (fun q => u7.ownBlock = some q) wo w3 := ((Kept.of_below hbi).alloc _).grown grow3 (fun q hq => .inl hq)
            have K5 : Kept (fun q => u7.ownBlock = some q) wr w3 := ((Kept.refl _ wr).alloc _).grown grow3 (fun q hq => .inl hq)
            have hrow := own_mono (K5.own hown (fun q hq e => by simp [Value.ownBlock] at hq; have := hQl q e; omega)) hwos
            have hpush := HRO.out.push (g := gr) (c := cp) (zs := rowS s xs ys) (hdr' := .slice (some ⟨g3, 0, none⟩) (k + 1) cap3) K3 (by rw [HQ.out]; simpa [rowHd, hrl] using own3) (by simpa [rowHd, hrl] using hrow) hgr (by
              rcases hat3 with h1 | h1
              · have h9 : u7.ownBlock = some g3 := h1
                exact .inl (by rw [h9]; rfl)
              · have hsz : (wr.alloc (.cells #[.slice (some ⟨gr, 0, none⟩) xs.length cp] 34)).heap.size = wr.heap.size + 1 := by simp
                exact .inr ⟨g3, rfl, by omega, by omega⟩)
            refine ⟨k + 1, Q ++ [(gr, cp, rowS s xs ys)], by omega, by simp [HQ.out], by go_num, hpush, ?_, ?_, K3.low HB.out HB.out.size (fun q hq => own_ge HRO.out.outer q hq)⟩
            · rw [gridS_next s _ _ k xs ys HLK.out HMK.out, ← HNQ.out]; simp [nums]
            · have h1 := HFQ.out
              unfold fitsAll nums at *
              rw [List.map_append, List.all_append, h1]
              simpa using hfit
          case measure => simp [intOf]; omega
    · have e : k = R.length := by omega
      subst e
      rw [List.take_of_length_le (by simp [nums]), List.take_of_length_le (by simp [nums]; have := HLEN.out; omega), HJ.out] at hnq
      obtain ⟨A7, c7, hu7⟩ := own_slice hro.outer
      subst hu7
      have hB := (Kept.of_below (F := fun _ => False) hbel).heap HG.out.cell (fun h => h)
      have hfz := frozen_of_row wr b 0 _ _ hB
      have E : Hid (fitsAll J = true ∧ ∃ (hdr' : Value) (R' : List Row), RG (wr.setCell ⟨b, 0, none⟩ (.slice A7 Q.length c7)) b hdr' R' ∧ nums R' = J ∧ (∀ q, RF b hdr' R' q → q = b ∨ w.heap.size ≤ q) ∧ Kept (fun q => q = b) w (wr.setCell ⟨b, 0, none⟩ (.slice A7 Q.length c7))) := Lib.hid ⟨by rw [← hnq]; exact hfq, _, Q, hro.laid hblt hB, hnq, (fun q hq => by
        rcases hq with h1 | h1 | ⟨r, h1, h2⟩
        · exact .inl h1
        · exact .inr (own_ge hro.outer q h1)
        · exact .inr (h2 ▸ own_ge (hro.rows r h1) r.1 rfl)), Kept.set (F := fun q => q = b) (Kept.of_below hbel) (.inl rfl) 0 _⟩
      clear hnq hfq hro hB hQ
      go_wp2
      go_ret
      exact Or.inl ⟨E.out.1, rfl, E.out.2⟩
end Go.Proofs.Ytbjbkjdpkplfmaa.Grd
