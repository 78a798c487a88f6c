/- Texts that statements lean on, put together: ConCode, ConMath, SkDef, SkNum, SkCode, SkLawA, SkMath, SkFed, SkShown, SkOne, SkTrial. -/
import Derived.Test.YtkflggojiiebeaaGreatVac
import Derived.Laws.EntriesVeiled
namespace Go.Proofs.YtkflggojiiebeaaGreat.Con
open Go Go.RowKit Lw Grd Lin
set_option linter.unusedVariables false
set_option linter.unusedSimpArgs false
theorem rise_at {m n : Nat} {L : List (List Int)} {cols : List Int} (hd : Dims m n L) (h : Meets m n cols) (x : Int) {k : Nat} {v : Int} (hv : cols[k]? = some v) (hD : Dims m n (upto2 L (raised L cols x) k)) :
    at2 (upto2 L (raised L cols x) k) k v = at2 L k v ∧ setL (upto2 L (raised L cols x) k) k v (max (at2 L k v) x) = upto2 L (raised L cols x) (k + 1) := by
  have hk : k < cols.length := (List.getElem?_eq_some_iff.1 hv).1
  have hl : cols.length = L.length := by rw [hd.len]; exact h.2.1
  have hb := meets_at h hv
  have hL : L[k]? = some (L[k]'(by omega)) := List.getElem?_eq_getElem (by omega)
  have hY := raised_at hd h x hv
  rw [hL] at hY
  have hX := upto2_get (X := L) (Y := raised L cols x) (n := L.length) rfl (raised_len x hl) (k := k) (by omega)
  have hin : in2 (upto2 L (raised L cols x) k) k v = true := by
    rw [in2_dims hD]
    have := hd.len
    exact decide_eq_true ⟨by omega, by omega, hb.1, hb.2⟩
  refine ⟨?_, ?_⟩
  · unfold at2
    rw [Int.toNat_natCast, hX]
  rw [hL] at hX
  rw [← upto2_set (n := L.length) rfl (raised_len x hl) hY]
  unfold setL
  rw [if_pos hin]
  apply List.ext_getElem?
  intro i
  rw [List.getElem?_modify, List.getElem?_set, Int.toNat_natCast]
  have hln := upto2_len (X := L) (Y := raised L cols x) (n := L.length) rfl (raised_len x hl) (k := k) (by omega)
  by_cases e : k = i
  · subst e
    rw [hX, if_pos rfl, hln, if_pos (by omega)]
    simp
  · rw [if_neg e]
    simp [e]
set_option maxRecDepth 100000 in
/-- The closure that lets a cell rise: it holds the grid and the number in two cells. -/
theorem rise_any (p : Addr) (F : Nat → Prop) (m n : Nat) (L : List (List Int)) (row col x : Int) (b0 b1 : Nat) (w : World) (h : PG w p F m n L)
    (c0 : w.cell? ⟨b0, 0, none⟩ = some (.pointer (some p))) (c1 : w.cell? ⟨b1, 0, none⟩ = some (.int .i64 x)) (hf0 : ¬ F b0) (hf1 : ¬ F b1)
    (r0 : -9223372036854775808 ≤ row) (r1 : row ≤ 9223372036854775807) (k0 : -9223372036854775808 ≤ col) (k1 : col ≤ 9223372036854775807) (x0 : -9223372036854775808 ≤ x) (x1 : x ≤ 9223372036854775807)
    (a y : Int) (ha : at2 L row col = a) (a0 : -9223372036854775808 ≤ a) (a1 : a ≤ 9223372036854775807) (hy : max a x = y) :
    Calls Tryz.prog 230 #[.int .i64 row, .int .i64 col, .pointer (some ⟨b0, 0, none⟩), .pointer (some ⟨b1, 0, none⟩)] w fun e w' => e = .returned (.tuple #[]) ∧ ∃ F', PG w' p F' m n (setL L row col y) ∧ Kept F w w' ∧ (∀ k, F' k → F k ∨ w.heap.size ≤ k) := by
  have HP := Lib.hid h
  have C : Hid (∀ w', Below w.heap.size w w' → Calls Tryz.prog 201 #[.pointer (some p), .int .i64 row, .int .i64 col] w' fun e w2 => e = .returned (.int .i64 a) ∧ Below w'.heap.size w' w2) := Lib.hid (fun w' hb => ha ▸ at_any p F m n L row col w' (pg_up h hb) r0 r1 k0 k1)
  have D : Hid (∀ y w', -9223372036854775808 ≤ y → y ≤ 9223372036854775807 → Below w.heap.size w w' → Calls Tryz.prog 200 #[.pointer (some p), .int .i64 row, .int .i64 col, .int .i64 y] w' fun e w2 => ∃ b F', e = .returned (.bool b) ∧ PG w2 p F' m n (setL L row col y) ∧ Kept F w w2 ∧ (∀ k, F' k → F k ∨ w.heap.size ≤ k)) := Lib.hid (fun y w' h0 h1 hb => (put_any p F m n L row col y w' (pg_up h hb) r0 r1 k0 k1 h0 h1).mono (fun e w2 h => by obtain ⟨e1, F', h2, h3, h4⟩ := h; exact ⟨_, F', e1, h2, (Kept.of_below hb).trans h3 (fun q hq h => h), fun q hq => (h4 q hq).elim .inl (fun h => .inr (Nat.le_trans hb.size h))⟩))
  clear h ha
  by_cases hc : a < x
  · have e : y = x := by omega
    subst y
    skip
    go_enter Tryz.func230, Tryz.ntmps230
    go_region_held3 (fun w' => w'.cell? ⟨b0, 0, none⟩ = some (.pointer (some p)) ∧ w'.cell? ⟨b1, 0, none⟩ = some (.int .i64 x)) (first | (refine ⟨?_, ?_⟩ <;> (first | (with_reducible assumption) | (with_reducible refine cell_up c0 ?_) | (with_reducible refine cell_up c1 ?_)) <;> (repeat' (first | (with_reducible exact Below.refl _ _) | (with_reducible assumption) | (with_reducible refine below_over ?_ _ _) | (with_reducible refine Lw.below_alloc ?_ _) | (with_reducible refine Below.drew ?_) | (with_reducible refine below_drewN ?_ _) | go_size)))) (first
      | (go_at_call 201; (with_reducible refine (C.out _ (by (repeat' (first | (with_reducible exact Below.refl _ _) | (with_reducible assumption) | (with_reducible refine below_over ?_ _ _) | (with_reducible refine Lw.below_alloc ?_ _) | (with_reducible refine Below.drew ?_) | (with_reducible refine below_drewN ?_ _) | go_size)))).mono ?_); rintro e w5 ⟨rfl, hb⟩; obtain ⟨bs, d, rfl⟩ := below_grow hb; clear hb)
      | (go_at_call 200; (with_reducible refine (D.out _ _ (by omega) (by omega) (by (repeat' (first | (with_reducible exact Below.refl _ _) | (with_reducible assumption) | (with_reducible refine below_over ?_ _ _) | (with_reducible refine Lw.below_alloc ?_ _) | (with_reducible refine Below.drew ?_) | (with_reducible refine below_drewN ?_ _) | go_size)))).mono ?_); rintro e w6 ⟨b, F6, rfl, hp6, hk6, hf6⟩; have HP6 := Lib.hid hp6; have HK6 := Lib.hid hk6; have HF6 := Lib.hid hf6; clear hp6 hf6; have x0 : w6.cell? ⟨b0, 0, none⟩ = some (.pointer (some p)) := hk6.cell c0 hf0; have x1 : w6.cell? ⟨b1, 0, none⟩ = some (.int .i64 x) := hk6.cell c1 hf1; clear hk6))
    all_goals go_wp2
    all_goals go_returns
    all_goals exact ⟨rfl, F6, (by have h6 := HP6.out; first | exact e.symm ▸ h6 | (rw [if_neg (by omega)] at h6; exact e.symm ▸ h6)), HK6.out, HF6.out⟩
  · have hc2 : x ≤ a := by omega
    have e : y = a := by omega
    subst y
    skip
    go_enter Tryz.func230, Tryz.ntmps230
    go_region_held3 (fun w' => w'.cell? ⟨b0, 0, none⟩ = some (.pointer (some p)) ∧ w'.cell? ⟨b1, 0, none⟩ = some (.int .i64 x)) (first | (refine ⟨?_, ?_⟩ <;> (first | (with_reducible assumption) | (with_reducible refine cell_up c0 ?_) | (with_reducible refine cell_up c1 ?_)) <;> (repeat' (first | (with_reducible exact Below.refl _ _) | (with_reducible assumption) | (with_reducible refine below_over ?_ _ _) | (with_reducible refine Lw.below_alloc ?_ _) | (with_reducible refine Below.drew ?_) | (with_reducible refine below_drewN ?_ _) | go_size)))) (first
      | (go_at_call 201; (with_reducible refine (C.out _ (by (repeat' (first | (with_reducible exact Below.refl _ _) | (with_reducible assumption) | (with_reducible refine below_over ?_ _ _) | (with_reducible refine Lw.below_alloc ?_ _) | (with_reducible refine Below.drew ?_) | (with_reducible refine below_drewN ?_ _) | go_size)))).mono ?_); rintro e w5 ⟨rfl, hb⟩; obtain ⟨bs, d, rfl⟩ := below_grow hb; clear hb)
      | (go_at_call 200; (with_reducible refine (D.out _ _ (by omega) (by omega) (by (repeat' (first | (with_reducible exact Below.refl _ _) | (with_reducible assumption) | (with_reducible refine below_over ?_ _ _) | (with_reducible refine Lw.below_alloc ?_ _) | (with_reducible refine Below.drew ?_) | (with_reducible refine below_drewN ?_ _) | go_size)))).mono ?_); rintro e w6 ⟨b, F6, rfl, hp6, hk6, hf6⟩; have HP6 := Lib.hid hp6; have HK6 := Lib.hid hk6; have HF6 := Lib.hid hf6; clear hp6 hf6; have x0 : w6.cell? ⟨b0, 0, none⟩ = some (.pointer (some p)) := hk6.cell c0 hf0; have x1 : w6.cell? ⟨b1, 0, none⟩ = some (.int .i64 x) := hk6.cell c1 hf1; clear hk6))
    all_goals go_wp2
    all_goals go_returns
    all_goals exact ⟨rfl, F6, (by have h6 := HP6.out; first | exact e.symm ▸ h6 | (rw [if_neg (by omega)] at h6; exact e.symm ▸ h6)), HK6.out, HF6.out⟩
theorem rising_any (p : Addr) (x : Int) (w : World) :
    Calls Tryz.prog 223 #[.pointer (some p), .int .i64 x] w fun e w' => ∃ b0 b1, e = .returned (.func (.func 230) #[] #[.pointer (some ⟨b0, 0, none⟩), .pointer (some ⟨b1, 0, none⟩)]) ∧ w'.cell? ⟨b0, 0, none⟩ = some (.pointer (some p)) ∧ w'.cell? ⟨b1, 0, none⟩ = some (.int .i64 x) ∧ w.heap.size ≤ b0 ∧ w.heap.size ≤ b1 ∧ b0 < w'.heap.size ∧ b1 < w'.heap.size ∧ Below w.heap.size w w' := by
  have hmf : ∀ (fn : Fn) (first cap : Array Value) (w : World), (Instr.makeFunc fn first cap).run Tryz.prog w = .ok (.func fn first cap) w := fun _ _ _ _ => rfl
  go_enter Tryz.func223, Tryz.ntmps223
  go_wp2
  go_ret
  refine ⟨_, _, rfl, by simp [go_sem], by simp [go_sem], Nat.le_refl _, by simp, by simp, by simp, ?_⟩
  (repeat' (first | (with_reducible exact Below.refl _ _) | (with_reducible assumption) | (with_reducible refine below_over ?_ _ _) | (with_reducible refine Lw.below_alloc ?_ _) | (with_reducible refine Below.drew ?_) | (with_reducible refine below_drewN ?_ _) | go_size))
theorem least_no (p : Addr) (F : Nat → Prop) (m n : Nat) (L : List (List Int)) (A : Option Addr) (N cap : Nat) (cols : List Int) (w : World) (h : PG w p F m n L) (hc : Rd .i64 w A cols) (hl : cols.length = N) (hN : N ≤ 1000) (hz : In64 cols) (hm : ¬ Meets m n cols) :
    Calls Tryz.prog 217 #[.pointer (some p), .slice A N cap] w fun e w' => e = .returned (.tuple #[.int .i64 0, .int .i64 1]) ∧ Below w.heap.size w w' := by
  have C := least_any p F m n L A N cap cols w h hc hl hN hz
  rw [(readOf_no (L := L) hm).1, (readOf_no (L := L) hm).2] at C
  rw [(Ord.kv_no (l := []) (k := _) (by simp)).1] at C
  exact C
theorem least_yes (p : Addr) (F : Nat → Prop) (m n : Nat) (L : List (List Int)) (A : Option Addr) (N cap : Nat) (cols : List Int) (w : World) (h : PG w p F m n L) (hc : Rd .i64 w A cols) (hl : cols.length = N) (hN : N ≤ 1000) (hz : In64 cols) (hm : Meets m n cols) :
    Calls Tryz.prog 217 #[.pointer (some p), .slice A N cap] w fun e w' => e = .returned (.tuple #[.int .i64 (lea L cols), .int .i64 0]) ∧ Below w.heap.size w w' := by
  have C := least_any p F m n L A N cap cols w h hc hl hN hz
  rw [(readOf_yes (L := L) hm).1, (readOf_yes (L := L) hm).2] at C
  exact C
set_option maxRecDepth 100000 in
set_option maxHeartbeats 4000000 in
theorem raise_any (p : Addr) (F : Nat → Prop) (m n : Nat) (L : List (List Int)) (A : Option Addr) (N cap : Nat) (cols : List Int) (d : Int) (w : World) (h : PG w p F m n L) (hc : Rd .i64 w A cols) (hap : ∀ a, A = some a → ¬ F a.block) (hl : cols.length = N) (hN : N ≤ 1000) (hz : In64 cols) (d0 : -9223372036854775808 ≤ d) (d1 : d ≤ 9223372036854775807) :
    Calls Tryz.prog 216 #[.pointer (some p), .slice A N cap, .int .i64 d] w fun e w' => e = .returned (.int .i64 (rsCode m n L cols d)) ∧ ∃ F', PG w' p F' m n (rsRes m n L cols d) ∧ Kept F w w' ∧ (∀ k, F' k → F k ∨ w.heap.size ≤ k) := by
  have HP := Lib.hid h
  have hbd : ∀ (w' : World), Below w.heap.size w w' → ∃ (F' : Nat → Prop), PG w' p F' m n L ∧ Kept F w w' ∧ (∀ k, F' k → F k ∨ w.heap.size ≤ k) := fun w' hb => ⟨F, pg_up h hb, Kept.of_below hb, fun k hk => .inl hk⟩
  by_cases hm : Meets m n cols
  · have C := Lib.hid (least_yes p F m n L A N cap cols w h hc hl hN hz hm)
    by_cases hd : d < 0
    · rw [(rs_neg hm hd).1, (rs_neg hm hd).2]
      clear h hc hl hz hm hap
      have HBD := Lib.hid hbd
      clear hbd
      go_enter Tryz.func216, Tryz.ntmps216
      go_wp2_with (go_at_call 217; (with_reducible refine C.out.mono ?_); rintro e w1 ⟨rfl, hb⟩; have HB1 := Lib.hid hb; clear hb)
      go_ret
      exact ⟨rfl, HBD.out _ HB1.out⟩
    have hlb := lea_in (cols := cols) h.1
    have hd2 : 0 ≤ d := by omega
    cases hf : Wid.fit64 (lea L cols + d) with
    | false =>
      rw [(rs_over hm hd2 hf).1, (rs_over hm hd2 hf).2]
      clear h hc hl hz hm hap
      have HBD := Lib.hid hbd
      clear hbd
      go_enter Tryz.func216, Tryz.ntmps216
      go_wp2_with (first
        | (go_at_call 217; (with_reducible refine C.out.mono ?_); rintro e w1 ⟨rfl, hb⟩; have HB1 := Lib.hid hb; clear hb)
        | (go_at_call 203; (with_reducible refine (Wid.plus_any (lea L cols) d _ hlb.1 hlb.2 d0 d1).mono ?_); rintro e w2 ⟨rfl, hb⟩; rw [hf]; have HB2 := Lib.hid hb; clear hb))
      go_ret
      exact ⟨rfl, HBD.out _ (below_call HB1.out HB2.out (Nat.le_refl _))⟩
    | true =>
      rw [(rs_yes hm hd2 hf).1, (rs_yes hm hd2 hf).2]
      have hfb := fit64_in hf
      have HV : Hid (Wid.f64 (lea L cols + d) = lea L cols + d) := Lib.hid (if_pos hf)
      obtain ⟨x, hx⟩ : ∃ x, lea L cols + d = x := ⟨_, rfl⟩
      rw [hx] at hfb HV hf ⊢
      obtain ⟨a, rfl⟩ := hc.some_of (by have := hm.1; have := hm.2.1; omega)
      have HL := Lib.hid hl
      have HC := Lib.hid hc
      have HZ := Lib.hid hz
      have HM := Lib.hid hm
      have HAP := Lib.hid hap
      have HD := Lib.hid h.1
      have HX := Lib.hid hx
      clear h hl hc hz hm hap hbd hx
      go_enter Tryz.func216, Tryz.ntmps216
      go_wp2_with (first
        | (go_at_call 217; (with_reducible refine C.out.mono ?_); rintro e w1 ⟨rfl, hb⟩; have HB1 := Lib.hid hb; clear hb)
        | (go_at_call 203; (with_reducible refine (Wid.plus_any (lea L cols) d _ hlb.1 hlb.2 d0 d1).mono ?_); rintro e w2 ⟨rfl, hb⟩; rw [HX.out, hf, HV.out]; have HB2 := Lib.hid hb; clear hb)
        | (go_at_call 223; (with_reducible refine (rising_any p x _).mono ?_); rintro e w3 ⟨b0, b1, rfl, c0, c1, hg0, hg1, hl0, hl1, hb⟩; have HB3 := Lib.hid hb; clear hb))
      have hbb := below_call (below_call HB1.out HB2.out (Nat.le_refl _)) HB3.out (Nat.le_refl _)
      have HBB := Lib.hid hbb
      have HPo := Lib.hid (pg_up HP.out hbb)
      have HCo := Lib.hid (HC.out.up hbb)
      have hs12 : w.heap.size ≤ w2.heap.size := (below_call HB1.out HB2.out (Nat.le_refl _)).size
      have hF0 : ¬ F b0 := fun hk => by have := (pgT p F m n L).lt w HP.out b0 hk; omega
      have hF1 : ¬ F b1 := fun hk => by have := (pgT p F m n L).lt w HP.out b1 hk; omega
      have HFl : Hid (∀ k, F k → k < w3.heap.size) := Lib.hid (fun k hk => (pgT p F m n L).lt w3 HPo.out k hk)
      have HW : Hid (w.heap.size ≤ w3.heap.size) := Lib.hid hbb.size
      obtain ⟨wo, hwo⟩ : ∃ wo, wo = w3 := ⟨_, rfl⟩
      subst w3
      clear hbb hs12 hg0 hg1
      go_wp2
      go_loopw [38] (fun i wr => ∃ (k : Nat) (F' : Nat → Prop), k ≤ N ∧ i = .int .i64 k ∧ PG wr p F' m n (upto2 L (raised L cols x) k) ∧ Kept F wo wr ∧ (∀ q, F' q → F q ∨ wo.heap.size ≤ q)) (fun i _ => N - (intOf i).toNat)
      case atStart => exact ⟨0, F, Nat.zero_le _, rfl, by rw [upto2_start]; exact HPo.out, Kept.refl _ _, fun q hq => .inl hq⟩
      case round =>
        obtain ⟨k, F', hk, rfl, hp, hkept, hF⟩ := hrel
        have HPk := Lib.hid hp
        have HKk := Lib.hid hkept
        have HFk := Lib.hid hF
        clear hp hkept hF
        by_cases hlt2 : k < N
        · obtain ⟨v, hv⟩ : ∃ v, cols[k]? = some v := ⟨_, List.getElem?_eq_getElem (by rw [HL.out]; exact hlt2)⟩
          have hvb := HZ.out.at hv
          have e1 := (HCo.out.keep HKk.out HAP.out).at hv
          have d0' := HKk.out.cell c0 hF0
          have d1' := HKk.out.cell c1 hF1
          have hF0' : ¬ F' b0 := fun h => (HFk.out b0 h).elim hF0 (fun h => by omega)
          have hF1' : ¬ F' b1 := fun h => (HFk.out b1 h).elim hF1 (fun h => by omega)
          have HPA := Lib.hid (rise_at HD.out HM.out x hv HPk.out.dims)
          have HAT := Lib.hid (at2_in HD.out k v)
          have C4 := Lib.hid (fun (w' : World) (hw : PG w' p F' m n (upto2 L (raised L cols x) k) ∧ w'.cell? ⟨b0, 0, none⟩ = some (.pointer (some p)) ∧ w'.cell? ⟨b1, 0, none⟩ = some (.int .i64 x)) => rise_any p F' m n (upto2 L (raised L cols x) k) k v x b0 b1 w' hw.1 hw.2.1 hw.2.2 hF0' hF1' (by omega) (by omega) hvb.1 hvb.2 hfb.1 hfb.2 (at2 L k v) (max (at2 L k v) x) HPA.out.1 HAT.out.1 HAT.out.2 rfl)
          clear hv hF0' hF1'
          go_wp2_with (go_at_call 230; (with_reducible refine (C4.out _ ⟨HPk.out, d0', d1'⟩).mono ?_); rintro e5 w5 ⟨rfl, F5, hp5, hk5, hf5⟩; have HP5 := Lib.hid hp5; have HK5 := Lib.hid hk5; have HF5 := Lib.hid hf5; clear hp5 hk5 hf5)
          go_roundw
          case rel => exact ⟨k + 1, F5, by omega, by go_num, HPA.out.2 ▸ HP5.out, HKk.out.trans HK5.out (fun q hq h => (HFk.out q h).elim id (fun h2 => by omega)), fun q hq => (HF5.out q hq).elim (fun h => HFk.out q h) (fun h => .inr (by have := HKk.out.size; omega))⟩
          case measure => simp [intOf]; omega
        · have e : k = N := by omega
          subst e
          have hpe := HPk.out
          rw [upto2_end (n := k) (by rw [HD.out.len, ← HM.out.2.1]; exact HL.out) (by rw [raised_len x (by rw [HD.out.len]; exact HM.out.2.1), HD.out.len, ← HM.out.2.1]; exact HL.out)] at hpe
          have HPE := Lib.hid hpe
          clear hpe
          go_wp2
          go_ret
          exact ⟨rfl, F', HPE.out, (Kept.of_below HBB.out).trans HKk.out (fun q hq h => h), fun q hq => (HFk.out q hq).elim .inl (fun h => .inr (by have := HW.out; omega))⟩
  · have C := Lib.hid (least_no p F m n L A N cap cols w h hc hl hN hz hm)
    rw [(rs_no hm).1, (rs_no hm).2]
    clear h hc hl hz hm hap
    have HBD := Lib.hid hbd
    clear hbd
    go_enter Tryz.func216, Tryz.ntmps216
    go_wp2_with (go_at_call 217; (with_reducible refine C.out.mono ?_); rintro e w1 ⟨rfl, hb⟩; have HB1 := Lib.hid hb; clear hb)
    go_ret
    exact ⟨rfl, HBD.out _ HB1.out⟩
end Go.Proofs.YtkflggojiiebeaaGreat.Con

namespace Go.Proofs.YtkflggojiiebeaaGreat.Con
open Go Go.RowKit Lw Grd Lin
set_option linter.unusedVariables false
def rsAll (L : List (List Int)) (ops : Ops) : List (List Int) := ops.foldl (fun L o => raised L o.1 (lea L o.1 + o.2)) L
theorem rsAll_one (L : List (List Int)) (ops : Ops) (o : List Int × Int) : rsAll L (ops ++ [o]) = raised (rsAll L ops) o.1 (lea (rsAll L ops) o.1 + o.2) := by
  unfold rsAll
  rw [List.foldl_append]
  rfl
theorem chAll_one (L : List (List Int)) (ops : Ops) (o : List Int × Int) : chAll L (ops ++ [o]) = changed (chAll L ops) o.1 o.2 := by
  unfold chAll
  rw [List.foldl_append]
  rfl
theorem sz_raised {m n : Nat} {L : List (List Int)} {cols : List Int} (h : Sz m n L) (hc : cols.length = m) (x : Int) : Sz m n (raised L cols x) := by
  refine ⟨by unfold raised; rw [List.length_zipWith, h.1, hc]; omega, fun r hr => ?_⟩
  obtain ⟨a, ha, b, hb, rfl⟩ := mem_zip hr
  rw [List.length_set]
  exact h.2 a ha
theorem cel_raised {m n : Nat} {L : List (List Int)} {cols : List Int} (h : Sz m n L) (hc : Meets m n cols) (x : Int) {r c : Nat} (hr : r < m) (hcn : c < n) : cel (raised L cols x) r c = if cols[r]? = some (c : Int) then max (cel L r c) x else cel L r c := by
  have hl : r < L.length := by rw [h.1]; exact hr
  obtain ⟨v, hv, hvn⟩ := meets_get hc hr
  have hrow := h.2 _ (List.getElem_mem hl)
  unfold cel raised
  rw [List.getElem?_zipWith, List.getElem?_eq_getElem hl, hv]
  simp only [Option.getD_some, Int.toNat_natCast]
  by_cases e : v = c
  · subst e
    rw [if_pos rfl, List.getElem?_set_self (by omega)]
    rfl
  · rw [if_neg (by simp; omega), List.getElem?_set_ne e]
theorem lea_mem {m n : Nat} {L : List (List Int)} {cols : List Int} (h : Sz m n L) (hc : Meets m n cols) : lea L cols ∈ named L cols ∧ ∀ y ∈ named L cols, lea L cols ≤ y := by
  have hl := named_len (L := L) (cols := cols) (by rw [hc.2.1, h.1])
  rw [h.1] at hl
  have hm := hc.1
  unfold lea
  rw [(Ord.kv_yes (k := 0) (by omega) (by rw [hl]; omega)).1]
  have hr := Ord.ranks_kth (named L cols) (0 : Int).toNat (by rw [hl]; simp; omega)
  refine ⟨hr.1, fun y hy => ?_⟩
  have h2 : Ord.less (named L cols) (Ord.kth (named L cols) (0 : Int).toNat) = 0 := by have := hr.2.1; simp at this ⊢; exact this
  unfold Ord.less at h2
  rw [List.countP_eq_zero] at h2
  have := h2 y hy
  simpa using this
theorem lea_le {m n : Nat} {L : List (List Int)} {cols : List Int} (h : Sz m n L) (hc : Meets m n cols) {r v : Nat} (hr : r < m) (hv : cols[r]? = some (v : Int)) : lea L cols ≤ cel L r v :=
  (lea_mem h hc).2 _ (List.mem_of_getElem? (named_cel h hc hr hv))
theorem lea_is {m n : Nat} {L : List (List Int)} {cols : List Int} (h : Sz m n L) (hc : Meets m n cols) : ∃ r v : Nat, r < m ∧ v < n ∧ cols[r]? = some (v : Int) ∧ lea L cols = cel L r v := by
  obtain ⟨r, hr, e⟩ := List.mem_iff_getElem.1 (lea_mem h hc).1
  have hl := named_len (L := L) (cols := cols) (by rw [hc.2.1, h.1])
  rw [h.1] at hl
  obtain ⟨v, hv, hvn⟩ := meets_get hc (show r < m by omega)
  have e2 := named_cel h hc (show r < m by omega) hv
  rw [List.getElem?_eq_getElem hr, e] at e2
  injection e2 with e2
  exact ⟨r, v, by omega, hvn, hv, e2⟩
theorem lea_ge {m n : Nat} {L : List (List Int)} {cols : List Int} (h : Sz m n L) (hc : Meets m n cols) {x : Int} (hx : ∀ r v : Nat, r < m → v < n → cols[r]? = some (v : Int) → x ≤ cel L r v) : x ≤ lea L cols := by
  obtain ⟨r, v, hr, hvn, hv, e⟩ := lea_is h hc
  rw [e]
  exact hx r v hr hvn hv
theorem lea_mono {m n : Nat} {L M : List (List Int)} {cols : List Int} (h : Sz m n L) (g : Sz m n M) (hc : Meets m n cols) (hle : ∀ r c : Nat, r < m → c < n → cel L r c ≤ cel M r c) : lea L cols ≤ lea M cols :=
  lea_ge g hc fun r v hr hvn hv => Int.le_trans (lea_le h hc hr hv) (hle r v hr hvn)
/-- What holds of a grid that rose, beside one to which the same was added. -/
structure Rose (m n : Nat) (G H : List (List Int)) (ops : Ops) : Prop where
  sg : Sz m n G
  sh : Sz m n H
  nn : ∀ r c : Nat, r < m → c < n → 0 ≤ cel G r c
  le : ∀ r c : Nat, r < m → c < n → cel G r c ≤ cel H r c
  ow : ∀ (cols : List Int), Meets m n cols → ∀ r v : Nat, r < m → v < n → cols[r]? = some (v : Int) → own cols ops ≤ cel G r v
theorem own_one (cols : List Int) (ops : Ops) (o : List Int × Int) : own cols (ops ++ [o]) = own cols ops + (if o.1 = cols then o.2 else 0) := by
  rw [own_app]
  simp [own]
theorem rose_zero (m n : Nat) : Rose m n (zerosL m n) (zerosL m n) [] :=
  ⟨sz_zeros m n, sz_zeros m n, fun r c _ _ => by rw [cel_zeros]; omega, fun _ _ _ _ => Int.le_refl _, fun cols _ r v _ _ _ => by rw [cel_zeros]; exact Int.le_refl _⟩
theorem rose_next {m n : Nat} {G H : List (List Int)} {ops : Ops} (h : Rose m n G H ops) {o : List Int × Int} (hm : Meets m n o.1) (hd : 0 ≤ o.2) : Rose m n (raised G o.1 (lea G o.1 + o.2)) (changed H o.1 o.2) (ops ++ [o]) := by
  refine ⟨sz_raised h.sg hm.2.1 _, sz_changed h.sh hm.2.1 _, fun r c hr hc => ?_, fun r c hr hc => ?_, fun cols hcm r v hr hvn hv => ?_⟩
  · rw [cel_raised h.sg hm _ hr hc]
    have := h.nn r c hr hc
    split <;> omega
  · rw [cel_raised h.sg hm _ hr hc, cel_changed h.sh hm _ hr hc]
    have h1 := h.le r c hr hc
    by_cases e : o.1[r]? = some (c : Int)
    · rw [if_pos e, if_pos e]
      have h2 := lea_le h.sg hm hr e
      omega
    · rw [if_neg e, if_neg e]
      omega
  · rw [cel_raised h.sg hm _ hr hvn, own_one]
    have h1 := h.ow cols hcm r v hr hvn hv
    by_cases e : o.1 = cols
    · rw [if_pos e]
      subst e
      rw [if_pos hv]
      have h2 : own o.1 ops ≤ lea G o.1 := lea_ge h.sg hm fun r v hr hvn hv => h.ow o.1 hm r v hr hvn hv
      omega
    · rw [if_neg e]
      split <;> omega
theorem rose_all {m n : Nat} {b : Int} : ∀ {ops : Ops} {pre : Ops} {G H : List (List Int)}, Rose m n G H pre → OpsOk m n b ops → Plus b ops → Rose m n (rsAll G ops) (chAll H ops) (pre ++ ops)
  | [], pre, G, H, h, _, _ => by simpa [rsAll, chAll] using h
  | o :: ops, pre, G, H, h, g, hp => by
    have ih := rose_all (ops := ops) (rose_next h (g o (by simp)).1 (hp o (by simp)).1) (fun p hq => g p (by simp [hq])) (fun p hq => hp p (by simp [hq]))
    rw [List.append_assoc] at ih
    exact ih
theorem Rose.lea_own {m n : Nat} {G H : List (List Int)} {ops : Ops} (h : Rose m n G H ops) {cols : List Int} (hc : Meets m n cols) : own cols ops ≤ lea G cols ∧ lea G cols ≤ lea H cols ∧ 0 ≤ lea G cols :=
  ⟨lea_ge h.sg hc (h.ow cols hc), lea_mono h.sg h.sh hc h.le, lea_ge h.sg hc (fun r v hr hvn _ => h.nn r v hr hvn)⟩
theorem cel_within {m n : Nat} {b : Int} {H : List (List Int)} (hs : Sz m n H) (hw : Within b H) {r c : Nat} (hr : r < m) (hc : c < n) : cel H r c ≤ b := by
  have h1 : r < H.length := by rw [hs.1]; exact hr
  have h2 := hs.2 _ (List.getElem_mem h1)
  unfold cel
  rw [List.getElem?_eq_getElem h1]
  simp only [Option.getD_some]
  rw [List.getElem?_eq_getElem (by omega)]
  exact (hw _ (List.getElem_mem h1) _ (List.getElem_mem _)).2
/-- In the midst of sixty raises: the next one is done, and so is the change. -/
theorem both_ok {m n : Nat} {ops : Ops} (hok : OpsOk m n 1099511627776 ops) (hp : Plus 1099511627776 ops) (hl : ops.length ≤ 60) (m8 : m ≤ 8) (n128 : n ≤ 128) {o : List Int × Int} (hm : Meets m n o.1) (hd : 0 ≤ o.2 ∧ o.2 ≤ 1099511627776) :
    (rsCode m n (rsAll (zerosL m n) ops) o.1 o.2 = 0 ∧ rsRes m n (rsAll (zerosL m n) ops) o.1 o.2 = rsAll (zerosL m n) (ops ++ [o])) ∧ (chCode m n (chAll (zerosL m n) ops) o.1 o.2 = 0 ∧ chRes m n (chAll (zerosL m n) ops) o.1 o.2 = chAll (zerosL m n) (ops ++ [o])) := by
  have hr := rose_all (rose_zero m n) hok hp
  have hw := within_mono (chAll_within (c := 1099511627776) (by omega) (b := 0) (Int.le_refl _) (within_zeros m n) hok) (c := 65970697666560) (by omega)
  have h2 := (hr.lea_own hm)
  have h3 : lea (chAll (zerosL m n) ops) o.1 ≤ 65970697666560 := by
    obtain ⟨r, v, hrm, hvn, hv, e⟩ := lea_is hr.sh hm
    rw [e]
    exact cel_within hr.sh hw hrm hvn
  have hf := fits_within (cols := o.1) (d := o.2) (c := 1099511627776) hw (by omega) (by omega) (by omega)
  have hf2 : Wid.fit64 (lea (rsAll (zerosL m n) ops) o.1 + o.2) = true := (Wid.fit64_yes (by omega) (by omega)).1
  rw [rsAll_one, chAll_one]
  exact ⟨rs_yes hm hd.1 hf2, ch_ok hm hf⟩
theorem rose_dims {m n : Nat} {ops : Ops} (hok : OpsOk m n 1099511627776 ops) (hp : Plus 1099511627776 ops) (hl : ops.length ≤ 60) : Within 65970697666560 (chAll (zerosL m n) ops) ∧ Within 65970697666560 (rsAll (zerosL m n) ops) := by
  have hr := rose_all (rose_zero m n) hok hp
  have hw := within_mono (chAll_within (c := 1099511627776) (by omega) (b := 0) (Int.le_refl _) (within_zeros m n) hok) (c := 65970697666560) (by omega)
  refine ⟨hw, fun row hrow v hv => ?_⟩
  obtain ⟨r, h1, rfl⟩ := List.mem_iff_getElem.1 hrow
  obtain ⟨c, h2, rfl⟩ := List.mem_iff_getElem.1 hv
  have h3 := hr.sg.2 _ (List.getElem_mem h1)
  have hrm : r < m := by rw [← hr.sg.1]; exact h1
  have hcn : c < n := by omega
  have e : cel (rsAll (zerosL m n) ops) r c = ((rsAll (zerosL m n) ops)[r])[c] := by
    unfold cel
    rw [List.getElem?_eq_getElem h1]
    simp only [Option.getD_some]
    rw [List.getElem?_eq_getElem h2]
    rfl
  have h4 := hr.nn r c hrm hcn
  have h5 := hr.le r c hrm hcn
  have h6 := cel_within hr.sh hw hrm hcn
  rw [← e]
  omega
end Go.Proofs.YtkflggojiiebeaaGreat.Con

namespace Go.Proofs.YtkflggojiiebeaaGreat.Sk
open Go Go.RowKit Lw Grd Lin Con Shp
set_option linter.unusedVariables false
/-- Rows and columns of a config. -/
def rws (c : Cfg) : Nat := c.rw.toNat
def wds (c : Cfg) : Nat := c.wd.toNat
theorem rws_bd {c : Cfg} (h : IsRight c) : 1 ≤ rws c ∧ rws c ≤ 8 ∧ ((rws c : Nat) : Int) = c.rw := by
  have h1 := h.2.2.1
  have h2 := h.2.2.2.1
  unfold rws
  omega
theorem wds_bd {c : Cfg} (h : IsRight c) : 1 ≤ wds c ∧ wds c ≤ 128 ∧ ((wds c : Nat) : Int) = c.wd := by
  have h1 := h.2.2.2.2.1
  have h2 := h.2.2.2.2.2.1
  unfold wds
  omega
theorem keys_right {c : Cfg} {l k : Int} (h0 : 0 ≤ k) (hk : k < keys c l) : IsRight c ∧ 0 ≤ l ∧ l ≤ c.bt := keys_pos.1 (by omega)
theorem cols_meet {c : Cfg} {l k : Int} (h0 : 0 ≤ k) (hk : k < keys c l) : Meets (rws c) (wds c) (cols c l k) := by
  have hr := (keys_right h0 hk).1
  have h1 := rws_bd hr
  have h2 := wds_bd hr
  refine ⟨h1.1, by rw [cols_len, if_pos hk]; rfl, fun v hv => ?_⟩
  rw [cols_yes hk] at hv
  obtain ⟨r, _, rfl⟩ := List.mem_map.1 hv
  have := col_range hr l k r
  omega
/-- Updates: keys and what is added. -/
abbrev Ups := List (Int × Int)
def opsU (c : Cfg) (l : Int) (us : Ups) : Ops := us.map (fun u => (cols c l u.1, u.2))
def UpsOk (c : Cfg) (l : Int) (b : Int) (us : Ups) : Prop := ∀ u ∈ us, 0 ≤ u.1 ∧ u.1 < keys c l ∧ -b ≤ u.2 ∧ u.2 ≤ b
theorem opsU_ok {c : Cfg} {l b : Int} {us : Ups} (h : UpsOk c l b us) : OpsOk (rws c) (wds c) b (opsU c l us) := by
  intro o ho
  unfold opsU at ho
  obtain ⟨u, hu, rfl⟩ := List.mem_map.1 ho
  have h2 := h u hu
  exact ⟨cols_meet h2.1 h2.2.1, h2.2.2⟩
theorem opsU_len (c : Cfg) (l : Int) (us : Ups) : (opsU c l us).length = us.length := by simp [opsU]
theorem opsU_app (c : Cfg) (l : Int) (us vs : Ups) : opsU c l (us ++ vs) = opsU c l us ++ opsU c l vs := by simp [opsU]
/-- What a key has. -/
def hasK (k : Int) : Ups → Int
  | [] => 0
  | u :: us => (if u.1 = k then u.2 else 0) + hasK k us
theorem hasK_app (k : Int) : ∀ a b : Ups, hasK k (a ++ b) = hasK k a + hasK k b
  | [], b => by simp [hasK]
  | u :: a, b => by simp only [List.cons_append, hasK, hasK_app k a b]; omega
theorem hasK_bd {k b : Int} (hb : 0 ≤ b) : ∀ {us : Ups}, (∀ u ∈ us, -b ≤ u.2 ∧ u.2 ≤ b) → -(us.length * b) ≤ hasK k us ∧ hasK k us ≤ us.length * b
  | [], _ => by simp [hasK]
  | u :: us, h => by
    have ih := hasK_bd hb (k := k) (us := us) (fun p hp => h p (by simp [hp]))
    have h1 := h u (by simp)
    have e1 : ((u :: us).length : Int) * b = (us.length : Int) * b + b := by
      have e1 : ((u :: us).length : Int) = (us.length : Int) + 1 := by simp
      rw [e1, Int.add_mul, Int.one_mul]
    rw [e1]
    simp only [hasK]
    split <;> omega
end Go.Proofs.YtkflggojiiebeaaGreat.Sk

namespace Go.Proofs.YtkflggojiiebeaaGreat.Sk
open Go Go.RowKit Lw Grd Lin Con Shp
set_option linter.unusedVariables false
def upCode (c : Cfg) (l : Int) (L : List (List Int)) (k d : Int) : Int :=
  if keys c l ≤ k then 2 else if c.md = 2 then rsCode (rws c) (wds c) L (cols c l k) d else chCode (rws c) (wds c) L (cols c l k) d
def upRes (c : Cfg) (l : Int) (L : List (List Int)) (k d : Int) : List (List Int) :=
  if keys c l ≤ k then L else if c.md = 2 then rsRes (rws c) (wds c) L (cols c l k) d else chRes (rws c) (wds c) L (cols c l k) d
def ptVal (c : Cfg) (l : Int) (L : List (List Int)) (k : Int) : Int :=
  if keys c l ≤ k then 0 else if c.md = 3 then Ord.kv (named L (cols c l k)) ((((named L (cols c l k)).length : Int) - 1) / 2) else lea L (cols c l k)
def ptCode (c : Cfg) (l k : Int) : Int := if keys c l ≤ k then 2 else 0
/-- An update, cut. -/
def cutU (c : Cfg) (l : Int) (u : Int × Int) : Int × Int := (u.1 % keys c l, dv (decide (c.md = 2)) u.2)
theorem cutU_ok {c : Cfg} {l : Int} (hk : 1 ≤ keys c l) (u : Int × Int) : 0 ≤ (cutU c l u).1 ∧ (cutU c l u).1 < keys c l ∧ -1099511627776 ≤ (cutU c l u).2 ∧ (cutU c l u).2 ≤ 1099511627776 ∧ (c.md = 2 → 0 ≤ (cutU c l u).2) := by
  refine ⟨Int.emod_nonneg _ (by omega), Int.emod_lt_of_pos _ (by omega), (dv_bd _ _).1, (dv_bd _ _).2, fun h => ?_⟩
  unfold cutU
  simp only [h, decide_true]
  exact dv_plain _
/-- The cells behind updates, from noughts on. -/
def cells (c : Cfg) (l : Int) (us : Ups) : List (List Int) := if c.md = 2 then rsAll (zerosL (rws c) (wds c)) (opsU c l us) else chAll (zerosL (rws c) (wds c)) (opsU c l us)
def UpsIn (c : Cfg) (l : Int) (us : Ups) : Prop := UpsOk c l 1099511627776 us ∧ (c.md = 2 → ∀ u ∈ us, 0 ≤ u.2)
theorem upsIn_cut {c : Cfg} {l : Int} (hk : 1 ≤ keys c l) (us : Ups) : UpsIn c l (us.map (cutU c l)) := by
  refine ⟨fun u hu => ?_, fun hm u hu => ?_⟩
  · obtain ⟨v, _, rfl⟩ := List.mem_map.1 hu
    have := cutU_ok hk v
    exact ⟨this.1, this.2.1, this.2.2.1, this.2.2.2.1⟩
  · obtain ⟨v, _, rfl⟩ := List.mem_map.1 hu
    exact (cutU_ok hk v).2.2.2.2 hm
theorem cells_nil (c : Cfg) (l : Int) : cells c l [] = zerosL (rws c) (wds c) := by unfold cells opsU; split <;> rfl
theorem plus_of {c : Cfg} {l : Int} {us : Ups} (h : UpsIn c l us) (hm : c.md = 2) : Plus 1099511627776 (opsU c l us) := by
  intro o ho
  unfold opsU at ho
  obtain ⟨u, hu, rfl⟩ := List.mem_map.1 ho
  exact ⟨h.2 hm u hu, (h.1 u hu).2.2.2⟩
/-- In the midst of sixty updates: the next one is done. -/
theorem up_ok {c : Cfg} {l : Int} (hr : IsRight c) {us : Ups} (h : UpsIn c l us) (hl : us.length ≤ 60) {u : Int × Int} (hu : UpsIn c l [u]) :
    upCode c l (cells c l us) u.1 u.2 = 0 ∧ upRes c l (cells c l us) u.1 u.2 = cells c l (us ++ [u]) := by
  have h1 := hu.1 u (by simp)
  have hm := cols_meet h1.1 h1.2.1
  have hok := opsU_ok h.1
  have hlen := opsU_len c l us
  have hw := rws_bd hr
  have hv := wds_bd hr
  unfold upCode upRes cells
  have hk : ¬ keys c l ≤ u.1 := by omega
  simp only [if_neg hk, opsU_app]
  by_cases h2 : c.md = 2
  · simp only [if_pos h2]
    exact (both_ok hok (plus_of h h2) (by omega) (by omega) (by omega) (o := (cols c l u.1, u.2)) hm ⟨hu.2 h2 u (by simp), h1.2.2.2⟩).1
  · simp only [if_neg h2]
    have hwi := chAll_within (c := 1099511627776) (by omega) (b := 0) (Int.le_refl _) (within_zeros (rws c) (wds c)) hok
    have hf := fits_within (cols := cols c l u.1) (d := u.2) (within_mono hwi (c := 65970697666560) (by omega)) (by omega) h1.2.2 (by omega)
    have e : opsU c l [u] = [(cols c l u.1, u.2)] := rfl
    rw [e, chAll_one]
    exact ch_ok hm hf
end Go.Proofs.YtkflggojiiebeaaGreat.Sk

namespace Go.Proofs.YtkflggojiiebeaaGreat.Sk
open Go Go.RowKit Lw Grd Lin Con Shp
set_option linter.unusedVariables false
set_option linter.unusedSimpArgs false
/-- A sketch of the code at p, in the blocks F. -/
def SK (w : World) (p : Addr) (F : Nat → Prop) (c : Cfg) (l : Int) (L : List (List Int)) : Prop :=
  IsRight c ∧ c.Ok ∧ 0 ≤ l ∧ l ≤ c.bt ∧ ∃ (b : Nat) (gp : Addr) (G : Nat → Prop), p = ⟨b, 0, none⟩ ∧ w.heap[b]? = some (.cells #[.pointer (some gp), .int .i64 c.bt, .int .i64 c.rw, .int .i64 c.wd, .int .i64 c.md, .int .u64 c.sd, .int .i64 l] 223 (0, 0)) ∧ PG w gp G (rws c) (wds c) L ∧ ¬ G b ∧ F = (fun k => k = b ∨ G k)
theorem SK.dims {w : World} {p : Addr} {F : Nat → Prop} {c : Cfg} {l : Int} {L : List (List Int)} (h : SK w p F c l L) : Dims (rws c) (wds c) L := by
  obtain ⟨_, _, _, _, b, gp, G, _, _, h, _⟩ := h
  exact h.dims
theorem SK.keep {w' : World} {H : Nat → Prop} {w : World} {p : Addr} {F : Nat → Prop} {c : Cfg} {l : Int} {L : List (List Int)} (h : SK w p F c l L) (hk : Kept H w w') (hf : ∀ k, F k → ¬ H k) : SK w' p F c l L := by
  obtain ⟨hr, hok, hl0, hl1, b, gp, G, rfl, hb, hg, hGb, rfl⟩ := h
  exact ⟨hr, hok, hl0, hl1, b, gp, G, rfl, hk.heap hb (hf b (.inl rfl)), (pgT gp G _ _ L).keep w w' H hg hk (fun k h => hf k (.inr h)), hGb, rfl⟩
theorem SK.up {w' : World} {w : World} {p : Addr} {F : Nat → Prop} {c : Cfg} {l : Int} {L : List (List Int)} (h : SK w p F c l L) (hk : Below w.heap.size w w') : SK w' p F c l L := h.keep (Kept.of_below (F := fun _ => False) hk) (fun _ _ h => h)
theorem SK.lt {w : World} {p : Addr} {F : Nat → Prop} {c : Cfg} {l : Int} {L : List (List Int)} (h : SK w p F c l L) (k : Nat) (hk : F k) : k < w.heap.size := by
  obtain ⟨hr, hok, hl0, hl1, b, gp, G, rfl, hb, hg, hGb, rfl⟩ := h
  rcases hk with rfl | hk
  · exact size_of_heap hb
  · exact (pgT gp G _ _ L).lt w hg k hk
def skT (p : Addr) (F : Nat → Prop) (c : Cfg) (l : Int) (L : List (List Int)) : Thing where
  I := fun w => SK w p F c l L
  F := F
  keep := fun w w' H h hk hf => h.keep hk hf
  lt := fun w h k hk => h.lt k hk
theorem cl_of {n : Int} {m : Nat} (h0 : 0 ≤ n) (h1 : n ≤ m) : cl n m = n.toNat := by unfold cl; omega
theorem sk_turn {w w' : World} {b : Nat} {gp : Addr} {G G' : Nat → Prop} {c : Cfg} {l : Int} {L : List (List Int)} (hr : IsRight c) (hok : c.Ok) (hl0 : 0 ≤ l) (hl1 : l ≤ c.bt)
    (hb : w.heap[b]? = some (.cells #[.pointer (some gp), .int .i64 c.bt, .int .i64 c.rw, .int .i64 c.wd, .int .i64 c.md, .int .u64 c.sd, .int .i64 l] 223 (0, 0))) (hGb : ¬ G b) (g' : PG w' gp G' (rws c) (wds c) L) (hk : Kept G w w') (hG : ∀ k, G' k → G k ∨ w.heap.size ≤ k) :
    ∃ F', SK w' ⟨b, 0, none⟩ F' c l L ∧ Kept (fun k => k = b ∨ G k) w w' ∧ (∀ q, F' q → (q = b ∨ G q) ∨ w.heap.size ≤ q) := by
  have hbl := size_of_heap hb
  refine ⟨_, ⟨hr, hok, hl0, hl1, b, gp, G', rfl, hk.heap hb hGb, g', fun h => ?_, rfl⟩, hk.mono (fun k _ h => .inr h), fun q hq => ?_⟩
  · rcases hG b h with h1 | h1
    · exact hGb h1
    · omega
  · rcases hq with rfl | h1
    · exact .inl (.inl rfl)
    · rcases hG q h1 with h2 | h2
      · exact .inl (.inr h2)
      · exact .inr h2
set_option maxRecDepth 100000 in
theorem way_lin (p : Addr) (F : Nat → Prop) (c : Cfg) (l : Int) (L : List (List Int)) (w : World) (h : SK w p F c l L) (hm : c.md = 1) :
    Calls Tryz.prog 214 #[.pointer (some p)] w fun e w' => e = .returned (.agg #[.func (.func 219) #[] #[], .func (.func 217) #[] #[], .bool true]) ∧ Below w.heap.size w w' := by
  obtain ⟨hr, hok, hl0, hl1, b, gp, G, rfl, hb, hg, hGb, rfl⟩ := h
  have hbl := size_of_heap hb
  have c4 := grd_cell hb 4 (v := .int .i64 c.md) rfl
  rw [hm] at c4
  clear hb hg hm
  go_enter Tryz.func214, Tryz.ntmps214
  go_wp2
  go_returns
  exact ⟨rfl, by (repeat' (first | (with_reducible first | exact Below.refl _ _ | assumption | refine below_over ?_ _ _ | refine Lw.below_alloc ?_ _ | refine Below.drew ?_ | refine below_drewN ?_ _ | refine Below.setCell ?_ ?_ _) | go_size))⟩
set_option maxRecDepth 100000 in
theorem way_con (p : Addr) (F : Nat → Prop) (c : Cfg) (l : Int) (L : List (List Int)) (w : World) (h : SK w p F c l L) (hm : c.md = 2) :
    Calls Tryz.prog 214 #[.pointer (some p)] w fun e w' => e = .returned (.agg #[.func (.func 216) #[] #[], .func (.func 217) #[] #[], .bool false]) ∧ Below w.heap.size w w' := by
  obtain ⟨hr, hok, hl0, hl1, b, gp, G, rfl, hb, hg, hGb, rfl⟩ := h
  have hbl := size_of_heap hb
  have c4 := grd_cell hb 4 (v := .int .i64 c.md) rfl
  rw [hm] at c4
  clear hb hg hm
  go_enter Tryz.func214, Tryz.ntmps214
  go_wp2
  go_returns
  exact ⟨rfl, by (repeat' (first | (with_reducible first | exact Below.refl _ _ | assumption | refine below_over ?_ _ _ | refine Lw.below_alloc ?_ _ | refine Below.drew ?_ | refine below_drewN ?_ _ | refine Below.setCell ?_ ?_ _) | go_size))⟩
set_option maxRecDepth 100000 in
theorem way_med (p : Addr) (F : Nat → Prop) (c : Cfg) (l : Int) (L : List (List Int)) (w : World) (h : SK w p F c l L) (hm : c.md = 3) :
    Calls Tryz.prog 214 #[.pointer (some p)] w fun e w' => e = .returned (.agg #[.func (.func 219) #[] #[], .func (.func 218) #[] #[], .bool true]) ∧ Below w.heap.size w w' := by
  obtain ⟨hr, hok, hl0, hl1, b, gp, G, rfl, hb, hg, hGb, rfl⟩ := h
  have hbl := size_of_heap hb
  have c4 := grd_cell hb 4 (v := .int .i64 c.md) rfl
  rw [hm] at c4
  clear hb hg hm
  go_enter Tryz.func214, Tryz.ntmps214
  go_wp2
  go_returns
  exact ⟨rfl, by (repeat' (first | (with_reducible first | exact Below.refl _ _ | assumption | refine below_over ?_ _ _ | refine Lw.below_alloc ?_ _ | refine Below.drew ?_ | refine below_drewN ?_ _ | refine Below.setCell ?_ ?_ _) | go_size))⟩
set_option maxRecDepth 100000 in
set_option maxHeartbeats 4000000 in
theorem scolumns_yes (p : Addr) (F : Nat → Prop) (c : Cfg) (l : Int) (L : List (List Int)) (k : Int) (w : World) (h : SK w p F c l L) (k0 : 0 ≤ k) (k1 : k ≤ 18446744073709551615) (hk : k < keys c l) :
    Calls Tryz.prog 212 #[.pointer (some p), .int .u64 k] w fun e w' => ∃ g, e = .returned (.tuple #[.slice (some ⟨g, 0, none⟩) (rws c) (rws c), .int .i64 0]) ∧ Ord.Mid w' g 0 (cols c l k) ∧ w.heap.size ≤ g ∧ Below w.heap.size w w' := by
  obtain ⟨hr, hok, hl0, hl1, b, gp, G, rfl, hb, hg, hGb, rfl⟩ := h
  have hbl := size_of_heap hb
  have c1 := grd_cell hb 1 (v := .int .i64 c.bt) rfl
  have c2 := grd_cell hb 2 (v := .int .i64 c.rw) rfl
  have c3 := grd_cell hb 3 (v := .int .i64 c.wd) rfl
  have c4 := grd_cell hb 4 (v := .int .i64 c.md) rfl
  have c5 := grd_cell hb 5 (v := .int .u64 c.sd) rfl
  have c6 := grd_cell hb 6 (v := .int .i64 l) rfl
  have hrw := rws_bd hr
  have C := Lib.hid (fun w => columns_new c l k (rws c) w hok (by omega) (by have := hr.2.1; omega) k0 k1 hk hrw.2.2.symm hrw.2.1)
  have HCO : Hid ((List.range (rws c)).map (col c l k) = cols c l k) := Lib.hid (if_pos hk).symm
  obtain ⟨n, hn⟩ : ∃ n, rws c = n := ⟨_, rfl⟩
  rw [hn] at C hrw HCO ⊢
  have hn0 : 1 ≤ n := hrw.1
  clear hrw hn hk
  clear hb hg
  go_enter Tryz.func212, Tryz.ntmps212
  go_wp2
  go_region_held3 (fun w' => w'.cell? ⟨b, 1, none⟩ = some (.int .i64 c.bt) ∧ w'.cell? ⟨b, 2, none⟩ = some (.int .i64 c.rw) ∧ w'.cell? ⟨b, 3, none⟩ = some (.int .i64 c.wd) ∧ w'.cell? ⟨b, 4, none⟩ = some (.int .i64 c.md) ∧ w'.cell? ⟨b, 5, none⟩ = some (.int .u64 c.sd) ∧ w'.cell? ⟨b, 6, none⟩ = some (.int .i64 l)) (first | (refine ⟨?_, ?_, ?_, ?_, ?_, ?_⟩ <;> (first | (with_reducible assumption) | (with_reducible refine cell_up c1 ?_) | (with_reducible refine cell_up c2 ?_) | (with_reducible refine cell_up c3 ?_) | (with_reducible refine cell_up c4 ?_) | (with_reducible refine cell_up c5 ?_) | (with_reducible refine cell_up c6 ?_)) <;> (repeat' (first | (with_reducible first | exact Below.refl _ _ | assumption | refine below_over ?_ _ _ | refine Lw.below_alloc ?_ _ | refine Below.drew ?_ | refine below_drewN ?_ _ | refine Below.setCell ?_ ?_ _) | go_size)))) (first
    | (go_at_call 215; (with_reducible refine (C.out _).mono ?_); rintro e w' ⟨g, rfl, hm, hg, hb2⟩; obtain ⟨bs, d, rfl⟩ := below_grow hb2; have HM := Lib.hid hm; clear hm hb2))
  all_goals go_wp2
  all_goals go_ret2
  all_goals exact ⟨g, rfl, HCO.out ▸ HM.out, hg, by (repeat' (first | (with_reducible first | exact Below.refl _ _ | assumption | refine below_over ?_ _ _ | refine Lw.below_alloc ?_ _ | refine Below.drew ?_ | refine below_drewN ?_ _ | refine Below.setCell ?_ ?_ _) | go_size))⟩
set_option maxRecDepth 100000 in
set_option maxHeartbeats 4000000 in
theorem scolumns_no (p : Addr) (F : Nat → Prop) (c : Cfg) (l : Int) (L : List (List Int)) (k : Int) (w : World) (h : SK w p F c l L) (k0 : 0 ≤ k) (k1 : k ≤ 18446744073709551615) (hk : keys c l ≤ k) :
    Calls Tryz.prog 212 #[.pointer (some p), .int .u64 k] w fun e w' => e = .returned (.tuple #[.slice none 0 0, .int .i64 2]) ∧ Below w.heap.size w w' := by
  obtain ⟨hr, hok, hl0, hl1, b, gp, G, rfl, hb, hg, hGb, rfl⟩ := h
  have hbl := size_of_heap hb
  have c1 := grd_cell hb 1 (v := .int .i64 c.bt) rfl
  have c2 := grd_cell hb 2 (v := .int .i64 c.rw) rfl
  have c3 := grd_cell hb 3 (v := .int .i64 c.wd) rfl
  have c4 := grd_cell hb 4 (v := .int .i64 c.md) rfl
  have c5 := grd_cell hb 5 (v := .int .u64 c.sd) rfl
  have c6 := grd_cell hb 6 (v := .int .i64 l) rfl
  have C := Lib.hid (fun w => columns_no c l k w hok (by omega) (by have := hr.2.1; omega) hk)
  clear hk
  clear hb hg
  go_enter Tryz.func212, Tryz.ntmps212
  go_wp2
  go_region_held3 (fun w' => w'.cell? ⟨b, 1, none⟩ = some (.int .i64 c.bt) ∧ w'.cell? ⟨b, 2, none⟩ = some (.int .i64 c.rw) ∧ w'.cell? ⟨b, 3, none⟩ = some (.int .i64 c.wd) ∧ w'.cell? ⟨b, 4, none⟩ = some (.int .i64 c.md) ∧ w'.cell? ⟨b, 5, none⟩ = some (.int .u64 c.sd) ∧ w'.cell? ⟨b, 6, none⟩ = some (.int .i64 l)) (first | (refine ⟨?_, ?_, ?_, ?_, ?_, ?_⟩ <;> (first | (with_reducible assumption) | (with_reducible refine cell_up c1 ?_) | (with_reducible refine cell_up c2 ?_) | (with_reducible refine cell_up c3 ?_) | (with_reducible refine cell_up c4 ?_) | (with_reducible refine cell_up c5 ?_) | (with_reducible refine cell_up c6 ?_)) <;> (repeat' (first | (with_reducible first | exact Below.refl _ _ | assumption | refine below_over ?_ _ _ | refine Lw.below_alloc ?_ _ | refine Below.drew ?_ | refine below_drewN ?_ _ | refine Below.setCell ?_ ?_ _) | go_size)))) (first
    | (go_at_call 215; (with_reducible refine (C.out _).mono ?_); rintro e w' ⟨rfl, hb2⟩; obtain ⟨bs, d, rfl⟩ := below_grow hb2; clear hb2))
  all_goals go_wp2
  all_goals go_ret2
  all_goals exact ⟨rfl, by (repeat' (first | (with_reducible first | exact Below.refl _ _ | assumption | refine below_over ?_ _ _ | refine Lw.below_alloc ?_ _ | refine Below.drew ?_ | refine below_drewN ?_ _ | refine Below.setCell ?_ ?_ _) | go_size))⟩
set_option maxRecDepth 100000 in
set_option maxHeartbeats 4000000 in
theorem snew_yes (c : Cfg) (l : Int) (w : World) (h : c.Ok) (l0 : -9223372036854775808 ≤ l) (l1 : l ≤ 9223372036854775807) (hk : 1 ≤ keys c l) :
    Calls Tryz.prog 85 #[.agg #[.int .i64 c.bt, .int .i64 c.rw, .int .i64 c.wd, .int .i64 c.md, .int .u64 c.sd], .int .i64 l] w fun e w' => ∃ (p : Addr) (F : Nat → Prop), e = .returned (.tuple #[.pointer (some p), .int .i64 0]) ∧ SK w' p F c l (zerosL (rws c) (wds c)) ∧ (∀ k, F k → w.heap.size ≤ k) ∧ Below w.heap.size w w' := by
  have hr := keys_pos.1 hk
  have hw1 := rws_bd hr.1
  have hw2 := wds_bd hr.1
  have C := Lib.hid (fun w => keys_any c l w h l0 l1)
  have N := Lib.hid (fun w => new_any c.rw c.wd w h.r0 h.r1 h.w0 h.w1)
  have e1 : cl c.rw 8 = rws c := cl_of (by omega) (by omega)
  have e2 : cl c.wd 128 = wds c := cl_of (by omega) (by omega)
  rw [e1, e2] at N
  obtain ⟨K, hK⟩ : ∃ K, keys c l = K := ⟨_, rfl⟩
  rw [hK] at C hk
  have HR := Lib.hid hr
  clear hr hw1 hw2 e1 e2 hK
  go_enter Tryz.func85, Tryz.ntmps85
  go_wp2_with (go_at_call 46; (with_reducible refine (C.out _).mono ?_); rintro e w' ⟨rfl, hb⟩; obtain ⟨bs, d, rfl⟩ := below_grow hb; clear hb)
  obtain ⟨w1, hw1⟩ : ∃ w1, w1 = grow (w.alloc (.cells #[.int .i64 c.bt, .int .i64 c.rw, .int .i64 c.wd, .int .i64 c.md, .int .u64 c.sd] 24)) bs d := ⟨_, rfl⟩
  have HB1 : Hid (Below w.heap.size w w1) := Lib.hid (by rw [hw1]; (repeat' (first | (with_reducible first | exact Below.refl _ _ | assumption | refine below_over ?_ _ _ | refine Lw.below_alloc ?_ _ | refine Below.drew ?_ | refine below_drewN ?_ _ | refine Below.setCell ?_ ?_ _) | go_size)))
  have x0 : w1.cell? ⟨w.heap.size, 0, none⟩ = some (.int .i64 c.bt) := by rw [hw1]; simp [go_sem]
  have x1 : w1.cell? ⟨w.heap.size, 1, none⟩ = some (.int .i64 c.rw) := by rw [hw1]; simp [go_sem]
  have x2 : w1.cell? ⟨w.heap.size, 2, none⟩ = some (.int .i64 c.wd) := by rw [hw1]; simp [go_sem]
  have x3 : w1.cell? ⟨w.heap.size, 3, none⟩ = some (.int .i64 c.md) := by rw [hw1]; simp [go_sem]
  have x4 : w1.cell? ⟨w.heap.size, 4, none⟩ = some (.int .u64 c.sd) := by rw [hw1]; simp [go_sem]
  rw [← hw1]
  clear hw1
  go_region_held3 (fun w' => w'.cell? ⟨w.heap.size, 0, none⟩ = some (.int .i64 c.bt) ∧ w'.cell? ⟨w.heap.size, 1, none⟩ = some (.int .i64 c.rw) ∧ w'.cell? ⟨w.heap.size, 2, none⟩ = some (.int .i64 c.wd) ∧ w'.cell? ⟨w.heap.size, 3, none⟩ = some (.int .i64 c.md) ∧ w'.cell? ⟨w.heap.size, 4, none⟩ = some (.int .u64 c.sd)) (first | (refine ⟨?_, ?_, ?_, ?_, ?_⟩ <;> (first | (with_reducible assumption) | (with_reducible refine cell_up x0 ?_) | (with_reducible refine cell_up x1 ?_) | (with_reducible refine cell_up x2 ?_) | (with_reducible refine cell_up x3 ?_) | (with_reducible refine cell_up x4 ?_)) <;> (repeat' (first | (with_reducible first | exact Below.refl _ _ | assumption | refine below_over ?_ _ _ | refine Lw.below_alloc ?_ _ | refine Below.drew ?_ | refine below_drewN ?_ _ | refine Below.setCell ?_ ?_ _) | go_size)))) (first
    | (go_at_call 117; (with_reducible refine (N.out _).mono ?_); rintro e w2 ⟨gp, G, rfl, hg, hG, hb2⟩; obtain ⟨bs2, d2, rfl⟩ := below_grow hb2; have HG := Lib.hid hg; have HF := Lib.hid hG; have HB2 := Lib.hid hb2; clear hg hG hb2))
  all_goals go_wp2
  all_goals go_ret2
  have hgl := fun k (hk : G k) => (pgT gp G _ _ _).lt _ HG.out k hk
  rw [size_grow] at hgl
  have hn := heap_alloc_new (grow w1 bs2 d2) (.cells #[.pointer (some gp), .int .i64 c.bt, .int .i64 c.rw, .int .i64 c.wd, .int .i64 c.md, .int .u64 c.sd, .int .i64 l] 223)
  rw [size_grow] at hn
  have hs := HB1.out.size
  have hz : w1.drew.heap.size = w1.heap.size := rfl
  rw [hz] at hgl
  refine ⟨⟨w1.heap.size + bs2.size, 0, none⟩, fun k => k = w1.heap.size + bs2.size ∨ G k, rfl, ⟨HR.out.1, h, HR.out.2.1, HR.out.2.2, _, gp, G, rfl, hn, pg_alloc HG.out _, fun hk => by have := hgl _ hk; omega, rfl⟩, fun k hk => ?_, ?_⟩
  · rcases hk with rfl | hk
    · omega
    · have := HF.out k hk; rw [hz] at this; omega
  · exact (below_call (Below.drew HB1.out) HB2.out (Nat.le_refl _)).alloc (by rw [size_grow]; omega) _
set_option maxRecDepth 100000 in
set_option maxHeartbeats 4000000 in
theorem spoint_no (p : Addr) (F : Nat → Prop) (c : Cfg) (l : Int) (L : List (List Int)) (k : Int) (w : World) (h : SK w p F c l L) (k0 : 0 ≤ k) (k1 : k ≤ 18446744073709551615) (hk : keys c l ≤ k) :
    Calls Tryz.prog 210 #[.pointer (some p), .int .u64 k] w fun e w' => e = .returned (.tuple #[.int .i64 0, .int .i64 2]) ∧ Below w.heap.size w w' := by
  have CN := Lib.hid (scolumns_no p F c l L k w h k0 k1 hk)
  clear h
  go_enter Tryz.func210, Tryz.ntmps210
  go_wp2_with (go_at_call 212; (with_reducible refine CN.out.mono ?_); rintro e w1 ⟨rfl, hb1⟩; have HB1 := Lib.hid hb1; clear hb1)
  go_ret2
  exact ⟨rfl, HB1.out⟩
set_option maxRecDepth 100000 in
set_option maxHeartbeats 4000000 in
theorem supd_no (p : Addr) (F : Nat → Prop) (c : Cfg) (l : Int) (L : List (List Int)) (k : Int) (w : World) (h : SK w p F c l L) (k0 : 0 ≤ k) (k1 : k ≤ 18446744073709551615) (d : Int) (d0 : -9223372036854775808 ≤ d) (d1 : d ≤ 9223372036854775807) (hk : keys c l ≤ k) :
    Calls Tryz.prog 211 #[.pointer (some p), .int .u64 k, .int .i64 d] w fun e w' => e = .returned (.int .i64 2) ∧ Below w.heap.size w w' := by
  have CN := Lib.hid (scolumns_no p F c l L k w h k0 k1 hk)
  clear h
  go_enter Tryz.func211, Tryz.ntmps211
  go_wp2_with (go_at_call 212; (with_reducible refine CN.out.mono ?_); rintro e w1 ⟨rfl, hb1⟩; have HB1 := Lib.hid hb1; clear hb1)
  go_ret
  exact ⟨rfl, HB1.out⟩
theorem middle_yes (p : Addr) (F : Nat → Prop) (m n : Nat) (L : List (List Int)) (A : Option Addr) (N cap : Nat) (cols : List Int) (w : World) (h : PG w p F m n L) (hc : Rd .i64 w A cols) (hl : cols.length = N) (hN : N ≤ 1000) (hz : In64 cols) (hm : Meets m n cols) :
    Calls Tryz.prog 218 #[.pointer (some p), .slice A N cap] w fun e w' => e = .returned (.tuple #[.int .i64 (Ord.kv (named L cols) ((((named L cols).length : Int) - 1) / 2)), .int .i64 0]) ∧ Below w.heap.size w w' := by
  have C := middle_any p F m n L A N cap cols w h hc hl hN hz
  rw [(readOf_yes (L := L) hm).1, (readOf_yes (L := L) hm).2] at C
  exact C
theorem in64_cols (c : Cfg) (l k : Int) : In64 (cols c l k) := fun v hv => cols_in c l k v hv
set_option maxRecDepth 100000 in
set_option maxHeartbeats 4000000 in
theorem spoint_lin (p : Addr) (F : Nat → Prop) (c : Cfg) (l : Int) (L : List (List Int)) (k : Int) (w : World) (h : SK w p F c l L) (k0 : 0 ≤ k) (k1 : k ≤ 18446744073709551615) (hk : k < keys c l) (hm : c.md = 1) :
    Calls Tryz.prog 210 #[.pointer (some p), .int .u64 k] w fun e w' => e = .returned (.tuple #[.int .i64 (lea L (cols c l k)), .int .i64 0]) ∧ Below w.heap.size w w' := by
  have HS := Lib.hid h
  obtain ⟨hr, hok, hl0, hl1, b, gp, G, rfl, hb, hg, hGb, rfl⟩ := h
  have hbl := size_of_heap hb
  have c0w := grd_cell hb 0 (v := .pointer (some gp)) rfl
  have CY := Lib.hid (scolumns_yes _ _ c l L k w HS.out k0 k1 hk)
  have WY : Hid (∀ w', Below w.heap.size w w' → Calls Tryz.prog 214 #[.pointer (some ⟨b, 0, none⟩)] w' fun e w2 => e = .returned (.agg #[.func (.func 219) #[] #[], .func (.func 217) #[] #[], .bool true]) ∧ Below w'.heap.size w' w2) := Lib.hid (fun w' hb2 => way_lin _ _ c l L w' (HS.out.up hb2) hm)
  have hcl : (cols c l k).length = rws c := (cols_meet k0 hk).2.1
  have hrw := rws_bd hr
  have TL : Hid (∀ w' g, Below w.heap.size w w' → Ord.Mid w' g 0 (cols c l k) → Calls Tryz.prog 217 #[.pointer (some gp), .slice (some ⟨g, 0, none⟩) (rws c) (rws c)] w' fun e w2 => e = .returned (.tuple #[.int .i64 (lea L (cols c l k)), .int .i64 0]) ∧ Below w'.heap.size w' w2) := Lib.hid (fun w' g hb2 hmid => least_yes gp G _ _ L _ _ _ _ w' (pg_up hg hb2) hmid.rd hcl (by omega) (in64_cols c l k) (cols_meet k0 hk))
  obtain ⟨n, hn⟩ : ∃ n, rws c = n := ⟨_, rfl⟩
  obtain ⟨V, hV⟩ : ∃ V, lea L (cols c l k) = V := ⟨_, rfl⟩
  rw [hV] at TL ⊢
  rw [hn] at CY TL
  have hfd : ∀ w : World, (Instr.field 299 (.agg #[.func (.func 219) #[] #[], .func (.func 217) #[] #[], .bool true]) 1).run Tryz.prog w = .ok (.func (.func 217) #[] #[]) w := fun _ => by kernel_rfl
  clear hb hg hcl hrw hn hV hm hk
  go_enter Tryz.func210, Tryz.ntmps210
  go_wp2_with (go_at_call 212; (with_reducible refine CY.out.mono ?_); rintro e w1 ⟨g, rfl, hm1, hg1, hb1⟩; have HM1 := Lib.hid hm1; have HB1 := Lib.hid hb1; clear hm1 hb1)
  have c0 := cell_up c0w HB1.out
  have WY1 : Hid (∀ w', Below w1.heap.size w1 w' → _) := Lib.hid (fun w' hb2 => WY.out w' (below_call HB1.out hb2 (Nat.le_refl _)))
  have TL1 : Hid (∀ w', Below w1.heap.size w1 w' → _) := Lib.hid (fun w' hb2 => TL.out w' g (below_call HB1.out hb2 (Nat.le_refl _)) (HM1.out.up hb2))
  go_region_held3 (fun w' => w'.cell? ⟨b, 0, none⟩ = some (.pointer (some gp))) (first | (with_reducible assumption) | (with_reducible refine cell_up c0 ?_ <;> (repeat' (first | (with_reducible first | exact Below.refl _ _ | assumption | refine below_over ?_ _ _ | refine Lw.below_alloc ?_ _ | refine Below.drew ?_ | refine below_drewN ?_ _ | refine Below.setCell ?_ ?_ _) | go_size)))) (first
    | (go_at_call 214; (with_reducible refine (WY1.out _ (by (repeat' (first | (with_reducible first | exact Below.refl _ _ | assumption | refine below_over ?_ _ _ | refine Lw.below_alloc ?_ _ | refine Below.drew ?_ | refine below_drewN ?_ _ | refine Below.setCell ?_ ?_ _) | go_size)))).mono ?_); rintro e w' ⟨rfl, hb2⟩; obtain ⟨bs, d2, rfl⟩ := below_grow hb2; clear hb2)
    | (go_at_call 217; (with_reducible refine (TL1.out _ (by (repeat' (first | (with_reducible first | exact Below.refl _ _ | assumption | refine below_over ?_ _ _ | refine Lw.below_alloc ?_ _ | refine Below.drew ?_ | refine below_drewN ?_ _ | refine Below.setCell ?_ ?_ _) | go_size)))).mono ?_); rintro e w' ⟨rfl, hb2⟩; obtain ⟨bs3, d3, rfl⟩ := below_grow hb2; clear hb2))
  all_goals go_wp2
  all_goals go_ret2
  all_goals exact ⟨rfl, below_call HB1.out (by (repeat' (first | (with_reducible first | exact Below.refl _ _ | assumption | refine below_over ?_ _ _ | refine Lw.below_alloc ?_ _ | refine Below.drew ?_ | refine below_drewN ?_ _ | refine Below.setCell ?_ ?_ _) | go_size))) (Nat.le_refl _)⟩
set_option maxRecDepth 100000 in
set_option maxHeartbeats 4000000 in
theorem supd_lin (p : Addr) (F : Nat → Prop) (c : Cfg) (l : Int) (L : List (List Int)) (k : Int) (w : World) (h : SK w p F c l L) (k0 : 0 ≤ k) (k1 : k ≤ 18446744073709551615) (d : Int) (d0 : -9223372036854775808 ≤ d) (d1 : d ≤ 9223372036854775807) (hk : k < keys c l) (hm : c.md = 1) :
    Calls Tryz.prog 211 #[.pointer (some p), .int .u64 k, .int .i64 d] w fun e w' => e = .returned (.int .i64 (chCode (rws c) (wds c) L (cols c l k) d)) ∧ ∃ F', SK w' p F' c l (chRes (rws c) (wds c) L (cols c l k) d) ∧ Kept F w w' ∧ (∀ q, F' q → F q ∨ w.heap.size ≤ q) := by
  have HS := Lib.hid h
  obtain ⟨hr, hok, hl0, hl1, b, gp, G, rfl, hb, hg, hGb, rfl⟩ := h
  have hbl := size_of_heap hb
  have c0w := grd_cell hb 0 (v := .pointer (some gp)) rfl
  have CY := Lib.hid (scolumns_yes _ _ c l L k w HS.out k0 k1 hk)
  have WY : Hid (∀ w', Below w.heap.size w w' → Calls Tryz.prog 214 #[.pointer (some ⟨b, 0, none⟩)] w' fun e w2 => e = .returned (.agg #[.func (.func 219) #[] #[], .func (.func 217) #[] #[], .bool true]) ∧ Below w'.heap.size w' w2) := Lib.hid (fun w' hb2 => way_lin _ _ c l L w' (HS.out.up hb2) hm)
  have hcl : (cols c l k).length = rws c := (cols_meet k0 hk).2.1
  have hrw := rws_bd hr
  have TL : Hid (∀ w' g, Below w.heap.size w w' → Ord.Mid w' g 0 (cols c l k) → w.heap.size ≤ g → Calls Tryz.prog 219 #[.pointer (some gp), .slice (some ⟨g, 0, none⟩) (rws c) (rws c), .int .i64 d] w' fun e w2 => e = .returned (.int .i64 (chCode (rws c) (wds c) L (cols c l k) d)) ∧ ∃ G', PG w2 gp G' (rws c) (wds c) (chRes (rws c) (wds c) L (cols c l k) d) ∧ Kept G w w2 ∧ (∀ q, G' q → G q ∨ w.heap.size ≤ q)) := Lib.hid (fun w' g hb2 hmid hg2 => (change_any gp G _ _ L _ _ _ _ d w' (pg_up hg hb2) hmid.rd (fun a ha hGa => by injection ha with ha; subst ha; have := (pgT gp G _ _ L).lt w hg g hGa; omega) hcl (by omega) (in64_cols c l k) d0 d1).mono (fun e w2 ⟨e1, G', h1, h2, h3⟩ => ⟨e1, G', h1, (Kept.of_below hb2).trans h2 (fun q hq h => h), fun q hq => (h3 q hq).elim .inl (fun h => .inr (Nat.le_trans hb2.size h))⟩))
  have HT : Hid (∀ w' G', PG w' gp G' (rws c) (wds c) (chRes (rws c) (wds c) L (cols c l k) d) → Kept G w w' → (∀ k, G' k → G k ∨ w.heap.size ≤ k) → ∃ F', SK w' ⟨b, 0, none⟩ F' c l (chRes (rws c) (wds c) L (cols c l k) d) ∧ Kept (fun k => k = b ∨ G k) w w' ∧ (∀ q, F' q → (q = b ∨ G q) ∨ w.heap.size ≤ q)) := Lib.hid (fun w' G' h1 h2 h3 => sk_turn hr hok hl0 hl1 hb hGb h1 h2 h3)
  obtain ⟨n, hn⟩ : ∃ n, rws c = n := ⟨_, rfl⟩
  obtain ⟨V, hV⟩ : ∃ V, chCode (rws c) (wds c) L (cols c l k) d = V := ⟨_, rfl⟩
  obtain ⟨R, hR⟩ : ∃ R, chRes (rws c) (wds c) L (cols c l k) d = R := ⟨_, rfl⟩
  rw [hV, hR] at TL
  rw [hR] at HT
  rw [hV, hR]
  rw [hn] at CY TL HT
  have hfd : ∀ w : World, (Instr.field 299 (.agg #[.func (.func 219) #[] #[], .func (.func 217) #[] #[], .bool true]) 0).run Tryz.prog w = .ok (.func (.func 219) #[] #[]) w := fun _ => by kernel_rfl
  clear hb hg hcl hrw hn hV hR hm hk
  go_enter Tryz.func211, Tryz.ntmps211
  go_wp2_with (go_at_call 212; (with_reducible refine CY.out.mono ?_); rintro e w1 ⟨g, rfl, hm1, hg1, hb1⟩; have HM1 := Lib.hid hm1; have HB1 := Lib.hid hb1; clear hm1 hb1)
  have c0 := cell_up c0w HB1.out
  have WY1 : Hid (∀ w', Below w1.heap.size w1 w' → _) := Lib.hid (fun w' hb2 => WY.out w' (below_call HB1.out hb2 (Nat.le_refl _)))
  have TL1 : Hid (∀ w', Below w1.heap.size w1 w' → _) := Lib.hid (fun w' hb2 => TL.out w' g (below_call HB1.out hb2 (Nat.le_refl _)) (HM1.out.up hb2) hg1)
  go_region_held3 (fun w' => w'.cell? ⟨b, 0, none⟩ = some (.pointer (some gp))) (first | (with_reducible assumption) | (with_reducible refine cell_up c0 ?_ <;> (repeat' (first | (with_reducible first | exact Below.refl _ _ | assumption | refine below_over ?_ _ _ | refine Lw.below_alloc ?_ _ | refine Below.drew ?_ | refine below_drewN ?_ _ | refine Below.setCell ?_ ?_ _) | go_size)))) (first
    | (go_at_call 214; (with_reducible refine (WY1.out _ (by (repeat' (first | (with_reducible first | exact Below.refl _ _ | assumption | refine below_over ?_ _ _ | refine Lw.below_alloc ?_ _ | refine Below.drew ?_ | refine below_drewN ?_ _ | refine Below.setCell ?_ ?_ _) | go_size)))).mono ?_); rintro e w' ⟨rfl, hb2⟩; obtain ⟨bs, d2, rfl⟩ := below_grow hb2; clear hb2)
    | (go_at_call 219; (with_reducible refine (TL1.out _ (by (repeat' (first | (with_reducible first | exact Below.refl _ _ | assumption | refine below_over ?_ _ _ | refine Lw.below_alloc ?_ _ | refine Below.drew ?_ | refine below_drewN ?_ _ | refine Below.setCell ?_ ?_ _) | go_size)))).mono ?_); rintro e w6 ⟨rfl, G6, hp6, hk6, hf6⟩; have HP6 := Lib.hid hp6; have HK6 := Lib.hid hk6; have HF6 := Lib.hid hf6; have x0 : w6.cell? ⟨b, 0, none⟩ = some (.pointer (some gp)) := hk6.cell c0w hGb; clear hp6 hk6 hf6))
  all_goals go_wp2
  all_goals go_ret
  all_goals exact ⟨rfl, HT.out _ _ HP6.out HK6.out HF6.out⟩
set_option maxRecDepth 100000 in
set_option maxHeartbeats 4000000 in
theorem spoint_con (p : Addr) (F : Nat → Prop) (c : Cfg) (l : Int) (L : List (List Int)) (k : Int) (w : World) (h : SK w p F c l L) (k0 : 0 ≤ k) (k1 : k ≤ 18446744073709551615) (hk : k < keys c l) (hm : c.md = 2) :
    Calls Tryz.prog 210 #[.pointer (some p), .int .u64 k] w fun e w' => e = .returned (.tuple #[.int .i64 (lea L (cols c l k)), .int .i64 0]) ∧ Below w.heap.size w w' := by
  have HS := Lib.hid h
  obtain ⟨hr, hok, hl0, hl1, b, gp, G, rfl, hb, hg, hGb, rfl⟩ := h
  have hbl := size_of_heap hb
  have c0w := grd_cell hb 0 (v := .pointer (some gp)) rfl
  have CY := Lib.hid (scolumns_yes _ _ c l L k w HS.out k0 k1 hk)
  have WY : Hid (∀ w', Below w.heap.size w w' → Calls Tryz.prog 214 #[.pointer (some ⟨b, 0, none⟩)] w' fun e w2 => e = .returned (.agg #[.func (.func 216) #[] #[], .func (.func 217) #[] #[], .bool false]) ∧ Below w'.heap.size w' w2) := Lib.hid (fun w' hb2 => way_con _ _ c l L w' (HS.out.up hb2) hm)
  have hcl : (cols c l k).length = rws c := (cols_meet k0 hk).2.1
  have hrw := rws_bd hr
  have TL : Hid (∀ w' g, Below w.heap.size w w' → Ord.Mid w' g 0 (cols c l k) → Calls Tryz.prog 217 #[.pointer (some gp), .slice (some ⟨g, 0, none⟩) (rws c) (rws c)] w' fun e w2 => e = .returned (.tuple #[.int .i64 (lea L (cols c l k)), .int .i64 0]) ∧ Below w'.heap.size w' w2) := Lib.hid (fun w' g hb2 hmid => least_yes gp G _ _ L _ _ _ _ w' (pg_up hg hb2) hmid.rd hcl (by omega) (in64_cols c l k) (cols_meet k0 hk))
  obtain ⟨n, hn⟩ : ∃ n, rws c = n := ⟨_, rfl⟩
  obtain ⟨V, hV⟩ : ∃ V, lea L (cols c l k) = V := ⟨_, rfl⟩
  rw [hV] at TL ⊢
  rw [hn] at CY TL
  have hfd : ∀ w : World, (Instr.field 299 (.agg #[.func (.func 216) #[] #[], .func (.func 217) #[] #[], .bool false]) 1).run Tryz.prog w = .ok (.func (.func 217) #[] #[]) w := fun _ => by kernel_rfl
  clear hb hg hcl hrw hn hV hm hk
  go_enter Tryz.func210, Tryz.ntmps210
  go_wp2_with (go_at_call 212; (with_reducible refine CY.out.mono ?_); rintro e w1 ⟨g, rfl, hm1, hg1, hb1⟩; have HM1 := Lib.hid hm1; have HB1 := Lib.hid hb1; clear hm1 hb1)
  have c0 := cell_up c0w HB1.out
  have WY1 : Hid (∀ w', Below w1.heap.size w1 w' → _) := Lib.hid (fun w' hb2 => WY.out w' (below_call HB1.out hb2 (Nat.le_refl _)))
  have TL1 : Hid (∀ w', Below w1.heap.size w1 w' → _) := Lib.hid (fun w' hb2 => TL.out w' g (below_call HB1.out hb2 (Nat.le_refl _)) (HM1.out.up hb2))
  go_region_held3 (fun w' => w'.cell? ⟨b, 0, none⟩ = some (.pointer (some gp))) (first | (with_reducible assumption) | (with_reducible refine cell_up c0 ?_ <;> (repeat' (first | (with_reducible first | exact Below.refl _ _ | assumption | refine below_over ?_ _ _ | refine Lw.below_alloc ?_ _ | refine Below.drew ?_ | refine below_drewN ?_ _ | refine Below.setCell ?_ ?_ _) | go_size)))) (first
    | (go_at_call 214; (with_reducible refine (WY1.out _ (by (repeat' (first | (with_reducible first | exact Below.refl _ _ | assumption | refine below_over ?_ _ _ | refine Lw.below_alloc ?_ _ | refine Below.drew ?_ | refine below_drewN ?_ _ | refine Below.setCell ?_ ?_ _) | go_size)))).mono ?_); rintro e w' ⟨rfl, hb2⟩; obtain ⟨bs, d2, rfl⟩ := below_grow hb2; clear hb2)
    | (go_at_call 217; (with_reducible refine (TL1.out _ (by (repeat' (first | (with_reducible first | exact Below.refl _ _ | assumption | refine below_over ?_ _ _ | refine Lw.below_alloc ?_ _ | refine Below.drew ?_ | refine below_drewN ?_ _ | refine Below.setCell ?_ ?_ _) | go_size)))).mono ?_); rintro e w' ⟨rfl, hb2⟩; obtain ⟨bs3, d3, rfl⟩ := below_grow hb2; clear hb2))
  all_goals go_wp2
  all_goals go_ret2
  all_goals exact ⟨rfl, below_call HB1.out (by (repeat' (first | (with_reducible first | exact Below.refl _ _ | assumption | refine below_over ?_ _ _ | refine Lw.below_alloc ?_ _ | refine Below.drew ?_ | refine below_drewN ?_ _ | refine Below.setCell ?_ ?_ _) | go_size))) (Nat.le_refl _)⟩
set_option maxRecDepth 100000 in
set_option maxHeartbeats 4000000 in
theorem supd_con (p : Addr) (F : Nat → Prop) (c : Cfg) (l : Int) (L : List (List Int)) (k : Int) (w : World) (h : SK w p F c l L) (k0 : 0 ≤ k) (k1 : k ≤ 18446744073709551615) (d : Int) (d0 : -9223372036854775808 ≤ d) (d1 : d ≤ 9223372036854775807) (hk : k < keys c l) (hm : c.md = 2) :
    Calls Tryz.prog 211 #[.pointer (some p), .int .u64 k, .int .i64 d] w fun e w' => e = .returned (.int .i64 (rsCode (rws c) (wds c) L (cols c l k) d)) ∧ ∃ F', SK w' p F' c l (rsRes (rws c) (wds c) L (cols c l k) d) ∧ Kept F w w' ∧ (∀ q, F' q → F q ∨ w.heap.size ≤ q) := by
  have HS := Lib.hid h
  obtain ⟨hr, hok, hl0, hl1, b, gp, G, rfl, hb, hg, hGb, rfl⟩ := h
  have hbl := size_of_heap hb
  have c0w := grd_cell hb 0 (v := .pointer (some gp)) rfl
  have CY := Lib.hid (scolumns_yes _ _ c l L k w HS.out k0 k1 hk)
  have WY : Hid (∀ w', Below w.heap.size w w' → Calls Tryz.prog 214 #[.pointer (some ⟨b, 0, none⟩)] w' fun e w2 => e = .returned (.agg #[.func (.func 216) #[] #[], .func (.func 217) #[] #[], .bool false]) ∧ Below w'.heap.size w' w2) := Lib.hid (fun w' hb2 => way_con _ _ c l L w' (HS.out.up hb2) hm)
  have hcl : (cols c l k).length = rws c := (cols_meet k0 hk).2.1
  have hrw := rws_bd hr
  have TL : Hid (∀ w' g, Below w.heap.size w w' → Ord.Mid w' g 0 (cols c l k) → w.heap.size ≤ g → Calls Tryz.prog 216 #[.pointer (some gp), .slice (some ⟨g, 0, none⟩) (rws c) (rws c), .int .i64 d] w' fun e w2 => e = .returned (.int .i64 (rsCode (rws c) (wds c) L (cols c l k) d)) ∧ ∃ G', PG w2 gp G' (rws c) (wds c) (rsRes (rws c) (wds c) L (cols c l k) d) ∧ Kept G w w2 ∧ (∀ q, G' q → G q ∨ w.heap.size ≤ q)) := Lib.hid (fun w' g hb2 hmid hg2 => (raise_any gp G _ _ L _ _ _ _ d w' (pg_up hg hb2) hmid.rd (fun a ha hGa => by injection ha with ha; subst ha; have := (pgT gp G _ _ L).lt w hg g hGa; omega) hcl (by omega) (in64_cols c l k) d0 d1).mono (fun e w2 ⟨e1, G', h1, h2, h3⟩ => ⟨e1, G', h1, (Kept.of_below hb2).trans h2 (fun q hq h => h), fun q hq => (h3 q hq).elim .inl (fun h => .inr (Nat.le_trans hb2.size h))⟩))
  have HT : Hid (∀ w' G', PG w' gp G' (rws c) (wds c) (rsRes (rws c) (wds c) L (cols c l k) d) → Kept G w w' → (∀ k, G' k → G k ∨ w.heap.size ≤ k) → ∃ F', SK w' ⟨b, 0, none⟩ F' c l (rsRes (rws c) (wds c) L (cols c l k) d) ∧ Kept (fun k => k = b ∨ G k) w w' ∧ (∀ q, F' q → (q = b ∨ G q) ∨ w.heap.size ≤ q)) := Lib.hid (fun w' G' h1 h2 h3 => sk_turn hr hok hl0 hl1 hb hGb h1 h2 h3)
  obtain ⟨n, hn⟩ : ∃ n, rws c = n := ⟨_, rfl⟩
  obtain ⟨V, hV⟩ : ∃ V, rsCode (rws c) (wds c) L (cols c l k) d = V := ⟨_, rfl⟩
  obtain ⟨R, hR⟩ : ∃ R, rsRes (rws c) (wds c) L (cols c l k) d = R := ⟨_, rfl⟩
  rw [hV, hR] at TL
  rw [hR] at HT
  rw [hV, hR]
  rw [hn] at CY TL HT
  have hfd : ∀ w : World, (Instr.field 299 (.agg #[.func (.func 216) #[] #[], .func (.func 217) #[] #[], .bool false]) 0).run Tryz.prog w = .ok (.func (.func 216) #[] #[]) w := fun _ => by kernel_rfl
  clear hb hg hcl hrw hn hV hR hm hk
  go_enter Tryz.func211, Tryz.ntmps211
  go_wp2_with (go_at_call 212; (with_reducible refine CY.out.mono ?_); rintro e w1 ⟨g, rfl, hm1, hg1, hb1⟩; have HM1 := Lib.hid hm1; have HB1 := Lib.hid hb1; clear hm1 hb1)
  have c0 := cell_up c0w HB1.out
  have WY1 : Hid (∀ w', Below w1.heap.size w1 w' → _) := Lib.hid (fun w' hb2 => WY.out w' (below_call HB1.out hb2 (Nat.le_refl _)))
  have TL1 : Hid (∀ w', Below w1.heap.size w1 w' → _) := Lib.hid (fun w' hb2 => TL.out w' g (below_call HB1.out hb2 (Nat.le_refl _)) (HM1.out.up hb2) hg1)
  go_region_held3 (fun w' => w'.cell? ⟨b, 0, none⟩ = some (.pointer (some gp))) (first | (with_reducible assumption) | (with_reducible refine cell_up c0 ?_ <;> (repeat' (first | (with_reducible first | exact Below.refl _ _ | assumption | refine below_over ?_ _ _ | refine Lw.below_alloc ?_ _ | refine Below.drew ?_ | refine below_drewN ?_ _ | refine Below.setCell ?_ ?_ _) | go_size)))) (first
    | (go_at_call 214; (with_reducible refine (WY1.out _ (by (repeat' (first | (with_reducible first | exact Below.refl _ _ | assumption | refine below_over ?_ _ _ | refine Lw.below_alloc ?_ _ | refine Below.drew ?_ | refine below_drewN ?_ _ | refine Below.setCell ?_ ?_ _) | go_size)))).mono ?_); rintro e w' ⟨rfl, hb2⟩; obtain ⟨bs, d2, rfl⟩ := below_grow hb2; clear hb2)
    | (go_at_call 216; (with_reducible refine (TL1.out _ (by (repeat' (first | (with_reducible first | exact Below.refl _ _ | assumption | refine below_over ?_ _ _ | refine Lw.below_alloc ?_ _ | refine Below.drew ?_ | refine below_drewN ?_ _ | refine Below.setCell ?_ ?_ _) | go_size)))).mono ?_); rintro e w6 ⟨rfl, G6, hp6, hk6, hf6⟩; have HP6 := Lib.hid hp6; have HK6 := Lib.hid hk6; have HF6 := Lib.hid hf6; have x0 : w6.cell? ⟨b, 0, none⟩ = some (.pointer (some gp)) := hk6.cell c0w hGb; clear hp6 hk6 hf6))
  all_goals go_wp2
  all_goals go_ret
  all_goals exact ⟨rfl, HT.out _ _ HP6.out HK6.out HF6.out⟩
set_option maxRecDepth 100000 in
set_option maxHeartbeats 4000000 in
theorem spoint_med (p : Addr) (F : Nat → Prop) (c : Cfg) (l : Int) (L : List (List Int)) (k : Int) (w : World) (h : SK w p F c l L) (k0 : 0 ≤ k) (k1 : k ≤ 18446744073709551615) (hk : k < keys c l) (hm : c.md = 3) :
    Calls Tryz.prog 210 #[.pointer (some p), .int .u64 k] w fun e w' => e = .returned (.tuple #[.int .i64 (Ord.kv (named L (cols c l k)) ((((named L (cols c l k)).length : Int) - 1) / 2)), .int .i64 0]) ∧ Below w.heap.size w w' := by
  have HS := Lib.hid h
  obtain ⟨hr, hok, hl0, hl1, b, gp, G, rfl, hb, hg, hGb, rfl⟩ := h
  have hbl := size_of_heap hb
  have c0w := grd_cell hb 0 (v := .pointer (some gp)) rfl
  have CY := Lib.hid (scolumns_yes _ _ c l L k w HS.out k0 k1 hk)
  have WY : Hid (∀ w', Below w.heap.size w w' → Calls Tryz.prog 214 #[.pointer (some ⟨b, 0, none⟩)] w' fun e w2 => e = .returned (.agg #[.func (.func 219) #[] #[], .func (.func 218) #[] #[], .bool true]) ∧ Below w'.heap.size w' w2) := Lib.hid (fun w' hb2 => way_med _ _ c l L w' (HS.out.up hb2) hm)
  have hcl : (cols c l k).length = rws c := (cols_meet k0 hk).2.1
  have hrw := rws_bd hr
  have TL : Hid (∀ w' g, Below w.heap.size w w' → Ord.Mid w' g 0 (cols c l k) → Calls Tryz.prog 218 #[.pointer (some gp), .slice (some ⟨g, 0, none⟩) (rws c) (rws c)] w' fun e w2 => e = .returned (.tuple #[.int .i64 (Ord.kv (named L (cols c l k)) ((((named L (cols c l k)).length : Int) - 1) / 2)), .int .i64 0]) ∧ Below w'.heap.size w' w2) := Lib.hid (fun w' g hb2 hmid => middle_yes gp G _ _ L _ _ _ _ w' (pg_up hg hb2) hmid.rd hcl (by omega) (in64_cols c l k) (cols_meet k0 hk))
  obtain ⟨n, hn⟩ : ∃ n, rws c = n := ⟨_, rfl⟩
  obtain ⟨V, hV⟩ : ∃ V, Ord.kv (named L (cols c l k)) ((((named L (cols c l k)).length : Int) - 1) / 2) = V := ⟨_, rfl⟩
  rw [hV] at TL ⊢
  rw [hn] at CY TL
  have hfd : ∀ w : World, (Instr.field 299 (.agg #[.func (.func 219) #[] #[], .func (.func 218) #[] #[], .bool true]) 1).run Tryz.prog w = .ok (.func (.func 218) #[] #[]) w := fun _ => by kernel_rfl
  clear hb hg hcl hrw hn hV hm hk
  go_enter Tryz.func210, Tryz.ntmps210
  go_wp2_with (go_at_call 212; (with_reducible refine CY.out.mono ?_); rintro e w1 ⟨g, rfl, hm1, hg1, hb1⟩; have HM1 := Lib.hid hm1; have HB1 := Lib.hid hb1; clear hm1 hb1)
  have c0 := cell_up c0w HB1.out
  have WY1 : Hid (∀ w', Below w1.heap.size w1 w' → _) := Lib.hid (fun w' hb2 => WY.out w' (below_call HB1.out hb2 (Nat.le_refl _)))
  have TL1 : Hid (∀ w', Below w1.heap.size w1 w' → _) := Lib.hid (fun w' hb2 => TL.out w' g (below_call HB1.out hb2 (Nat.le_refl _)) (HM1.out.up hb2))
  go_region_held3 (fun w' => w'.cell? ⟨b, 0, none⟩ = some (.pointer (some gp))) (first | (with_reducible assumption) | (with_reducible refine cell_up c0 ?_ <;> (repeat' (first | (with_reducible first | exact Below.refl _ _ | assumption | refine below_over ?_ _ _ | refine Lw.below_alloc ?_ _ | refine Below.drew ?_ | refine below_drewN ?_ _ | refine Below.setCell ?_ ?_ _) | go_size)))) (first
    | (go_at_call 214; (with_reducible refine (WY1.out _ (by (repeat' (first | (with_reducible first | exact Below.refl _ _ | assumption | refine below_over ?_ _ _ | refine Lw.below_alloc ?_ _ | refine Below.drew ?_ | refine below_drewN ?_ _ | refine Below.setCell ?_ ?_ _) | go_size)))).mono ?_); rintro e w' ⟨rfl, hb2⟩; obtain ⟨bs, d2, rfl⟩ := below_grow hb2; clear hb2)
    | (go_at_call 218; (with_reducible refine (TL1.out _ (by (repeat' (first | (with_reducible first | exact Below.refl _ _ | assumption | refine below_over ?_ _ _ | refine Lw.below_alloc ?_ _ | refine Below.drew ?_ | refine below_drewN ?_ _ | refine Below.setCell ?_ ?_ _) | go_size)))).mono ?_); rintro e w' ⟨rfl, hb2⟩; obtain ⟨bs3, d3, rfl⟩ := below_grow hb2; clear hb2))
  all_goals go_wp2
  all_goals go_ret2
  all_goals exact ⟨rfl, below_call HB1.out (by (repeat' (first | (with_reducible first | exact Below.refl _ _ | assumption | refine below_over ?_ _ _ | refine Lw.below_alloc ?_ _ | refine Below.drew ?_ | refine below_drewN ?_ _ | refine Below.setCell ?_ ?_ _) | go_size))) (Nat.le_refl _)⟩
set_option maxRecDepth 100000 in
set_option maxHeartbeats 4000000 in
theorem supd_med (p : Addr) (F : Nat → Prop) (c : Cfg) (l : Int) (L : List (List Int)) (k : Int) (w : World) (h : SK w p F c l L) (k0 : 0 ≤ k) (k1 : k ≤ 18446744073709551615) (d : Int) (d0 : -9223372036854775808 ≤ d) (d1 : d ≤ 9223372036854775807) (hk : k < keys c l) (hm : c.md = 3) :
    Calls Tryz.prog 211 #[.pointer (some p), .int .u64 k, .int .i64 d] w fun e w' => e = .returned (.int .i64 (chCode (rws c) (wds c) L (cols c l k) d)) ∧ ∃ F', SK w' p F' c l (chRes (rws c) (wds c) L (cols c l k) d) ∧ Kept F w w' ∧ (∀ q, F' q → F q ∨ w.heap.size ≤ q) := by
  have HS := Lib.hid h
  obtain ⟨hr, hok, hl0, hl1, b, gp, G, rfl, hb, hg, hGb, rfl⟩ := h
  have hbl := size_of_heap hb
  have c0w := grd_cell hb 0 (v := .pointer (some gp)) rfl
  have CY := Lib.hid (scolumns_yes _ _ c l L k w HS.out k0 k1 hk)
  have WY : Hid (∀ w', Below w.heap.size w w' → Calls Tryz.prog 214 #[.pointer (some ⟨b, 0, none⟩)] w' fun e w2 => e = .returned (.agg #[.func (.func 219) #[] #[], .func (.func 218) #[] #[], .bool true]) ∧ Below w'.heap.size w' w2) := Lib.hid (fun w' hb2 => way_med _ _ c l L w' (HS.out.up hb2) hm)
  have hcl : (cols c l k).length = rws c := (cols_meet k0 hk).2.1
  have hrw := rws_bd hr
  have TL : Hid (∀ w' g, Below w.heap.size w w' → Ord.Mid w' g 0 (cols c l k) → w.heap.size ≤ g → Calls Tryz.prog 219 #[.pointer (some gp), .slice (some ⟨g, 0, none⟩) (rws c) (rws c), .int .i64 d] w' fun e w2 => e = .returned (.int .i64 (chCode (rws c) (wds c) L (cols c l k) d)) ∧ ∃ G', PG w2 gp G' (rws c) (wds c) (chRes (rws c) (wds c) L (cols c l k) d) ∧ Kept G w w2 ∧ (∀ q, G' q → G q ∨ w.heap.size ≤ q)) := Lib.hid (fun w' g hb2 hmid hg2 => (change_any gp G _ _ L _ _ _ _ d w' (pg_up hg hb2) hmid.rd (fun a ha hGa => by injection ha with ha; subst ha; have := (pgT gp G _ _ L).lt w hg g hGa; omega) hcl (by omega) (in64_cols c l k) d0 d1).mono (fun e w2 ⟨e1, G', h1, h2, h3⟩ => ⟨e1, G', h1, (Kept.of_below hb2).trans h2 (fun q hq h => h), fun q hq => (h3 q hq).elim .inl (fun h => .inr (Nat.le_trans hb2.size h))⟩))
  have HT : Hid (∀ w' G', PG w' gp G' (rws c) (wds c) (chRes (rws c) (wds c) L (cols c l k) d) → Kept G w w' → (∀ k, G' k → G k ∨ w.heap.size ≤ k) → ∃ F', SK w' ⟨b, 0, none⟩ F' c l (chRes (rws c) (wds c) L (cols c l k) d) ∧ Kept (fun k => k = b ∨ G k) w w' ∧ (∀ q, F' q → (q = b ∨ G q) ∨ w.heap.size ≤ q)) := Lib.hid (fun w' G' h1 h2 h3 => sk_turn hr hok hl0 hl1 hb hGb h1 h2 h3)
  obtain ⟨n, hn⟩ : ∃ n, rws c = n := ⟨_, rfl⟩
  obtain ⟨V, hV⟩ : ∃ V, chCode (rws c) (wds c) L (cols c l k) d = V := ⟨_, rfl⟩
  obtain ⟨R, hR⟩ : ∃ R, chRes (rws c) (wds c) L (cols c l k) d = R := ⟨_, rfl⟩
  rw [hV, hR] at TL
  rw [hR] at HT
  rw [hV, hR]
  rw [hn] at CY TL HT
  have hfd : ∀ w : World, (Instr.field 299 (.agg #[.func (.func 219) #[] #[], .func (.func 218) #[] #[], .bool true]) 0).run Tryz.prog w = .ok (.func (.func 219) #[] #[]) w := fun _ => by kernel_rfl
  clear hb hg hcl hrw hn hV hR hm hk
  go_enter Tryz.func211, Tryz.ntmps211
  go_wp2_with (go_at_call 212; (with_reducible refine CY.out.mono ?_); rintro e w1 ⟨g, rfl, hm1, hg1, hb1⟩; have HM1 := Lib.hid hm1; have HB1 := Lib.hid hb1; clear hm1 hb1)
  have c0 := cell_up c0w HB1.out
  have WY1 : Hid (∀ w', Below w1.heap.size w1 w' → _) := Lib.hid (fun w' hb2 => WY.out w' (below_call HB1.out hb2 (Nat.le_refl _)))
  have TL1 : Hid (∀ w', Below w1.heap.size w1 w' → _) := Lib.hid (fun w' hb2 => TL.out w' g (below_call HB1.out hb2 (Nat.le_refl _)) (HM1.out.up hb2) hg1)
  go_region_held3 (fun w' => w'.cell? ⟨b, 0, none⟩ = some (.pointer (some gp))) (first | (with_reducible assumption) | (with_reducible refine cell_up c0 ?_ <;> (repeat' (first | (with_reducible first | exact Below.refl _ _ | assumption | refine below_over ?_ _ _ | refine Lw.below_alloc ?_ _ | refine Below.drew ?_ | refine below_drewN ?_ _ | refine Below.setCell ?_ ?_ _) | go_size)))) (first
    | (go_at_call 214; (with_reducible refine (WY1.out _ (by (repeat' (first | (with_reducible first | exact Below.refl _ _ | assumption | refine below_over ?_ _ _ | refine Lw.below_alloc ?_ _ | refine Below.drew ?_ | refine below_drewN ?_ _ | refine Below.setCell ?_ ?_ _) | go_size)))).mono ?_); rintro e w' ⟨rfl, hb2⟩; obtain ⟨bs, d2, rfl⟩ := below_grow hb2; clear hb2)
    | (go_at_call 219; (with_reducible refine (TL1.out _ (by (repeat' (first | (with_reducible first | exact Below.refl _ _ | assumption | refine below_over ?_ _ _ | refine Lw.below_alloc ?_ _ | refine Below.drew ?_ | refine below_drewN ?_ _ | refine Below.setCell ?_ ?_ _) | go_size)))).mono ?_); rintro e w6 ⟨rfl, G6, hp6, hk6, hf6⟩; have HP6 := Lib.hid hp6; have HK6 := Lib.hid hk6; have HF6 := Lib.hid hf6; have x0 : w6.cell? ⟨b, 0, none⟩ = some (.pointer (some gp)) := hk6.cell c0w hGb; clear hp6 hk6 hf6))
  all_goals go_wp2
  all_goals go_ret
  all_goals exact ⟨rfl, HT.out _ _ HP6.out HK6.out HF6.out⟩
theorem spoint_any (p : Addr) (F : Nat → Prop) (c : Cfg) (l : Int) (L : List (List Int)) (k : Int) (w : World) (h : SK w p F c l L) (k0 : 0 ≤ k) (k1 : k ≤ 18446744073709551615) :
    Calls Tryz.prog 210 #[.pointer (some p), .int .u64 k] w fun e w' => e = .returned (.tuple #[.int .i64 (ptVal c l L k), .int .i64 (ptCode c l k)]) ∧ Below w.heap.size w w' := by
  unfold ptVal ptCode
  by_cases hk : keys c l ≤ k
  · rw [if_pos hk, if_pos hk]
    exact spoint_no p F c l L k w h k0 k1 hk
  rw [if_neg hk, if_neg hk]
  have hr := h.1
  have h3 : c.md = 1 ∨ c.md = 2 ∨ c.md = 3 := by have := hr.2.2.2.2.2.2; omega
  rcases h3 with h3 | h3 | h3
  · rw [if_neg (by omega)]; exact spoint_lin p F c l L k w h k0 k1 (by omega) h3
  · rw [if_neg (by omega)]; exact spoint_con p F c l L k w h k0 k1 (by omega) h3
  · rw [if_pos h3]; exact spoint_med p F c l L k w h k0 k1 (by omega) h3
theorem supd_any (p : Addr) (F : Nat → Prop) (c : Cfg) (l : Int) (L : List (List Int)) (k d : Int) (w : World) (h : SK w p F c l L) (k0 : 0 ≤ k) (k1 : k ≤ 18446744073709551615) (d0 : -9223372036854775808 ≤ d) (d1 : d ≤ 9223372036854775807) :
    Calls Tryz.prog 211 #[.pointer (some p), .int .u64 k, .int .i64 d] w fun e w' => e = .returned (.int .i64 (upCode c l L k d)) ∧ ∃ F', SK w' p F' c l (upRes c l L k d) ∧ Kept F w w' ∧ (∀ q, F' q → F q ∨ w.heap.size ≤ q) := by
  unfold upCode upRes
  by_cases hk : keys c l ≤ k
  · rw [if_pos hk, if_pos hk]
    exact (supd_no p F c l L k w h k0 k1 d d0 d1 hk).mono (fun e w' h2 => ⟨h2.1, F, h.up h2.2, Kept.of_below h2.2, fun q hq => .inl hq⟩)
  rw [if_neg hk, if_neg hk]
  have hr := h.1
  have h3 : c.md = 1 ∨ c.md = 2 ∨ c.md = 3 := by have := hr.2.2.2.2.2.2; omega
  rcases h3 with h3 | h3 | h3
  · rw [if_neg (by omega), if_neg (by omega)]; exact supd_lin p F c l L k w h k0 k1 d d0 d1 (by omega) h3
  · rw [if_pos h3, if_pos h3]; exact supd_con p F c l L k w h k0 k1 d d0 d1 (by omega) h3
  · rw [if_neg (by omega), if_neg (by omega)]; exact supd_med p F c l L k w h k0 k1 d d0 d1 (by omega) h3
end Go.Proofs.YtkflggojiiebeaaGreat.Sk

namespace Go.Proofs.YtkflggojiiebeaaGreat.Sk
open Go Go.RowKit Lw Grd Lin Con Shp
set_option linter.unusedVariables false
set_option linter.unusedSimpArgs false
theorem ret_bs {a b : Bool} (h : a = b) : Ending.returned (.bool a) = Ending.returned (.bool b) := by rw [h]
theorem open_upds_u : Tryz.prog.underlying 25 = some (.slice 38) := by kernel_rfl
theorem open_upds_c : Tryz.prog.cellsOf 38 = 2 := by kernel_rfl
set_option maxRecDepth 100000 in
theorem open_upds {H : Type} {enc : TypeId × Value → H} {w : World} {base fuel : Nat} {spare : Nat → Bool} {held : Bool} {cs : List Value} {x : DataW H × List MemPlace} (h : DataW.trod enc Tryz.prog w base spare held fuel 25 cs = some x) :
    ∃ (A : Option Addr) (len cap : Nat) (qs : List (Int × Int)), cs = [.slice A len cap] ∧ (A = none → len = 0 ∧ cap = 0) ∧ len ≤ cap ∧ cap ≤ maxLen ∧ qs.length = len ∧ ∀ (i : Nat) q, qs[i]? = some q → ∃ a, A = some a ∧ w.cell? (a.add (i * 2)) = some (.int .u64 (q.1)) ∧ w.cell? (a.add (i * 2 + 1)) = some (.int .i64 (q.2)) ∧ (0 ≤ (q.1) ∧ (q.1) ≤ 18446744073709551615) ∧ (-9223372036854775808 ≤ (q.2) ∧ (q.2) ≤ 9223372036854775807) := by
  rcases Go.Deep.open_slice open_upds_u h with ⟨rfl, _⟩ | ⟨a, len, cap, m, n, D, Pl, rfl, hb, hl, hm, hmm, _, hx⟩
  · exact ⟨none, 0, 0, [], rfl, fun _ => ⟨rfl, rfl⟩, Nat.le_refl _, by simp, rfl, fun i q hq => by simp at hq⟩
  have hlm : len ≤ m := by rw [hmm]; split <;> omega
  have each : ∀ i, i < len → ∃ q : Int × Int, w.cell? (a.add (i * 2)) = some (.int .u64 (q.1)) ∧ w.cell? (a.add (i * 2 + 1)) = some (.int .i64 (q.2)) ∧ (0 ≤ (q.1) ∧ (q.1) ≤ 18446744073709551615) ∧ (-9223372036854775808 ≤ (q.2) ∧ (q.2) ≤ 9223372036854775807) := by
    intro i hi
    obtain ⟨cs', h1, h2⟩ := hx i (by omega)
    rw [open_upds_c] at h1
    obtain ⟨_, hlen, hcell⟩ := World.cells?_some h1
    obtain ⟨xs, k, _, _, _, hxl, hf⟩ := DataW.trod_struct Tryz.underlying38 h2
    match xs, hxl, cs', hlen with
    | [y0, y1], _, [v0, v1], _ =>
      have g0 := hf 0 _ rfl
      have g1 := hf 1 _ rfl
      have e0 := hcell 0 (by omega)
      have e1 := hcell 1 (by omega)
      rw [add_add'] at e0 e1
      simp [show Tryz.prog.cellsOf 22 = 1 from by kernel_rfl, show Tryz.prog.cellsOf 2 = 1 from by kernel_rfl] at g0 g1
      obtain ⟨x0, f0, _, w0⟩ := DataW.trod_int (show Tryz.prog.underlying 22 = some (.int .u64) by kernel_rfl) g0
      obtain ⟨x1, f1, _, w1⟩ := DataW.trod_int (show Tryz.prog.underlying 2 = some (.int .i64) by kernel_rfl) g1
      simp at f0 f1
      subst f0 f1
      exact ⟨(x0, x1), by simpa using e0, by simpa using e1, Lw.wf_u64 w0, Lw.wf_i64 w1⟩
  have each2 : ∀ i, ∃ q : Int × Int, i < len → (w.cell? (a.add (i * 2)) = some (.int .u64 (q.1)) ∧ w.cell? (a.add (i * 2 + 1)) = some (.int .i64 (q.2)) ∧ (0 ≤ (q.1) ∧ (q.1) ≤ 18446744073709551615) ∧ (-9223372036854775808 ≤ (q.2) ∧ (q.2) ≤ 9223372036854775807)) := fun i => by
    by_cases hi : i < len
    · obtain ⟨q, hq⟩ := each i hi
      exact ⟨q, fun _ => hq⟩
    · exact ⟨(0, 0), fun h => absurd h hi⟩
  refine ⟨some a, len, cap, (List.range len).map fun i => Classical.choose (each2 i), rfl, (fun h => by cases h), hl, hm, by simp, ?_⟩
  intro i q hq
  rw [List.getElem?_map] at hq
  obtain ⟨j, hj, rfl⟩ := Option.map_eq_some_iff.1 hq
  have hj2 := List.getElem?_eq_some_iff.1 hj
  obtain ⟨hj3, hj4⟩ := hj2
  simp at hj3 hj4
  subst hj4
  exact ⟨a, rfl, Classical.choose_spec (each2 i) hj3⟩
/-- A row of updates, handed in. -/
structure UpdV (w : World) (A : Option Addr) (n c : Nat) (qs : Ups) : Prop where
  nil : A = none → n = 0 ∧ c = 0
  nc : n ≤ c
  cm : c ≤ maxLen
  len : qs.length = n
  each : ∀ (i : Nat) q, qs[i]? = some q → ∃ a, A = some a ∧ w.cell? (a.add (i * 2)) = some (.int .u64 (q.1)) ∧ w.cell? (a.add (i * 2 + 1)) = some (.int .i64 (q.2)) ∧ (0 ≤ (q.1) ∧ (q.1) ≤ 18446744073709551615) ∧ (-9223372036854775808 ≤ (q.2) ∧ (q.2) ≤ 9223372036854775807)
theorem UpdV.up {w w' : World} {A : Option Addr} {n c : Nat} {qs : Ups} (h : UpdV w A n c qs) (hb : Below w.heap.size w w') : UpdV w' A n c qs :=
  ⟨h.nil, h.nc, h.cm, h.len, fun i q hq => by
    obtain ⟨a, e, h1, h2, h3⟩ := h.each i q hq
    exact ⟨a, e, cell_up h1 hb, cell_up h2 hb, h3⟩⟩
theorem UpdV.at {w : World} {A : Option Addr} {n c : Nat} {qs : Ups} (h : UpdV w A n c qs) {i : Nat} {q : Int × Int} (hq : qs[i]? = some q) : ∃ (a : Addr) (g o : Nat), A = some a ∧ a.add (i * 2) = ⟨g, o, none⟩ ∧ w.cell? ⟨g, o, none⟩ = some (.int .u64 q.1) ∧ w.cell? ⟨g, o + 1, none⟩ = some (.int .i64 q.2) ∧ (0 ≤ q.1 ∧ q.1 ≤ 18446744073709551615) ∧ (-9223372036854775808 ≤ q.2 ∧ q.2 ≤ 9223372036854775807) := by
  obtain ⟨a, e, h1, h2, h3, h4⟩ := h.each i q hq
  rw [← add_add'] at h2
  have hs : (a.add (i * 2)).spot = none := by
    unfold World.cell? at h1
    split at h1
    · split at h1
      · cases h1
      · rename_i hs; simpa using hs
    · cases h1
  obtain ⟨ad, had⟩ : ∃ ad, a.add (i * 2) = ad := ⟨_, rfl⟩
  rw [had] at h1 h2 hs
  obtain ⟨g, o, sp⟩ := ad
  simp only at hs
  subst hs
  rw [Ord.add_at] at h2
  exact ⟨a, g, o, e, had, h1, h2, h3, h4⟩
theorem rem_key (k K : Int) (k0 : 0 ≤ k) (k1 : k ≤ 18446744073709551615) (hK : 1 ≤ K) : Int.tmod k K = k % K ∧ 0 ≤ k % K ∧ k % K ≤ 18446744073709551615 := by
  have h1 := Int.emod_nonneg k (show K ≠ 0 by omega)
  have h2 : k % K ≤ k := by
    have h3 := Int.mul_ediv_add_emod k K
    have h4 := Int.mul_nonneg (show (0 : Int) ≤ K by omega) (Int.ediv_nonneg k0 (show (0 : Int) ≤ K by omega))
    omega
  exact ⟨Int.tmod_eq_emod_of_nonneg k0, h1, by omega⟩
end Go.Proofs.YtkflggojiiebeaaGreat.Sk

namespace Go.Proofs.YtkflggojiiebeaaGreat.Sk
open Go Go.RowKit Lw Grd Lin Con Shp
set_option linter.unusedVariables false
theorem pt_least {c : Cfg} {l k : Int} {L : List (List Int)} (hk : k < keys c l) (hm : c.md ≠ 3) : ptVal c l L k = lea L (cols c l k) := by
  unfold ptVal
  rw [if_neg (by omega), if_neg hm]
theorem pt_middle {c : Cfg} {l k : Int} {L : List (List Int)} (hk : k < keys c l) (hm : c.md = 3) : ptVal c l L k = Ord.kv (named L (cols c l k)) ((((named L (cols c l k)).length : Int) - 1) / 2) := by
  unfold ptVal
  rw [if_neg (by omega), if_pos hm]
theorem cells_lin {c : Cfg} {l : Int} {us : Ups} (hm : c.md ≠ 2) : cells c l us = chAll (zerosL (rws c) (wds c)) (opsU c l us) := if_neg hm
theorem cells_con {c : Cfg} {l : Int} {us : Ups} (hm : c.md = 2) : cells c l us = rsAll (zerosL (rws c) (wds c)) (opsU c l us) := if_pos hm
end Go.Proofs.YtkflggojiiebeaaGreat.Sk

namespace Go.Proofs.YtkflggojiiebeaaGreat.Sk
open Go Go.RowKit Lw Grd Lin Con Shp
set_option linter.unusedVariables false
set_option linter.unusedSimpArgs false
/-- The updates from the one place to the other, cut. -/
def upsR (c : Cfg) (l : Int) (qs : Ups) (f t : Nat) : Ups := ((qs.take t).drop f).map (cutU c l)
theorem upsR_zero (c : Cfg) (l : Int) (qs : Ups) (f : Nat) : upsR c l qs f f = [] := by
  unfold upsR
  rw [List.drop_of_length_le (by rw [List.length_take]; omega)]
  rfl
theorem upsR_next {c : Cfg} {l : Int} {qs : Ups} {f k : Nat} {q : Int × Int} (hq : qs[k]? = some q) (hf : f ≤ k) : upsR c l qs f (k + 1) = upsR c l qs f k ++ [cutU c l q] := by
  obtain ⟨h1, h2⟩ := List.getElem?_eq_some_iff.1 hq
  unfold upsR
  rw [List.take_succ_eq_append_getElem h1, List.drop_append_of_le_length (by rw [List.length_take]; omega), List.map_append, h2]
  rfl
theorem upsR_len (c : Cfg) (l : Int) (qs : Ups) (f t : Nat) : (upsR c l qs f t).length ≤ t := by
  unfold upsR
  rw [List.length_map, List.length_drop, List.length_take]
  omega
theorem upsR_in {c : Cfg} {l : Int} (hk : 1 ≤ keys c l) (qs : Ups) (f t : Nat) : UpsIn c l (upsR c l qs f t) := upsIn_cut hk _
theorem upsR_end {c : Cfg} {l : Int} {qs : Ups} {f k t : Nat} (hk : k ≤ t) (h : k = t ∨ qs.length ≤ k) : upsR c l qs f k = upsR c l qs f t := by
  unfold upsR
  rcases h with rfl | h
  · rfl
  · rw [List.take_of_length_le h, List.take_of_length_le (by omega)]
theorem box5 {w : World} {b : Nat} {e : TypeId} {v0 v1 v2 v3 v4 : Value} (h : (boxT b e #[v0, v1, v2, v3, v4]).I w) : w.cell? ⟨b, 0, none⟩ = some v0 ∧ w.cell? ⟨b, 1, none⟩ = some v1 ∧ w.cell? ⟨b, 2, none⟩ = some v2 ∧ w.cell? ⟨b, 3, none⟩ = some v3 ∧ w.cell? ⟨b, 4, none⟩ = some v4 :=
  ⟨box_cell h rfl, box_cell h rfl, box_cell h rfl, box_cell h rfl, box_cell h rfl⟩
end Go.Proofs.YtkflggojiiebeaaGreat.Sk

namespace Go.Proofs.YtkflggojiiebeaaGreat.Sk
open Go Go.RowKit Lw Grd Lin Con Shp
set_option linter.unusedVariables false
set_option linter.unusedSimpArgs false
def sA : Cfg := ⟨3, 2, 1, 1, 0⟩
theorem sA_r : IsRight sA := by decide
theorem sA_k0 : keys sA 0 = 8 := by decide
theorem sA_cols {k : Int} (h1 : k < 8) : cols sA 0 k = [0, 0] := by
  have h : ∀ r, col sA 0 k r = 0 := fun r => by
    have h2 := col_range sA_r 0 k r
    have e : sA.wd = 1 := rfl
    omega
  rw [cols_yes (by rw [sA_k0]; exact h1)]
  show (List.range 2).map (col sA 0 k) = [0, 0]
  simp [List.range, List.range.loop, h]
def sB : List (List Int) := [[5], [5]]
def sD : List (List Int) := [[7], [7]]
theorem u1 : upCode sA 0 (zerosL 2 1) 0 5 = 0 ∧ upRes sA 0 (zerosL 2 1) 0 5 = sB := by
  unfold upCode upRes
  rw [sA_cols (by omega), sA_k0, if_neg (by omega), if_neg (by decide), if_neg (by omega), if_neg (by decide)]
  decide
theorem u2 : upCode sA 0 sB 1 2 = 0 ∧ upRes sA 0 sB 1 2 = sD := by
  unfold upCode upRes
  rw [sA_cols (by omega), sA_k0, if_neg (by omega), if_neg (by decide), if_neg (by omega), if_neg (by decide)]
  decide
theorem u3 : upCode sA 0 sD 8 2 = 2 ∧ upRes sA 0 sD 8 2 = sD := by
  unfold upCode upRes
  rw [sA_k0, if_pos (by omega), if_pos (by omega)]
  exact ⟨rfl, rfl⟩
theorem p1 : ptVal sA 0 sD 0 = 7 ∧ ptCode sA 0 0 = 0 := by
  unfold ptVal ptCode
  rw [sA_cols (by omega), sA_k0, if_neg (by omega), if_neg (by decide), if_neg (by omega)]
  refine ⟨?_, rfl⟩
  unfold lea
  rw [(Ord.kv_yes (k := 0) (by omega) (by decide)).1]
  exact (Ord.least_eq _ 7 (by decide) (by decide)).symm
end Go.Proofs.YtkflggojiiebeaaGreat.Sk

namespace Go.Proofs.YtkflggojiiebeaaGreat.Sk
open Go Go.RowKit Lw Grd Lin Con Shp
set_option linter.unusedVariables false
set_option linter.unusedSimpArgs false
/-- A row of numbers in a block of its own. -/
def midT (g : Nat) (zs : List Int) : Thing where
  I := fun w => Ord.Mid w g 0 zs
  F := fun k => k = g
  keep := fun w w' H h hk hf => h.keep hk (hf g rfl)
  lt := fun w h k hk => by subst hk; exact h.lt
theorem midI {w : World} {g : Nat} {zs : List Int} (h : (midT g zs).I w) : Ord.Mid w g 0 zs := h
theorem cells_sz {c : Cfg} {l : Int} {us : Ups} (h : UpsIn c l us) : Sz (rws c) (wds c) (cells c l us) := by
  have hok := opsU_ok h.1
  by_cases h2 : c.md = 2
  · rw [cells_con h2]
    have hro := rose_all (rose_zero (rws c) (wds c)) hok (plus_of h h2)
    exact hro.sg
  · rw [cells_lin h2]
    exact chAll_sz (sz_zeros (rws c) (wds c)) hok
end Go.Proofs.YtkflggojiiebeaaGreat.Sk

namespace Go.Proofs.YtkflggojiiebeaaGreat.Sk
open Go Go.RowKit Lw Grd Lin Con Shp
set_option linter.unusedVariables false
def trialL (L : List (List Int)) (cols : List Int) (m k : Nat) : List (List Int) := (List.range m).map (fun j => [if j < k then ((named L cols)[j]?).getD 0 else 0])
theorem trial_len (L : List (List Int)) (cols : List Int) (m k : Nat) : (trialL L cols m k).length = m := by unfold trialL; simp
theorem trial_get {L : List (List Int)} {cols : List Int} {m k j : Nat} (h : j < m) : (trialL L cols m k)[j]? = some [if j < k then ((named L cols)[j]?).getD 0 else 0] := by
  unfold trialL
  rw [List.getElem?_map, List.getElem?_range h]
  rfl
theorem trial_zero (L : List (List Int)) (cols : List Int) (m : Nat) : trialL L cols m 0 = zerosL m 1 := by
  apply List.ext_getElem?
  intro j
  by_cases h : j < m
  · rw [trial_get h, if_neg (by omega)]
    unfold zerosL
    rw [List.getElem?_replicate, if_pos h]
    rfl
  · rw [List.getElem?_eq_none (by rw [trial_len]; omega), List.getElem?_eq_none (by unfold zerosL; simp; omega)]
theorem trial_put {L : List (List Int)} {cols : List Int} {m k : Nat} {x : Int} (hk : k < m) (hx : (named L cols)[k]? = some x) : setL (trialL L cols m k) (k : Int) 0 x = trialL L cols m (k + 1) := by
  have hin : in2 (trialL L cols m k) (k : Int) 0 = true := by
    unfold in2
    rw [Int.toNat_natCast, trial_get hk, trial_len]
    simp
    omega
  unfold setL
  rw [if_pos hin, Int.toNat_natCast]
  apply List.ext_getElem?
  intro j
  rw [List.getElem?_modify]
  by_cases h : j < m
  · rw [trial_get h, trial_get h]
    simp only [Option.map_eq_map, Option.map_some]
    by_cases hj : k = j
    · subst hj
      simp [hx]
    · rw [if_neg hj]
      by_cases h1 : j < k
      · rw [if_pos h1, if_pos (show j < k + 1 by omega)]
      · rw [if_neg h1, if_neg (show ¬ j < k + 1 by omega)]
  · rw [List.getElem?_eq_none (by rw [trial_len]; omega), List.getElem?_eq_none (by rw [trial_len]; omega)]
    rfl
theorem trial_named {L : List (List Int)} {cols : List Int} {m : Nat} (hl : (named L cols).length = m) : named (trialL L cols m m) (List.replicate m 0) = named L cols := by
  apply List.ext_getElem?
  intro j
  by_cases h : j < m
  · have h2 : j < (named L cols).length := by omega
    unfold named
    rw [List.getElem?_zipWith, trial_get h, List.getElem?_replicate, if_pos h, if_pos h]
    have e : (named L cols)[j]? = some ((named L cols)[j]) := List.getElem?_eq_getElem h2
    have e2 : (List.zipWith (fun r c => r[c.toNat]?.getD 0) L cols)[j]? = some ((named L cols)[j]) := e
    rw [e2, e]
    rfl
  · rw [List.getElem?_eq_none (by unfold named; rw [List.length_zipWith, trial_len]; omega), List.getElem?_eq_none (by omega)]
theorem trial_meets {m : Nat} (h : 1 ≤ m) : Meets m 1 (List.replicate m 0) := ⟨h, by simp, fun v hv => by
  have := (List.mem_replicate.1 hv).2
  omega⟩
theorem named_size {m n : Nat} {L : List (List Int)} {cols : List Int} (hd : Dims m n L) (h : Meets m n cols) : (named L cols).length = m := by
  unfold named
  rw [List.length_zipWith, hd.len, h.2.1]
  omega
theorem trial_ch {m n : Nat} {L : List (List Int)} {cols : List Int} {d : Int} (hd : Dims m n L) (h : Meets m n cols) : chCode m 1 (trialL L cols m m) (List.replicate m 0) d = chCode m n L cols d := by
  unfold chCode
  rw [if_pos (trial_meets h.1), if_pos h]
  unfold chFits
  rw [trial_named (named_size hd h)]
theorem trial_rs {m n : Nat} {L : List (List Int)} {cols : List Int} {d : Int} (hd : Dims m n L) (h : Meets m n cols) : rsCode m 1 (trialL L cols m m) (List.replicate m 0) d = rsCode m n L cols d := by
  unfold rsCode
  rw [if_pos (trial_meets h.1), if_pos h]
  unfold lea
  rw [trial_named (named_size hd h)]
theorem in64_zero (m : Nat) : In64 (List.replicate m 0) := fun v hv => by
  have := (List.mem_replicate.1 hv).2
  omega
end Go.Proofs.YtkflggojiiebeaaGreat.Sk

