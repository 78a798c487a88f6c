/- The walks of package conserve (the code's): cells that rise. -/
import Derived.Test.YtonbidohhgenlaaConDef
import Derived.Test.YtonbidohhgenlaaGrdCode
import Derived.Test.YtonbidohhgenlaaLinCode
import Derived.Test.YtonbidohhgenlaaWidPlus
namespace Go.Proofs.Ytonbidohhgenlaa.Con
open Go Go.RowKit Lw Grd Lin
set_option linter.unusedVariables false
set_option linter.unusedSimpArgs false
theorem rise_at {m n : Nat} {L : List (List Int)} {cols : List Int} (hd : Dims m n L) (h : Meets m n cols) (x : Int) {k : Nat} {v : Int} (hv : cols[k]? = some v) (hD : Dims m n (upto2 L (raised L cols x) k)) :
    at2 (upto2 L (raised L cols x) k) k v = at2 L k v ∧ setL (upto2 L (raised L cols x) k) k v (max (at2 L k v) x) = upto2 L (raised L cols x) (k + 1) := by
  have hk : k < cols.length := (List.getElem?_eq_some_iff.1 hv).1
  have hl : cols.length = L.length := by rw [hd.len]; exact h.2.1
  have hb := meets_at h hv
  have hL : L[k]? = some (L[k]'(by omega)) := List.getElem?_eq_getElem (by omega)
  have hY := raised_at hd h x hv
  rw [hL] at hY
  have hX := upto2_get (X := L) (Y := raised L cols x) (n := L.length) rfl (raised_len x hl) (k := k) (by omega)
  have hin : in2 (upto2 L (raised L cols x) k) k v = true := by
    rw [in2_dims hD]
    have := hd.len
    exact decide_eq_true ⟨by omega, by omega, hb.1, hb.2⟩
  refine ⟨?_, ?_⟩
  · unfold at2
    rw [Int.toNat_natCast, hX]
  rw [hL] at hX
  rw [← upto2_set (n := L.length) rfl (raised_len x hl) hY]
  unfold setL
  rw [if_pos hin]
  apply List.ext_getElem?
  intro i
  rw [List.getElem?_modify, List.getElem?_set, Int.toNat_natCast]
  have hln := upto2_len (X := L) (Y := raised L cols x) (n := L.length) rfl (raised_len x hl) (k := k) (by omega)
  by_cases e : k = i
  · subst e
    rw [hX, if_pos rfl, hln, if_pos (by omega)]
    simp
  · rw [if_neg e]
    simp [e]
set_option maxRecDepth 100000 in
/-- The closure that lets a cell rise: it holds the grid and the number in two cells. -/
theorem rise_any (p : Addr) (F : Nat → Prop) (m n : Nat) (L : List (List Int)) (row col x : Int) (b0 b1 : Nat) (w : World) (h : PG w p F m n L)
    (c0 : w.cell? ⟨b0, 0, none⟩ = some (.pointer (some p))) (c1 : w.cell? ⟨b1, 0, none⟩ = some (.int .i64 x)) (hf0 : ¬ F b0) (hf1 : ¬ F b1)
    (r0 : -9223372036854775808 ≤ row) (r1 : row ≤ 9223372036854775807) (k0 : -9223372036854775808 ≤ col) (k1 : col ≤ 9223372036854775807) (x0 : -9223372036854775808 ≤ x) (x1 : x ≤ 9223372036854775807)
    (a y : Int) (ha : at2 L row col = a) (a0 : -9223372036854775808 ≤ a) (a1 : a ≤ 9223372036854775807) (hy : max a x = y) :
    Calls Try.prog 40 #[.int .i64 row, .int .i64 col, .pointer (some ⟨b0, 0, none⟩), .pointer (some ⟨b1, 0, none⟩)] w fun e w' => e = .returned (.tuple #[]) ∧ ∃ F', PG w' p F' m n (setL L row col y) ∧ Kept F w w' ∧ (∀ k, F' k → F k ∨ w.heap.size ≤ k) := by
  have HP := Lib.hid h
  have C : Hid (∀ w', Below w.heap.size w w' → Calls Try.prog 24 #[.pointer (some p), .int .i64 row, .int .i64 col] w' fun e w2 => e = .returned (.int .i64 a) ∧ Below w'.heap.size w' w2) := Lib.hid (fun w' hb => ha ▸ at_any p F m n L row col w' (pg_up h hb) r0 r1 k0 k1)
  have D : Hid (∀ y w', -9223372036854775808 ≤ y → y ≤ 9223372036854775807 → Below w.heap.size w w' → Calls Try.prog 22 #[.pointer (some p), .int .i64 row, .int .i64 col, .int .i64 y] w' fun e w2 => ∃ b F', e = .returned (.bool b) ∧ PG w2 p F' m n (setL L row col y) ∧ Kept F w w2 ∧ (∀ k, F' k → F k ∨ w.heap.size ≤ k)) := Lib.hid (fun y w' h0 h1 hb => (put_any p F m n L row col y w' (pg_up h hb) r0 r1 k0 k1 h0 h1).mono (fun e w2 h => by obtain ⟨e1, F', h2, h3, h4⟩ := h; exact ⟨_, F', e1, h2, (Kept.of_below hb).trans h3 (fun q hq h => h), fun q hq => (h4 q hq).elim .inl (fun h => .inr (Nat.le_trans hb.size h))⟩))
  clear h ha
  by_cases hc : a < x
  · have e : y = x := by omega
    subst y
    skip
    go_enter Try.func40, Try.ntmps40
    go_region_held3 (fun w' => w'.cell? ⟨b0, 0, none⟩ = some (.pointer (some p)) ∧ w'.cell? ⟨b1, 0, none⟩ = some (.int .i64 x)) (first | (refine ⟨?_, ?_⟩ <;> (first | (with_reducible assumption) | (with_reducible refine cell_up c0 ?_) | (with_reducible refine cell_up c1 ?_)) <;> (repeat' (first | (with_reducible exact Below.refl _ _) | (with_reducible assumption) | (with_reducible refine below_over ?_ _ _) | (with_reducible refine Lw.below_alloc ?_ _) | (with_reducible refine Below.drew ?_) | (with_reducible refine below_drewN ?_ _) | go_size)))) (first
      | (go_at_call 24; (with_reducible refine (C.out _ (by (repeat' (first | (with_reducible exact Below.refl _ _) | (with_reducible assumption) | (with_reducible refine below_over ?_ _ _) | (with_reducible refine Lw.below_alloc ?_ _) | (with_reducible refine Below.drew ?_) | (with_reducible refine below_drewN ?_ _) | go_size)))).mono ?_); rintro e w5 ⟨rfl, hb⟩; obtain ⟨bs, d, rfl⟩ := below_grow hb; clear hb)
      | (go_at_call 22; (with_reducible refine (D.out _ _ (by omega) (by omega) (by (repeat' (first | (with_reducible exact Below.refl _ _) | (with_reducible assumption) | (with_reducible refine below_over ?_ _ _) | (with_reducible refine Lw.below_alloc ?_ _) | (with_reducible refine Below.drew ?_) | (with_reducible refine below_drewN ?_ _) | go_size)))).mono ?_); rintro e w6 ⟨b, F6, rfl, hp6, hk6, hf6⟩; have HP6 := Lib.hid hp6; have HK6 := Lib.hid hk6; have HF6 := Lib.hid hf6; clear hp6 hf6; have x0 : w6.cell? ⟨b0, 0, none⟩ = some (.pointer (some p)) := hk6.cell c0 hf0; have x1 : w6.cell? ⟨b1, 0, none⟩ = some (.int .i64 x) := hk6.cell c1 hf1; clear hk6))
    all_goals go_wp2
    all_goals go_returns
    all_goals exact ⟨rfl, F6, (by have h6 := HP6.out; first | exact e.symm ▸ h6 | (rw [if_neg (by omega)] at h6; exact e.symm ▸ h6)), HK6.out, HF6.out⟩
  · have hc2 : x ≤ a := by omega
    have e : y = a := by omega
    subst y
    skip
    go_enter Try.func40, Try.ntmps40
    go_region_held3 (fun w' => w'.cell? ⟨b0, 0, none⟩ = some (.pointer (some p)) ∧ w'.cell? ⟨b1, 0, none⟩ = some (.int .i64 x)) (first | (refine ⟨?_, ?_⟩ <;> (first | (with_reducible assumption) | (with_reducible refine cell_up c0 ?_) | (with_reducible refine cell_up c1 ?_)) <;> (repeat' (first | (with_reducible exact Below.refl _ _) | (with_reducible assumption) | (with_reducible refine below_over ?_ _ _) | (with_reducible refine Lw.below_alloc ?_ _) | (with_reducible refine Below.drew ?_) | (with_reducible refine below_drewN ?_ _) | go_size)))) (first
      | (go_at_call 24; (with_reducible refine (C.out _ (by (repeat' (first | (with_reducible exact Below.refl _ _) | (with_reducible assumption) | (with_reducible refine below_over ?_ _ _) | (with_reducible refine Lw.below_alloc ?_ _) | (with_reducible refine Below.drew ?_) | (with_reducible refine below_drewN ?_ _) | go_size)))).mono ?_); rintro e w5 ⟨rfl, hb⟩; obtain ⟨bs, d, rfl⟩ := below_grow hb; clear hb)
      | (go_at_call 22; (with_reducible refine (D.out _ _ (by omega) (by omega) (by (repeat' (first | (with_reducible exact Below.refl _ _) | (with_reducible assumption) | (with_reducible refine below_over ?_ _ _) | (with_reducible refine Lw.below_alloc ?_ _) | (with_reducible refine Below.drew ?_) | (with_reducible refine below_drewN ?_ _) | go_size)))).mono ?_); rintro e w6 ⟨b, F6, rfl, hp6, hk6, hf6⟩; have HP6 := Lib.hid hp6; have HK6 := Lib.hid hk6; have HF6 := Lib.hid hf6; clear hp6 hf6; have x0 : w6.cell? ⟨b0, 0, none⟩ = some (.pointer (some p)) := hk6.cell c0 hf0; have x1 : w6.cell? ⟨b1, 0, none⟩ = some (.int .i64 x) := hk6.cell c1 hf1; clear hk6))
    all_goals go_wp2
    all_goals go_returns
    all_goals exact ⟨rfl, F6, (by have h6 := HP6.out; first | exact e.symm ▸ h6 | (rw [if_neg (by omega)] at h6; exact e.symm ▸ h6)), HK6.out, HF6.out⟩
theorem rising_any (p : Addr) (x : Int) (w : World) :
    Calls Try.prog 27 #[.pointer (some p), .int .i64 x] w fun e w' => ∃ b0 b1, e = .returned (.func (.func 40) #[] #[.pointer (some ⟨b0, 0, none⟩), .pointer (some ⟨b1, 0, none⟩)]) ∧ w'.cell? ⟨b0, 0, none⟩ = some (.pointer (some p)) ∧ w'.cell? ⟨b1, 0, none⟩ = some (.int .i64 x) ∧ w.heap.size ≤ b0 ∧ w.heap.size ≤ b1 ∧ b0 < w'.heap.size ∧ b1 < w'.heap.size ∧ Below w.heap.size w w' := by
  have hmf : ∀ (fn : Fn) (first cap : Array Value) (w : World), (Instr.makeFunc fn first cap).run Try.prog w = .ok (.func fn first cap) w := fun _ _ _ _ => rfl
  go_enter Try.func27, Try.ntmps27
  go_wp2
  go_ret
  refine ⟨_, _, rfl, by simp [go_sem], by simp [go_sem], Nat.le_refl _, by simp, by simp, by simp, ?_⟩
  (repeat' (first | (with_reducible exact Below.refl _ _) | (with_reducible assumption) | (with_reducible refine below_over ?_ _ _) | (with_reducible refine Lw.below_alloc ?_ _) | (with_reducible refine Below.drew ?_) | (with_reducible refine below_drewN ?_ _) | go_size))
theorem dims_rise {m n : Nat} {L : List (List Int)} {cols : List Int} {x : Int} (hd : Dims m n L) (h : Meets m n cols) (x0 : -9223372036854775808 ≤ x) (x1 : x ≤ 9223372036854775807) (k : Nat) : Dims m n (upto2 L (raised L cols x) k) := by
  have hr := raised_dims hd h x0 x1
  refine ⟨?_, hd.m8, hd.n128, fun r hrr => ?_⟩
  · unfold upto2
    rw [List.length_append, List.length_take, List.length_drop, hr.len, hd.len]
    omega
  · unfold upto2 at hrr
    rcases List.mem_append.1 hrr with h1 | h1
    · exact hr.rows r (List.mem_of_mem_take h1)
    · exact hd.rows r (List.mem_of_mem_drop h1)
theorem least_no (p : Addr) (F : Nat → Prop) (m n : Nat) (L : List (List Int)) (A : Option Addr) (N cap : Nat) (cols : List Int) (w : World) (h : PG w p F m n L) (hc : Rd .i64 w A cols) (hl : cols.length = N) (hN : N ≤ 1000) (hz : In64 cols) (hm : ¬ Meets m n cols) :
    Calls Try.prog 19 #[.pointer (some p), .slice A N cap] w fun e w' => e = .returned (.tuple #[.int .i64 0, .int .i64 1]) ∧ Below w.heap.size w w' := by
  have C := least_any p F m n L A N cap cols w h hc hl hN hz
  rw [(readOf_no (L := L) hm).1, (readOf_no (L := L) hm).2] at C
  rw [(Ord.kv_no (l := []) (k := _) (by simp)).1] at C
  exact C
theorem least_yes (p : Addr) (F : Nat → Prop) (m n : Nat) (L : List (List Int)) (A : Option Addr) (N cap : Nat) (cols : List Int) (w : World) (h : PG w p F m n L) (hc : Rd .i64 w A cols) (hl : cols.length = N) (hN : N ≤ 1000) (hz : In64 cols) (hm : Meets m n cols) :
    Calls Try.prog 19 #[.pointer (some p), .slice A N cap] w fun e w' => e = .returned (.tuple #[.int .i64 (lea L cols), .int .i64 0]) ∧ Below w.heap.size w w' := by
  have C := least_any p F m n L A N cap cols w h hc hl hN hz
  rw [(readOf_yes (L := L) hm).1, (readOf_yes (L := L) hm).2] at C
  exact C
set_option maxRecDepth 100000 in
set_option maxHeartbeats 4000000 in
theorem raise_any (p : Addr) (F : Nat → Prop) (m n : Nat) (L : List (List Int)) (A : Option Addr) (N cap : Nat) (cols : List Int) (d : Int) (w : World) (h : PG w p F m n L) (hc : Rd .i64 w A cols) (hap : ∀ a, A = some a → ¬ F a.block) (hl : cols.length = N) (hN : N ≤ 1000) (hz : In64 cols) (d0 : -9223372036854775808 ≤ d) (d1 : d ≤ 9223372036854775807) :
    Calls Try.prog 11 #[.pointer (some p), .slice A N cap, .int .i64 d] w fun e w' => e = .returned (.int .i64 (rsCode m n L cols d)) ∧ ∃ F', PG w' p F' m n (rsRes m n L cols d) ∧ Kept F w w' ∧ (∀ k, F' k → F k ∨ w.heap.size ≤ k) := by
  have HP := Lib.hid h
  have hbd : ∀ (w' : World), Below w.heap.size w w' → ∃ (F' : Nat → Prop), PG w' p F' m n L ∧ Kept F w w' ∧ (∀ k, F' k → F k ∨ w.heap.size ≤ k) := fun w' hb => ⟨F, pg_up h hb, Kept.of_below hb, fun k hk => .inl hk⟩
  by_cases hm : Meets m n cols
  · have C := Lib.hid (least_yes p F m n L A N cap cols w h hc hl hN hz hm)
    by_cases hd : d < 0
    · rw [(rs_neg hm hd).1, (rs_neg hm hd).2]
      clear h hc hl hz hm hap
      have HBD := Lib.hid hbd
      clear hbd
      go_enter Try.func11, Try.ntmps11
      go_wp2_with (go_at_call 19; (with_reducible refine C.out.mono ?_); rintro e w1 ⟨rfl, hb⟩; have HB1 := Lib.hid hb; clear hb)
      go_ret
      exact ⟨rfl, HBD.out _ HB1.out⟩
    have hlb := lea_in (cols := cols) h.1
    have hd2 : 0 ≤ d := by omega
    cases hf : Wid.fit64 (lea L cols + d) with
    | false =>
      rw [(rs_over hm hd2 hf).1, (rs_over hm hd2 hf).2]
      clear h hc hl hz hm hap
      have HBD := Lib.hid hbd
      clear hbd
      go_enter Try.func11, Try.ntmps11
      go_wp2_with (first
        | (go_at_call 19; (with_reducible refine C.out.mono ?_); rintro e w1 ⟨rfl, hb⟩; have HB1 := Lib.hid hb; clear hb)
        | (go_at_call 26; (with_reducible refine (Wid.plus_any (lea L cols) d _ hlb.1 hlb.2 d0 d1).mono ?_); rintro e w2 ⟨rfl, hb⟩; rw [hf]; have HB2 := Lib.hid hb; clear hb))
      go_ret
      exact ⟨rfl, HBD.out _ (below_call HB1.out HB2.out (Nat.le_refl _))⟩
    | true =>
      rw [(rs_yes hm hd2 hf).1, (rs_yes hm hd2 hf).2]
      have hfb := fit64_in hf
      have HV : Hid (Wid.f64 (lea L cols + d) = lea L cols + d) := Lib.hid (if_pos hf)
      obtain ⟨x, hx⟩ : ∃ x, lea L cols + d = x := ⟨_, rfl⟩
      rw [hx] at hfb HV hf ⊢
      obtain ⟨a, rfl⟩ := hc.some_of (by have := hm.1; have := hm.2.1; omega)
      have HL := Lib.hid hl
      have HC := Lib.hid hc
      have HZ := Lib.hid hz
      have HM := Lib.hid hm
      have HAP := Lib.hid hap
      have HD := Lib.hid h.1
      have HX := Lib.hid hx
      clear h hl hc hz hm hap hbd hx
      go_enter Try.func11, Try.ntmps11
      go_wp2_with (first
        | (go_at_call 19; (with_reducible refine C.out.mono ?_); rintro e w1 ⟨rfl, hb⟩; have HB1 := Lib.hid hb; clear hb)
        | (go_at_call 26; (with_reducible refine (Wid.plus_any (lea L cols) d _ hlb.1 hlb.2 d0 d1).mono ?_); rintro e w2 ⟨rfl, hb⟩; rw [HX.out, hf, HV.out]; have HB2 := Lib.hid hb; clear hb)
        | (go_at_call 27; (with_reducible refine (rising_any p x _).mono ?_); rintro e w3 ⟨b0, b1, rfl, c0, c1, hg0, hg1, hl0, hl1, hb⟩; have HB3 := Lib.hid hb; clear hb))
      have hbb := below_call (below_call HB1.out HB2.out (Nat.le_refl _)) HB3.out (Nat.le_refl _)
      have HBB := Lib.hid hbb
      have HPo := Lib.hid (pg_up HP.out hbb)
      have HCo := Lib.hid (HC.out.up hbb)
      have hs12 : w.heap.size ≤ w2.heap.size := (below_call HB1.out HB2.out (Nat.le_refl _)).size
      have hF0 : ¬ F b0 := fun hk => by have := (pgT p F m n L).lt w HP.out b0 hk; omega
      have hF1 : ¬ F b1 := fun hk => by have := (pgT p F m n L).lt w HP.out b1 hk; omega
      have HFl : Hid (∀ k, F k → k < w3.heap.size) := Lib.hid (fun k hk => (pgT p F m n L).lt w3 HPo.out k hk)
      have HW : Hid (w.heap.size ≤ w3.heap.size) := Lib.hid hbb.size
      obtain ⟨wo, hwo⟩ : ∃ wo, wo = w3 := ⟨_, rfl⟩
      subst w3
      clear hbb hs12 hg0 hg1
      go_wp2
      go_loopw [38] (fun i wr => ∃ (k : Nat) (F' : Nat → Prop), k ≤ N ∧ i = .int .i64 k ∧ PG wr p F' m n (upto2 L (raised L cols x) k) ∧ Kept F wo wr ∧ (∀ q, F' q → F q ∨ wo.heap.size ≤ q)) (fun i _ => N - (intOf i).toNat)
      case atStart => exact ⟨0, F, Nat.zero_le _, rfl, by rw [upto2_start]; exact HPo.out, Kept.refl _ _, fun q hq => .inl hq⟩
      case round =>
        obtain ⟨k, F', hk, rfl, hp, hkept, hF⟩ := hrel
        have HPk := Lib.hid hp
        have HKk := Lib.hid hkept
        have HFk := Lib.hid hF
        clear hp hkept hF
        by_cases hlt2 : k < N
        · obtain ⟨v, hv⟩ : ∃ v, cols[k]? = some v := ⟨_, List.getElem?_eq_getElem (by rw [HL.out]; exact hlt2)⟩
          have hvb := HZ.out.at hv
          have e1 := (HCo.out.keep HKk.out HAP.out).at hv
          have d0' := HKk.out.cell c0 hF0
          have d1' := HKk.out.cell c1 hF1
          have hF0' : ¬ F' b0 := fun h => (HFk.out b0 h).elim hF0 (fun h => by omega)
          have hF1' : ¬ F' b1 := fun h => (HFk.out b1 h).elim hF1 (fun h => by omega)
          have HPA := Lib.hid (rise_at HD.out HM.out x hv HPk.out.dims)
          have HAT := Lib.hid (at2_in HD.out k v)
          have C4 := Lib.hid (fun (w' : World) (hw : PG w' p F' m n (upto2 L (raised L cols x) k) ∧ w'.cell? ⟨b0, 0, none⟩ = some (.pointer (some p)) ∧ w'.cell? ⟨b1, 0, none⟩ = some (.int .i64 x)) => rise_any p F' m n (upto2 L (raised L cols x) k) k v x b0 b1 w' hw.1 hw.2.1 hw.2.2 hF0' hF1' (by omega) (by omega) hvb.1 hvb.2 hfb.1 hfb.2 (at2 L k v) (max (at2 L k v) x) HPA.out.1 HAT.out.1 HAT.out.2 rfl)
          clear hv hF0' hF1'
          go_wp2_with (go_at_call 40; (with_reducible refine (C4.out _ ⟨HPk.out, d0', d1'⟩).mono ?_); rintro e5 w5 ⟨rfl, F5, hp5, hk5, hf5⟩; have HP5 := Lib.hid hp5; have HK5 := Lib.hid hk5; have HF5 := Lib.hid hf5; clear hp5 hk5 hf5)
          go_roundw
          case rel => exact ⟨k + 1, F5, by omega, by go_num, HPA.out.2 ▸ HP5.out, HKk.out.trans HK5.out (fun q hq h => (HFk.out q h).elim id (fun h2 => by omega)), fun q hq => (HF5.out q hq).elim (fun h => HFk.out q h) (fun h => .inr (by have := HKk.out.size; omega))⟩
          case measure => simp [intOf]; omega
        · have e : k = N := by omega
          subst e
          have hpe := HPk.out
          rw [upto2_end (n := k) (by rw [HD.out.len, ← HM.out.2.1]; exact HL.out) (by rw [raised_len x (by rw [HD.out.len]; exact HM.out.2.1), HD.out.len, ← HM.out.2.1]; exact HL.out)] at hpe
          have HPE := Lib.hid hpe
          clear hpe
          go_wp2
          go_ret
          exact ⟨rfl, F', HPE.out, (Kept.of_below HBB.out).trans HKk.out (fun q hq h => h), fun q hq => (HFk.out q hq).elim .inl (fun h => .inr (by have := HW.out; omega))⟩
  · have C := Lib.hid (least_no p F m n L A N cap cols w h hc hl hN hz hm)
    rw [(rs_no hm).1, (rs_no hm).2]
    clear h hc hl hz hm hap
    have HBD := Lib.hid hbd
    clear hbd
    go_enter Try.func11, Try.ntmps11
    go_wp2_with (go_at_call 19; (with_reducible refine C.out.mono ?_); rintro e w1 ⟨rfl, hb⟩; have HB1 := Lib.hid hb; clear hb)
    go_ret
    exact ⟨rfl, HBD.out _ HB1.out⟩
end Go.Proofs.Ytonbidohhgenlaa.Con
