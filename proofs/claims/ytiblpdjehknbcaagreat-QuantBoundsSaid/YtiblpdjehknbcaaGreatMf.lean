/- Texts that the statements of this seat lean on, put together: ConCode, ConMath, ConRef, SkDef, SkNum. -/
import Derived.Test.YtiblpdjehknbcaaGreatMa
import Derived.Test.YtiblpdjehknbcaaGreatMc
import Derived.Test.YtiblpdjehknbcaaGreatMd
import Derived.Test.YtiblpdjehknbcaaGreatMe
import Derived.Deep.DeepCutAuto
import Derived.Deep.LoopGhost
import Derived.Deep.RegionHeld3
import Derived.Deep.QuietTactic
import Derived.BigQuiet
import Derived.WalkSpells
/- The walks of package conserve (the code's): cells that rise. -/
namespace Go.Proofs.YtiblpdjehknbcaaGreat.Con
open Go Go.RowKit Lw Grd Lin
set_option linter.unusedVariables false
set_option linter.unusedSimpArgs false
theorem rise_at {m n : Nat} {L : List (List Int)} {cols : List Int} (hd : Dims m n L) (h : Meets m n cols) (x : Int) {k : Nat} {v : Int} (hv : cols[k]? = some v) (hD : Dims m n (upto2 L (raised L cols x) k)) :
    at2 (upto2 L (raised L cols x) k) k v = at2 L k v ∧ setL (upto2 L (raised L cols x) k) k v (max (at2 L k v) x) = upto2 L (raised L cols x) (k + 1) := by
  have hk : k < cols.length := (List.getElem?_eq_some_iff.1 hv).1
  have hl : cols.length = L.length := by rw [hd.len]; exact h.2.1
  have hb := meets_at h hv
  have hL : L[k]? = some (L[k]'(by omega)) := List.getElem?_eq_getElem (by omega)
  have hY := raised_at hd h x hv
  rw [hL] at hY
  have hX := upto2_get (X := L) (Y := raised L cols x) (n := L.length) rfl (raised_len x hl) (k := k) (by omega)
  have hin : in2 (upto2 L (raised L cols x) k) k v = true := by
    rw [in2_dims hD]
    have := hd.len
    exact decide_eq_true ⟨by omega, by omega, hb.1, hb.2⟩
  refine ⟨?_, ?_⟩
  · unfold at2
    rw [Int.toNat_natCast, hX]
  rw [hL] at hX
  rw [← upto2_set (n := L.length) rfl (raised_len x hl) hY]
  unfold setL
  rw [if_pos hin]
  apply List.ext_getElem?
  intro i
  rw [List.getElem?_modify, List.getElem?_set, Int.toNat_natCast]
  have hln := upto2_len (X := L) (Y := raised L cols x) (n := L.length) rfl (raised_len x hl) (k := k) (by omega)
  by_cases e : k = i
  · subst e
    rw [hX, if_pos rfl, hln, if_pos (by omega)]
    simp
  · rw [if_neg e]
    simp [e]
set_option maxRecDepth 100000 in
/-- The closure that lets a cell rise: it holds the grid and the number in two cells. -/
theorem rise_any (p : Addr) (F : Nat → Prop) (m n : Nat) (L : List (List Int)) (row col x : Int) (b0 b1 : Nat) (w : World) (h : PG w p F m n L)
    (c0 : w.cell? ⟨b0, 0, none⟩ = some (.pointer (some p))) (c1 : w.cell? ⟨b1, 0, none⟩ = some (.int .i64 x)) (hf0 : ¬ F b0) (hf1 : ¬ F b1)
    (r0 : -9223372036854775808 ≤ row) (r1 : row ≤ 9223372036854775807) (k0 : -9223372036854775808 ≤ col) (k1 : col ≤ 9223372036854775807) (x0 : -9223372036854775808 ≤ x) (x1 : x ≤ 9223372036854775807)
    (a y : Int) (ha : at2 L row col = a) (a0 : -9223372036854775808 ≤ a) (a1 : a ≤ 9223372036854775807) (hy : max a x = y) :
    Calls Tryz.prog 159 #[.int .i64 row, .int .i64 col, .pointer (some ⟨b0, 0, none⟩), .pointer (some ⟨b1, 0, none⟩)] w fun e w' => e = .returned (.tuple #[]) ∧ ∃ F', PG w' p F' m n (setL L row col y) ∧ Kept F w w' ∧ (∀ k, F' k → F k ∨ w.heap.size ≤ k) := by
  have HP := Lib.hid h
  have C : Hid (∀ w', Below w.heap.size w w' → Calls Tryz.prog 128 #[.pointer (some p), .int .i64 row, .int .i64 col] w' fun e w2 => e = .returned (.int .i64 a) ∧ Below w'.heap.size w' w2) := Lib.hid (fun w' hb => ha ▸ at_any p F m n L row col w' (pg_up h hb) r0 r1 k0 k1)
  have D : Hid (∀ y w', -9223372036854775808 ≤ y → y ≤ 9223372036854775807 → Below w.heap.size w w' → Calls Tryz.prog 127 #[.pointer (some p), .int .i64 row, .int .i64 col, .int .i64 y] w' fun e w2 => ∃ b F', e = .returned (.bool b) ∧ PG w2 p F' m n (setL L row col y) ∧ Kept F w w2 ∧ (∀ k, F' k → F k ∨ w.heap.size ≤ k)) := Lib.hid (fun y w' h0 h1 hb => (put_any p F m n L row col y w' (pg_up h hb) r0 r1 k0 k1 h0 h1).mono (fun e w2 h => by obtain ⟨e1, F', h2, h3, h4⟩ := h; exact ⟨_, F', e1, h2, (Kept.of_below hb).trans h3 (fun q hq h => h), fun q hq => (h4 q hq).elim .inl (fun h => .inr (Nat.le_trans hb.size h))⟩))
  clear h ha
  by_cases hc : a < x
  · have e : y = x := by omega
    subst y
    skip
    go_enter Tryz.func159, Tryz.ntmps159
    go_region_held3 (fun w' => w'.cell? ⟨b0, 0, none⟩ = some (.pointer (some p)) ∧ w'.cell? ⟨b1, 0, none⟩ = some (.int .i64 x)) (first | (refine ⟨?_, ?_⟩ <;> (first | (with_reducible assumption) | (with_reducible refine cell_up c0 ?_) | (with_reducible refine cell_up c1 ?_)) <;> (repeat' (first | (with_reducible exact Below.refl _ _) | (with_reducible assumption) | (with_reducible refine below_over ?_ _ _) | (with_reducible refine Lw.below_alloc ?_ _) | (with_reducible refine Below.drew ?_) | (with_reducible refine below_drewN ?_ _) | go_size)))) (first
      | (go_at_call 128; (with_reducible refine (C.out _ (by (repeat' (first | (with_reducible exact Below.refl _ _) | (with_reducible assumption) | (with_reducible refine below_over ?_ _ _) | (with_reducible refine Lw.below_alloc ?_ _) | (with_reducible refine Below.drew ?_) | (with_reducible refine below_drewN ?_ _) | go_size)))).mono ?_); rintro e w5 ⟨rfl, hb⟩; obtain ⟨bs, d, rfl⟩ := below_grow hb; clear hb)
      | (go_at_call 127; (with_reducible refine (D.out _ _ (by omega) (by omega) (by (repeat' (first | (with_reducible exact Below.refl _ _) | (with_reducible assumption) | (with_reducible refine below_over ?_ _ _) | (with_reducible refine Lw.below_alloc ?_ _) | (with_reducible refine Below.drew ?_) | (with_reducible refine below_drewN ?_ _) | go_size)))).mono ?_); rintro e w6 ⟨b, F6, rfl, hp6, hk6, hf6⟩; have HP6 := Lib.hid hp6; have HK6 := Lib.hid hk6; have HF6 := Lib.hid hf6; clear hp6 hf6; have x0 : w6.cell? ⟨b0, 0, none⟩ = some (.pointer (some p)) := hk6.cell c0 hf0; have x1 : w6.cell? ⟨b1, 0, none⟩ = some (.int .i64 x) := hk6.cell c1 hf1; clear hk6))
    all_goals go_wp2
    all_goals go_returns
    all_goals exact ⟨rfl, F6, (by have h6 := HP6.out; first | exact e.symm ▸ h6 | (rw [if_neg (by omega)] at h6; exact e.symm ▸ h6)), HK6.out, HF6.out⟩
  · have hc2 : x ≤ a := by omega
    have e : y = a := by omega
    subst y
    skip
    go_enter Tryz.func159, Tryz.ntmps159
    go_region_held3 (fun w' => w'.cell? ⟨b0, 0, none⟩ = some (.pointer (some p)) ∧ w'.cell? ⟨b1, 0, none⟩ = some (.int .i64 x)) (first | (refine ⟨?_, ?_⟩ <;> (first | (with_reducible assumption) | (with_reducible refine cell_up c0 ?_) | (with_reducible refine cell_up c1 ?_)) <;> (repeat' (first | (with_reducible exact Below.refl _ _) | (with_reducible assumption) | (with_reducible refine below_over ?_ _ _) | (with_reducible refine Lw.below_alloc ?_ _) | (with_reducible refine Below.drew ?_) | (with_reducible refine below_drewN ?_ _) | go_size)))) (first
      | (go_at_call 128; (with_reducible refine (C.out _ (by (repeat' (first | (with_reducible exact Below.refl _ _) | (with_reducible assumption) | (with_reducible refine below_over ?_ _ _) | (with_reducible refine Lw.below_alloc ?_ _) | (with_reducible refine Below.drew ?_) | (with_reducible refine below_drewN ?_ _) | go_size)))).mono ?_); rintro e w5 ⟨rfl, hb⟩; obtain ⟨bs, d, rfl⟩ := below_grow hb; clear hb)
      | (go_at_call 127; (with_reducible refine (D.out _ _ (by omega) (by omega) (by (repeat' (first | (with_reducible exact Below.refl _ _) | (with_reducible assumption) | (with_reducible refine below_over ?_ _ _) | (with_reducible refine Lw.below_alloc ?_ _) | (with_reducible refine Below.drew ?_) | (with_reducible refine below_drewN ?_ _) | go_size)))).mono ?_); rintro e w6 ⟨b, F6, rfl, hp6, hk6, hf6⟩; have HP6 := Lib.hid hp6; have HK6 := Lib.hid hk6; have HF6 := Lib.hid hf6; clear hp6 hf6; have x0 : w6.cell? ⟨b0, 0, none⟩ = some (.pointer (some p)) := hk6.cell c0 hf0; have x1 : w6.cell? ⟨b1, 0, none⟩ = some (.int .i64 x) := hk6.cell c1 hf1; clear hk6))
    all_goals go_wp2
    all_goals go_returns
    all_goals exact ⟨rfl, F6, (by have h6 := HP6.out; first | exact e.symm ▸ h6 | (rw [if_neg (by omega)] at h6; exact e.symm ▸ h6)), HK6.out, HF6.out⟩
theorem rising_any (p : Addr) (x : Int) (w : World) :
    Calls Tryz.prog 152 #[.pointer (some p), .int .i64 x] w fun e w' => ∃ b0 b1, e = .returned (.func (.func 159) #[] #[.pointer (some ⟨b0, 0, none⟩), .pointer (some ⟨b1, 0, none⟩)]) ∧ w'.cell? ⟨b0, 0, none⟩ = some (.pointer (some p)) ∧ w'.cell? ⟨b1, 0, none⟩ = some (.int .i64 x) ∧ w.heap.size ≤ b0 ∧ w.heap.size ≤ b1 ∧ b0 < w'.heap.size ∧ b1 < w'.heap.size ∧ Below w.heap.size w w' := by
  have hmf : ∀ (fn : Fn) (first cap : Array Value) (w : World), (Instr.makeFunc fn first cap).run Tryz.prog w = .ok (.func fn first cap) w := fun _ _ _ _ => rfl
  go_enter Tryz.func152, Tryz.ntmps152
  go_wp2
  go_ret
  refine ⟨_, _, rfl, by simp [go_sem], by simp [go_sem], Nat.le_refl _, by simp, by simp, by simp, ?_⟩
  (repeat' (first | (with_reducible exact Below.refl _ _) | (with_reducible assumption) | (with_reducible refine below_over ?_ _ _) | (with_reducible refine Lw.below_alloc ?_ _) | (with_reducible refine Below.drew ?_) | (with_reducible refine below_drewN ?_ _) | go_size))
theorem dims_rise {m n : Nat} {L : List (List Int)} {cols : List Int} {x : Int} (hd : Dims m n L) (h : Meets m n cols) (x0 : -9223372036854775808 ≤ x) (x1 : x ≤ 9223372036854775807) (k : Nat) : Dims m n (upto2 L (raised L cols x) k) := by
  have hr := raised_dims hd h x0 x1
  refine ⟨?_, hd.m8, hd.n128, fun r hrr => ?_⟩
  · unfold upto2
    rw [List.length_append, List.length_take, List.length_drop, hr.len, hd.len]
    omega
  · unfold upto2 at hrr
    rcases List.mem_append.1 hrr with h1 | h1
    · exact hr.rows r (List.mem_of_mem_take h1)
    · exact hd.rows r (List.mem_of_mem_drop h1)
theorem least_no (p : Addr) (F : Nat → Prop) (m n : Nat) (L : List (List Int)) (A : Option Addr) (N cap : Nat) (cols : List Int) (w : World) (h : PG w p F m n L) (hc : Rd .i64 w A cols) (hl : cols.length = N) (hN : N ≤ 1000) (hz : In64 cols) (hm : ¬ Meets m n cols) :
    Calls Tryz.prog 146 #[.pointer (some p), .slice A N cap] w fun e w' => e = .returned (.tuple #[.int .i64 0, .int .i64 1]) ∧ Below w.heap.size w w' := by
  have C := least_any p F m n L A N cap cols w h hc hl hN hz
  rw [(readOf_no (L := L) hm).1, (readOf_no (L := L) hm).2] at C
  rw [(Ord.kv_no (l := []) (k := _) (by simp)).1] at C
  exact C
theorem least_yes (p : Addr) (F : Nat → Prop) (m n : Nat) (L : List (List Int)) (A : Option Addr) (N cap : Nat) (cols : List Int) (w : World) (h : PG w p F m n L) (hc : Rd .i64 w A cols) (hl : cols.length = N) (hN : N ≤ 1000) (hz : In64 cols) (hm : Meets m n cols) :
    Calls Tryz.prog 146 #[.pointer (some p), .slice A N cap] w fun e w' => e = .returned (.tuple #[.int .i64 (lea L cols), .int .i64 0]) ∧ Below w.heap.size w w' := by
  have C := least_any p F m n L A N cap cols w h hc hl hN hz
  rw [(readOf_yes (L := L) hm).1, (readOf_yes (L := L) hm).2] at C
  exact C
set_option maxRecDepth 100000 in
set_option maxHeartbeats 4000000 in
theorem raise_any (p : Addr) (F : Nat → Prop) (m n : Nat) (L : List (List Int)) (A : Option Addr) (N cap : Nat) (cols : List Int) (d : Int) (w : World) (h : PG w p F m n L) (hc : Rd .i64 w A cols) (hap : ∀ a, A = some a → ¬ F a.block) (hl : cols.length = N) (hN : N ≤ 1000) (hz : In64 cols) (d0 : -9223372036854775808 ≤ d) (d1 : d ≤ 9223372036854775807) :
    Calls Tryz.prog 145 #[.pointer (some p), .slice A N cap, .int .i64 d] w fun e w' => e = .returned (.int .i64 (rsCode m n L cols d)) ∧ ∃ F', PG w' p F' m n (rsRes m n L cols d) ∧ Kept F w w' ∧ (∀ k, F' k → F k ∨ w.heap.size ≤ k) := by
  have HP := Lib.hid h
  have hbd : ∀ (w' : World), Below w.heap.size w w' → ∃ (F' : Nat → Prop), PG w' p F' m n L ∧ Kept F w w' ∧ (∀ k, F' k → F k ∨ w.heap.size ≤ k) := fun w' hb => ⟨F, pg_up h hb, Kept.of_below hb, fun k hk => .inl hk⟩
  by_cases hm : Meets m n cols
  · have C := Lib.hid (least_yes p F m n L A N cap cols w h hc hl hN hz hm)
    by_cases hd : d < 0
    · rw [(rs_neg hm hd).1, (rs_neg hm hd).2]
      clear h hc hl hz hm hap
      have HBD := Lib.hid hbd
      clear hbd
      go_enter Tryz.func145, Tryz.ntmps145
      go_wp2_with (go_at_call 146; (with_reducible refine C.out.mono ?_); rintro e w1 ⟨rfl, hb⟩; have HB1 := Lib.hid hb; clear hb)
      go_ret
      exact ⟨rfl, HBD.out _ HB1.out⟩
    have hlb := lea_in (cols := cols) h.1
    have hd2 : 0 ≤ d := by omega
    cases hf : Wid.fit64 (lea L cols + d) with
    | false =>
      rw [(rs_over hm hd2 hf).1, (rs_over hm hd2 hf).2]
      clear h hc hl hz hm hap
      have HBD := Lib.hid hbd
      clear hbd
      go_enter Tryz.func145, Tryz.ntmps145
      go_wp2_with (first
        | (go_at_call 146; (with_reducible refine C.out.mono ?_); rintro e w1 ⟨rfl, hb⟩; have HB1 := Lib.hid hb; clear hb)
        | (go_at_call 130; (with_reducible refine (Wid.plus_any (lea L cols) d _ hlb.1 hlb.2 d0 d1).mono ?_); rintro e w2 ⟨rfl, hb⟩; rw [hf]; have HB2 := Lib.hid hb; clear hb))
      go_ret
      exact ⟨rfl, HBD.out _ (below_call HB1.out HB2.out (Nat.le_refl _))⟩
    | true =>
      rw [(rs_yes hm hd2 hf).1, (rs_yes hm hd2 hf).2]
      have hfb := fit64_in hf
      have HV : Hid (Wid.f64 (lea L cols + d) = lea L cols + d) := Lib.hid (if_pos hf)
      obtain ⟨x, hx⟩ : ∃ x, lea L cols + d = x := ⟨_, rfl⟩
      rw [hx] at hfb HV hf ⊢
      obtain ⟨a, rfl⟩ := hc.some_of (by have := hm.1; have := hm.2.1; omega)
      have HL := Lib.hid hl
      have HC := Lib.hid hc
      have HZ := Lib.hid hz
      have HM := Lib.hid hm
      have HAP := Lib.hid hap
      have HD := Lib.hid h.1
      have HX := Lib.hid hx
      clear h hl hc hz hm hap hbd hx
      go_enter Tryz.func145, Tryz.ntmps145
      go_wp2_with (first
        | (go_at_call 146; (with_reducible refine C.out.mono ?_); rintro e w1 ⟨rfl, hb⟩; have HB1 := Lib.hid hb; clear hb)
        | (go_at_call 130; (with_reducible refine (Wid.plus_any (lea L cols) d _ hlb.1 hlb.2 d0 d1).mono ?_); rintro e w2 ⟨rfl, hb⟩; rw [HX.out, hf, HV.out]; have HB2 := Lib.hid hb; clear hb)
        | (go_at_call 152; (with_reducible refine (rising_any p x _).mono ?_); rintro e w3 ⟨b0, b1, rfl, c0, c1, hg0, hg1, hl0, hl1, hb⟩; have HB3 := Lib.hid hb; clear hb))
      have hbb := below_call (below_call HB1.out HB2.out (Nat.le_refl _)) HB3.out (Nat.le_refl _)
      have HBB := Lib.hid hbb
      have HPo := Lib.hid (pg_up HP.out hbb)
      have HCo := Lib.hid (HC.out.up hbb)
      have hs12 : w.heap.size ≤ w2.heap.size := (below_call HB1.out HB2.out (Nat.le_refl _)).size
      have hF0 : ¬ F b0 := fun hk => by have := (pgT p F m n L).lt w HP.out b0 hk; omega
      have hF1 : ¬ F b1 := fun hk => by have := (pgT p F m n L).lt w HP.out b1 hk; omega
      have HFl : Hid (∀ k, F k → k < w3.heap.size) := Lib.hid (fun k hk => (pgT p F m n L).lt w3 HPo.out k hk)
      have HW : Hid (w.heap.size ≤ w3.heap.size) := Lib.hid hbb.size
      obtain ⟨wo, hwo⟩ : ∃ wo, wo = w3 := ⟨_, rfl⟩
      subst w3
      clear hbb hs12 hg0 hg1
      go_wp2
      go_loopw [38] (fun i wr => ∃ (k : Nat) (F' : Nat → Prop), k ≤ N ∧ i = .int .i64 k ∧ PG wr p F' m n (upto2 L (raised L cols x) k) ∧ Kept F wo wr ∧ (∀ q, F' q → F q ∨ wo.heap.size ≤ q)) (fun i _ => N - (intOf i).toNat)
      case atStart => exact ⟨0, F, Nat.zero_le _, rfl, by rw [upto2_start]; exact HPo.out, Kept.refl _ _, fun q hq => .inl hq⟩
      case round =>
        obtain ⟨k, F', hk, rfl, hp, hkept, hF⟩ := hrel
        have HPk := Lib.hid hp
        have HKk := Lib.hid hkept
        have HFk := Lib.hid hF
        clear hp hkept hF
        by_cases hlt2 : k < N
        · obtain ⟨v, hv⟩ : ∃ v, cols[k]? = some v := ⟨_, List.getElem?_eq_getElem (by rw [HL.out]; exact hlt2)⟩
          have hvb := HZ.out.at hv
          have e1 := (HCo.out.keep HKk.out HAP.out).at hv
          have d0' := HKk.out.cell c0 hF0
          have d1' := HKk.out.cell c1 hF1
          have hF0' : ¬ F' b0 := fun h => (HFk.out b0 h).elim hF0 (fun h => by omega)
          have hF1' : ¬ F' b1 := fun h => (HFk.out b1 h).elim hF1 (fun h => by omega)
          have HPA := Lib.hid (rise_at HD.out HM.out x hv HPk.out.dims)
          have HAT := Lib.hid (at2_in HD.out k v)
          have C4 := Lib.hid (fun (w' : World) (hw : PG w' p F' m n (upto2 L (raised L cols x) k) ∧ w'.cell? ⟨b0, 0, none⟩ = some (.pointer (some p)) ∧ w'.cell? ⟨b1, 0, none⟩ = some (.int .i64 x)) => rise_any p F' m n (upto2 L (raised L cols x) k) k v x b0 b1 w' hw.1 hw.2.1 hw.2.2 hF0' hF1' (by omega) (by omega) hvb.1 hvb.2 hfb.1 hfb.2 (at2 L k v) (max (at2 L k v) x) HPA.out.1 HAT.out.1 HAT.out.2 rfl)
          clear hv hF0' hF1'
          go_wp2_with (go_at_call 159; (with_reducible refine (C4.out _ ⟨HPk.out, d0', d1'⟩).mono ?_); rintro e5 w5 ⟨rfl, F5, hp5, hk5, hf5⟩; have HP5 := Lib.hid hp5; have HK5 := Lib.hid hk5; have HF5 := Lib.hid hf5; clear hp5 hk5 hf5)
          go_roundw
          case rel => exact ⟨k + 1, F5, by omega, by go_num, HPA.out.2 ▸ HP5.out, HKk.out.trans HK5.out (fun q hq h => (HFk.out q h).elim id (fun h2 => by omega)), fun q hq => (HF5.out q hq).elim (fun h => HFk.out q h) (fun h => .inr (by have := HKk.out.size; omega))⟩
          case measure => simp [intOf]; omega
        · have e : k = N := by omega
          subst e
          have hpe := HPk.out
          rw [upto2_end (n := k) (by rw [HD.out.len, ← HM.out.2.1]; exact HL.out) (by rw [raised_len x (by rw [HD.out.len]; exact HM.out.2.1), HD.out.len, ← HM.out.2.1]; exact HL.out)] at hpe
          have HPE := Lib.hid hpe
          clear hpe
          go_wp2
          go_ret
          exact ⟨rfl, F', HPE.out, (Kept.of_below HBB.out).trans HKk.out (fun q hq h => h), fun q hq => (HFk.out q hq).elim .inl (fun h => .inr (by have := HW.out; omega))⟩
  · have C := Lib.hid (least_no p F m n L A N cap cols w h hc hl hN hz hm)
    rw [(rs_no hm).1, (rs_no hm).2]
    clear h hc hl hz hm hap
    have HBD := Lib.hid hbd
    clear hbd
    go_enter Tryz.func145, Tryz.ntmps145
    go_wp2_with (go_at_call 146; (with_reducible refine C.out.mono ?_); rintro e w1 ⟨rfl, hb⟩; have HB1 := Lib.hid hb; clear hb)
    go_ret
    exact ⟨rfl, HBD.out _ HB1.out⟩
end Go.Proofs.YtiblpdjehknbcaaGreat.Con
/- Many raises, in numbers: no cell is above what it would be if all had been added; Least of columns is not below what they were raised by. -/
namespace Go.Proofs.YtiblpdjehknbcaaGreat.Con
open Go Go.RowKit Lw Grd Lin
set_option linter.unusedVariables false
def rsAll (L : List (List Int)) (ops : Ops) : List (List Int) := ops.foldl (fun L o => raised L o.1 (lea L o.1 + o.2)) L
theorem rsAll_one (L : List (List Int)) (ops : Ops) (o : List Int × Int) : rsAll L (ops ++ [o]) = raised (rsAll L ops) o.1 (lea (rsAll L ops) o.1 + o.2) := by
  unfold rsAll
  rw [List.foldl_append]
  rfl
theorem chAll_one (L : List (List Int)) (ops : Ops) (o : List Int × Int) : chAll L (ops ++ [o]) = changed (chAll L ops) o.1 o.2 := by
  unfold chAll
  rw [List.foldl_append]
  rfl
theorem sz_raised {m n : Nat} {L : List (List Int)} {cols : List Int} (h : Sz m n L) (hc : cols.length = m) (x : Int) : Sz m n (raised L cols x) := by
  refine ⟨by unfold raised; rw [List.length_zipWith, h.1, hc]; omega, fun r hr => ?_⟩
  obtain ⟨a, ha, b, hb, rfl⟩ := mem_zip hr
  rw [List.length_set]
  exact h.2 a ha
theorem cel_raised {m n : Nat} {L : List (List Int)} {cols : List Int} (h : Sz m n L) (hc : Meets m n cols) (x : Int) {r c : Nat} (hr : r < m) (hcn : c < n) : cel (raised L cols x) r c = if cols[r]? = some (c : Int) then max (cel L r c) x else cel L r c := by
  have hl : r < L.length := by rw [h.1]; exact hr
  obtain ⟨v, hv, hvn⟩ := meets_get hc hr
  have hrow := h.2 _ (List.getElem_mem hl)
  unfold cel raised
  rw [List.getElem?_zipWith, List.getElem?_eq_getElem hl, hv]
  simp only [Option.getD_some, Int.toNat_natCast]
  by_cases e : v = c
  · subst e
    rw [if_pos rfl, List.getElem?_set_self (by omega)]
    rfl
  · rw [if_neg (by simp; omega), List.getElem?_set_ne e]
theorem lea_mem {m n : Nat} {L : List (List Int)} {cols : List Int} (h : Sz m n L) (hc : Meets m n cols) : lea L cols ∈ named L cols ∧ ∀ y ∈ named L cols, lea L cols ≤ y := by
  have hl := named_len (L := L) (cols := cols) (by rw [hc.2.1, h.1])
  rw [h.1] at hl
  have hm := hc.1
  unfold lea
  rw [(Ord.kv_yes (k := 0) (by omega) (by rw [hl]; omega)).1]
  have hr := Ord.ranks_kth (named L cols) (0 : Int).toNat (by rw [hl]; simp; omega)
  refine ⟨hr.1, fun y hy => ?_⟩
  have h2 : Ord.less (named L cols) (Ord.kth (named L cols) (0 : Int).toNat) = 0 := by have := hr.2.1; simp at this ⊢; exact this
  unfold Ord.less at h2
  rw [List.countP_eq_zero] at h2
  have := h2 y hy
  simpa using this
theorem lea_le {m n : Nat} {L : List (List Int)} {cols : List Int} (h : Sz m n L) (hc : Meets m n cols) {r v : Nat} (hr : r < m) (hv : cols[r]? = some (v : Int)) : lea L cols ≤ cel L r v :=
  (lea_mem h hc).2 _ (List.mem_of_getElem? (named_cel h hc hr hv))
theorem lea_is {m n : Nat} {L : List (List Int)} {cols : List Int} (h : Sz m n L) (hc : Meets m n cols) : ∃ r v : Nat, r < m ∧ v < n ∧ cols[r]? = some (v : Int) ∧ lea L cols = cel L r v := by
  obtain ⟨r, hr, e⟩ := List.mem_iff_getElem.1 (lea_mem h hc).1
  have hl := named_len (L := L) (cols := cols) (by rw [hc.2.1, h.1])
  rw [h.1] at hl
  obtain ⟨v, hv, hvn⟩ := meets_get hc (show r < m by omega)
  have e2 := named_cel h hc (show r < m by omega) hv
  rw [List.getElem?_eq_getElem hr, e] at e2
  injection e2 with e2
  exact ⟨r, v, by omega, hvn, hv, e2⟩
theorem lea_ge {m n : Nat} {L : List (List Int)} {cols : List Int} (h : Sz m n L) (hc : Meets m n cols) {x : Int} (hx : ∀ r v : Nat, r < m → v < n → cols[r]? = some (v : Int) → x ≤ cel L r v) : x ≤ lea L cols := by
  obtain ⟨r, v, hr, hvn, hv, e⟩ := lea_is h hc
  rw [e]
  exact hx r v hr hvn hv
/-- Raised by columns, their least one is just the sum. -/
theorem lea_raised {m n : Nat} {L : List (List Int)} {cols : List Int} (h : Sz m n L) (hc : Meets m n cols) {x : Int} (hx : lea L cols ≤ x) : lea (raised L cols x) cols = x := by
  have hs := sz_raised h hc.2.1 x
  obtain ⟨r, v, hr, hvn, hv, e⟩ := lea_is h hc
  have h1 := lea_le hs hc hr hv
  rw [cel_raised h hc x hr hvn, if_pos hv] at h1
  have h2 : x ≤ lea (raised L cols x) cols := lea_ge hs hc fun r v hr hvn hv => by
    rw [cel_raised h hc x hr hvn, if_pos hv]
    omega
  omega
theorem lea_mono {m n : Nat} {L M : List (List Int)} {cols : List Int} (h : Sz m n L) (g : Sz m n M) (hc : Meets m n cols) (hle : ∀ r c : Nat, r < m → c < n → cel L r c ≤ cel M r c) : lea L cols ≤ lea M cols :=
  lea_ge g hc fun r v hr hvn hv => Int.le_trans (lea_le h hc hr hv) (hle r v hr hvn)
/-- What holds of a grid that rose, beside one to which the same was added. -/
structure Rose (m n : Nat) (G H : List (List Int)) (ops : Ops) : Prop where
  sg : Sz m n G
  sh : Sz m n H
  nn : ∀ r c : Nat, r < m → c < n → 0 ≤ cel G r c
  le : ∀ r c : Nat, r < m → c < n → cel G r c ≤ cel H r c
  ow : ∀ (cols : List Int), Meets m n cols → ∀ r v : Nat, r < m → v < n → cols[r]? = some (v : Int) → own cols ops ≤ cel G r v
theorem own_one (cols : List Int) (ops : Ops) (o : List Int × Int) : own cols (ops ++ [o]) = own cols ops + (if o.1 = cols then o.2 else 0) := by
  rw [own_app]
  simp [own]
theorem rose_zero (m n : Nat) : Rose m n (zerosL m n) (zerosL m n) [] :=
  ⟨sz_zeros m n, sz_zeros m n, fun r c _ _ => by rw [cel_zeros]; omega, fun _ _ _ _ => Int.le_refl _, fun cols _ r v _ _ _ => by rw [cel_zeros]; exact Int.le_refl _⟩
theorem rose_next {m n : Nat} {G H : List (List Int)} {ops : Ops} (h : Rose m n G H ops) {o : List Int × Int} (hm : Meets m n o.1) (hd : 0 ≤ o.2) : Rose m n (raised G o.1 (lea G o.1 + o.2)) (changed H o.1 o.2) (ops ++ [o]) := by
  refine ⟨sz_raised h.sg hm.2.1 _, sz_changed h.sh hm.2.1 _, fun r c hr hc => ?_, fun r c hr hc => ?_, fun cols hcm r v hr hvn hv => ?_⟩
  · rw [cel_raised h.sg hm _ hr hc]
    have := h.nn r c hr hc
    split <;> omega
  · rw [cel_raised h.sg hm _ hr hc, cel_changed h.sh hm _ hr hc]
    have h1 := h.le r c hr hc
    by_cases e : o.1[r]? = some (c : Int)
    · rw [if_pos e, if_pos e]
      have h2 := lea_le h.sg hm hr e
      omega
    · rw [if_neg e, if_neg e]
      omega
  · rw [cel_raised h.sg hm _ hr hvn, own_one]
    have h1 := h.ow cols hcm r v hr hvn hv
    by_cases e : o.1 = cols
    · rw [if_pos e]
      subst e
      rw [if_pos hv]
      have h2 : own o.1 ops ≤ lea G o.1 := lea_ge h.sg hm fun r v hr hvn hv => h.ow o.1 hm r v hr hvn hv
      omega
    · rw [if_neg e]
      split <;> omega
theorem rose_all {m n : Nat} {b : Int} : ∀ {ops : Ops} {pre : Ops} {G H : List (List Int)}, Rose m n G H pre → OpsOk m n b ops → Plus b ops → Rose m n (rsAll G ops) (chAll H ops) (pre ++ ops)
  | [], pre, G, H, h, _, _ => by simpa [rsAll, chAll] using h
  | o :: ops, pre, G, H, h, g, hp => by
    have ih := rose_all (ops := ops) (rose_next h (g o (by simp)).1 (hp o (by simp)).1) (fun p hq => g p (by simp [hq])) (fun p hq => hp p (by simp [hq]))
    rw [List.append_assoc] at ih
    exact ih
theorem Rose.lea_own {m n : Nat} {G H : List (List Int)} {ops : Ops} (h : Rose m n G H ops) {cols : List Int} (hc : Meets m n cols) : own cols ops ≤ lea G cols ∧ lea G cols ≤ lea H cols ∧ 0 ≤ lea G cols :=
  ⟨lea_ge h.sg hc (h.ow cols hc), lea_mono h.sg h.sh hc h.le, lea_ge h.sg hc (fun r v hr hvn _ => h.nn r v hr hvn)⟩
/-- Two pairs of grids, put together. -/
theorem Rose.join {m n : Nat} {G H G2 H2 : List (List Int)} {ops ops2 : Ops} (h : Rose m n G H ops) (g : Rose m n G2 H2 ops2) : Rose m n (gridS 1 G G2) (gridS 1 H H2) (ops ++ ops2) := by
  have key : ∀ {A B : List (List Int)}, Sz m n A → Sz m n B → Sz m n (gridS 1 A B) ∧ ∀ r c, r < m → c < n → cel (gridS 1 A B) r c = cel A r c + cel B r c := by
    intro A B ha hb
    refine ⟨⟨by unfold gridS; rw [List.length_zipWith, ha.1, hb.1]; omega, fun r hr => ?_⟩, fun r c hr hc => ?_⟩
    · obtain ⟨a, h1, b, h2, rfl⟩ := mem_zip hr
      unfold rowS
      rw [List.length_zipWith, ha.2 a h1, hb.2 b h2]
      omega
    · have h1 : r < A.length := by rw [ha.1]; exact hr
      have h2 : r < B.length := by rw [hb.1]; exact hr
      have h3 := ha.2 _ (List.getElem_mem h1)
      have h4 := hb.2 _ (List.getElem_mem h2)
      unfold cel gridS
      rw [List.getElem?_zipWith, List.getElem?_eq_getElem h1, List.getElem?_eq_getElem h2]
      simp only [Option.getD_some]
      unfold rowS
      rw [List.getElem?_zipWith, List.getElem?_eq_getElem (by omega), List.getElem?_eq_getElem (by omega)]
      simp
  obtain ⟨s1, c1⟩ := key h.sg g.sg
  obtain ⟨s2, c2⟩ := key h.sh g.sh
  refine ⟨s1, s2, fun r c hr hc => ?_, fun r c hr hc => ?_, fun cols hcm r v hr hvn hv => ?_⟩
  · rw [c1 r c hr hc]; have := h.nn r c hr hc; have := g.nn r c hr hc; omega
  · rw [c1 r c hr hc, c2 r c hr hc]; have := h.le r c hr hc; have := g.le r c hr hc; omega
  · rw [c1 r v hr hvn, own_app]; have := h.ow cols hcm r v hr hvn hv; have := g.ow cols hcm r v hr hvn hv; omega
theorem cel_within {m n : Nat} {b : Int} {H : List (List Int)} (hs : Sz m n H) (hw : Within b H) {r c : Nat} (hr : r < m) (hc : c < n) : cel H r c ≤ b := by
  have h1 : r < H.length := by rw [hs.1]; exact hr
  have h2 := hs.2 _ (List.getElem_mem h1)
  unfold cel
  rw [List.getElem?_eq_getElem h1]
  simp only [Option.getD_some]
  rw [List.getElem?_eq_getElem (by omega)]
  exact (hw _ (List.getElem_mem h1) _ (List.getElem_mem _)).2
/-- In the midst of sixty raises: the next one is done, and so is the change. -/
theorem both_ok {m n : Nat} {ops : Ops} (hok : OpsOk m n 1099511627776 ops) (hp : Plus 1099511627776 ops) (hl : ops.length ≤ 60) (m8 : m ≤ 8) (n128 : n ≤ 128) {o : List Int × Int} (hm : Meets m n o.1) (hd : 0 ≤ o.2 ∧ o.2 ≤ 1099511627776) :
    (rsCode m n (rsAll (zerosL m n) ops) o.1 o.2 = 0 ∧ rsRes m n (rsAll (zerosL m n) ops) o.1 o.2 = rsAll (zerosL m n) (ops ++ [o])) ∧ (chCode m n (chAll (zerosL m n) ops) o.1 o.2 = 0 ∧ chRes m n (chAll (zerosL m n) ops) o.1 o.2 = chAll (zerosL m n) (ops ++ [o])) := by
  have hr := rose_all (rose_zero m n) hok hp
  have hw := within_mono (chAll_within (c := 1099511627776) (by omega) (b := 0) (Int.le_refl _) (within_zeros m n) hok) (c := 65970697666560) (by omega)
  have h2 := (hr.lea_own hm)
  have h3 : lea (chAll (zerosL m n) ops) o.1 ≤ 65970697666560 := by
    obtain ⟨r, v, hrm, hvn, hv, e⟩ := lea_is hr.sh hm
    rw [e]
    exact cel_within hr.sh hw hrm hvn
  have hf := fits_within (cols := o.1) (d := o.2) (c := 1099511627776) hw (by omega) (by omega) (by omega)
  have hf2 : Wid.fit64 (lea (rsAll (zerosL m n) ops) o.1 + o.2) = true := (Wid.fit64_yes (by omega) (by omega)).1
  rw [rsAll_one, chAll_one]
  exact ⟨rs_yes hm hd.1 hf2, ch_ok hm hf⟩
theorem rose_dims {m n : Nat} {ops : Ops} (hok : OpsOk m n 1099511627776 ops) (hp : Plus 1099511627776 ops) (hl : ops.length ≤ 60) : Within 65970697666560 (chAll (zerosL m n) ops) ∧ Within 65970697666560 (rsAll (zerosL m n) ops) := by
  have hr := rose_all (rose_zero m n) hok hp
  have hw := within_mono (chAll_within (c := 1099511627776) (by omega) (b := 0) (Int.le_refl _) (within_zeros m n) hok) (c := 65970697666560) (by omega)
  refine ⟨hw, fun row hrow v hv => ?_⟩
  obtain ⟨r, h1, rfl⟩ := List.mem_iff_getElem.1 hrow
  obtain ⟨c, h2, rfl⟩ := List.mem_iff_getElem.1 hv
  have h3 := hr.sg.2 _ (List.getElem_mem h1)
  have hrm : r < m := by rw [← hr.sg.1]; exact h1
  have hcn : c < n := by omega
  have e : cel (rsAll (zerosL m n) ops) r c = ((rsAll (zerosL m n) ops)[r])[c] := by
    unfold cel
    rw [List.getElem?_eq_getElem h1]
    simp only [Option.getD_some]
    rw [List.getElem?_eq_getElem h2]
    rfl
  have h4 := hr.nn r c hrm hcn
  have h5 := hr.le r c hrm hcn
  have h6 := cel_within hr.sh hw hrm hcn
  rw [← e]
  omega
theorem join_fits {m n : Nat} {A B : List (List Int)} (ha : Within 65970697666560 A) (hb : Within 65970697666560 B) : fitsAll (gridS 1 A B) = true := by
  unfold fitsAll
  refine List.all_eq_true.2 fun r hr => List.all_eq_true.2 fun x hx => ?_
  obtain ⟨a, h1, b, h2, rfl⟩ := mem_zip hr
  obtain ⟨u, h3, v, h4, rfl⟩ := mem_zip hx
  have := ha a h1 u h3
  have := hb b h2 v h4
  exact (Wid.fit64_yes (by omega) (by omega)).1
/-- Of one row: raised is added. -/
theorem one_row {n : Nat} {ops : Ops} {b : Int} (hok : OpsOk 1 n b ops) (hp : Plus b ops) : ∀ {L : List (List Int)}, Sz 1 n L → rsAll L ops = chAll L ops := by
  induction ops with
  | nil => intro L _; rfl
  | cons o ops ih =>
    intro L hL
    have hm := (hok o (by simp)).1
    have hd := (hp o (by simp)).1
    have e : raised L o.1 (lea L o.1 + o.2) = changed L o.1 o.2 := by
      refine sz_ext (sz_raised hL hm.2.1 _) (sz_changed hL hm.2.1 _) fun r c hr hc => ?_
      rw [cel_raised hL hm _ hr hc, cel_changed hL hm _ hr hc]
      by_cases e : o.1[r]? = some (c : Int)
      · rw [if_pos e, if_pos e]
        obtain ⟨r2, v, hr2, hvn, hv, e2⟩ := lea_is hL hm
        have : r2 = r := by omega
        subst this
        rw [e] at hv
        injection hv with hv
        have : c = v := by omega
        subst this
        omega
      · rw [if_neg e, if_neg e]
        omega
    have h2 := ih (fun p hq => hok p (by simp [hq])) (fun p hq => hp p (by simp [hq])) (sz_changed hL hm.2.1 o.2)
    show rsAll (raised L o.1 (lea L o.1 + o.2)) ops = chAll (changed L o.1 o.2) ops
    rw [e]
    exact h2
theorem zero_row {n : Nat} {L : List (List Int)} {cols : List Int} (hL : Sz 1 n L) (hm : Meets 1 n cols) : raised L cols (lea L cols + 0) = L := by
  refine sz_ext (sz_raised hL hm.2.1 _) hL fun r c hr hc => ?_
  rw [cel_raised hL hm _ hr hc]
  by_cases e : cols[r]? = some (c : Int)
  · rw [if_pos e]
    obtain ⟨r2, v, hr2, hvn, hv, e2⟩ := lea_is hL hm
    have : r2 = r := by omega
    subst this
    rw [e] at hv
    injection hv with hv
    have : c = v := by omega
    subst this
    omega
  · rw [if_neg e]
end Go.Proofs.YtiblpdjehknbcaaGreat.Con
/- The walk of the document's Raise. Printed by wip/gen/con.py. -/
namespace Go.Proofs.YtiblpdjehknbcaaGreat.Con
open Go Go.RowKit Lw Grd Lin
set_option linter.unusedVariables false
set_option linter.unusedSimpArgs false
theorem rlea_any (q : Addr) (F : Nat → Prop) (m n : Nat) (L : List (List Int)) (A : Option Addr) (N cap : Nat) (cols : List Int) (w : World) (h : DG w q F m n L) (hc : Rd .i64 w A cols) (hl : cols.length = N) (hN : N ≤ 1000) (hz : In64 cols) (hm : Meets m n cols) :
    Calls Tryz.prog 82 #[.pointer (some q), .slice A N cap] w fun e w' => e = .returned (.tuple #[.int .i64 (lea L cols), .int .i64 0]) ∧ Below w.heap.size w w' := by
  refine (rleast_any q F m n L A N cap cols w h hc hl hN hz).mono fun e w' ⟨he, hb⟩ => ?_
  have e1 : readOf m n L cols = named L cols := if_pos hm
  have e2 : rdCode m n cols = 0 := if_pos hm
  rw [e1, e2] at he
  exact ⟨he, hb⟩
theorem rlea_no (q : Addr) (F : Nat → Prop) (m n : Nat) (L : List (List Int)) (A : Option Addr) (N cap : Nat) (cols : List Int) (w : World) (h : DG w q F m n L) (hc : Rd .i64 w A cols) (hl : cols.length = N) (hN : N ≤ 1000) (hz : In64 cols) (hm : ¬ Meets m n cols) :
    Calls Tryz.prog 82 #[.pointer (some q), .slice A N cap] w fun e w' => e = .returned (.tuple #[.int .i64 0, .int .i64 1]) ∧ Below w.heap.size w w' := by
  refine (rleast_any q F m n L A N cap cols w h hc hl hN hz).mono fun e w' ⟨he, hb⟩ => ?_
  have e1 : readOf m n L cols = [] := if_neg hm
  have e2 : rdCode m n cols = 1 := if_neg hm
  rw [e1, e2, (Ord.kv_no (l := []) (k := _) (by simp)).1] at he
  exact ⟨he, hb⟩
set_option maxRecDepth 100000 in
set_option maxHeartbeats 8000000 in
theorem rraise_any (q : Addr) (F : Nat → Prop) (m n : Nat) (L : List (List Int)) (A : Option Addr) (N cap : Nat) (cols : List Int) (d : Int) (w : World) (h : DG w q F m n L) (hc : Rd .i64 w A cols) (hap : ∀ a, A = some a → ¬ F a.block) (hl : cols.length = N) (hN : N ≤ 1000) (hz : In64 cols) (d0 : -9223372036854775808 ≤ d) (d1 : d ≤ 9223372036854775807) :
    Calls Tryz.prog 73 #[.pointer (some q), .slice A N cap, .int .i64 d] w fun e w' => e = .returned (.int .i64 (rsCode m n L cols d)) ∧ ∃ G', DG w' q G' m n (rsRes m n L cols d) ∧ Kept F w w' ∧ (∀ k, G' k → F k ∨ w.heap.size ≤ k) := by
  have HH := Lib.hid h
  have hm8 := h.dims.m8
  have hn128 := h.dims.n128
  by_cases hme : Meets m n cols
  · have C := Lib.hid (rlea_any q F m n L A N cap cols w h hc hl hN hz hme)
    have hlb := lea_in (cols := cols) h.dims
    obtain ⟨y, hy⟩ : ∃ y, lea L cols = y := ⟨_, rfl⟩
    have HY := Lib.hid hy
    rw [hy] at C hlb
    clear hy
    by_cases hd0 : d < 0
    · have HO := Lib.hid (rs_neg (L := L) hme hd0)
      clear h hc hl hz hme hap
      go_enter Tryz.func73, Tryz.ntmps73
      go_wp2_with (go_at_call 82; (with_reducible refine C.out.mono ?_); rintro e w2 ⟨rfl, hb2⟩; have HB := Lib.hid hb2; clear hb2)
      go_ret
      exact ⟨ret_i HO.out.1.symm, F, HO.out.2.symm ▸ dg_up HH.out HB.out, Kept.of_below HB.out, fun k h => .inl h⟩
    · cases hf : Wid.fit64 (y + d) with
      | false =>
        have HO := Lib.hid (rs_over (L := L) (d := d) hme (by omega) (by rw [HY.out]; exact hf))
        clear h hc hl hz hme hap
        go_enter Tryz.func73, Tryz.ntmps73
        go_wp2_with (first
          | (go_at_call 71; (with_reducible refine (Wid.radd_any y d _ hlb.1 hlb.2 d0 d1).mono ?_); rintro e w3 ⟨rfl, hb3⟩; rw [hf]; have HB3 := Lib.hid hb3; clear hb3)
          | (go_at_call 82; (with_reducible refine C.out.mono ?_); rintro e w2 ⟨rfl, hb2⟩; have HB := Lib.hid hb2; clear hb2))
        go_ret
        have hbb := below_call HB.out HB3.out (Nat.le_refl _)
        exact ⟨ret_i HO.out.1.symm, F, HO.out.2.symm ▸ dg_up HH.out hbb, Kept.of_below hbb, fun k h => .inl h⟩
      | true =>
        have HO := Lib.hid (rs_yes (L := L) (d := d) hme (by omega) (by rw [HY.out]; exact hf))
        rw [HY.out] at HO
        have hfb := of_decide_eq_true hf
        have e64 : Wid.f64 (y + d) = y + d := if_pos hf
        have HE64 := Lib.hid e64
        have HF := Lib.hid hf
        obtain ⟨x, hx⟩ : ∃ x, y + d = x := ⟨_, rfl⟩
        have HX := Lib.hid hx
        rw [hx] at HO hfb
        have hNm : N = m := by rw [← hl]; exact hme.2.1
        subst hNm
        have HC := Lib.hid hc
        have HL := Lib.hid hl
        have HZ := Lib.hid hz
        have HAP := Lib.hid hap
        have HME := Lib.hid hme
        obtain ⟨b, hdr, R, rfl, hg, rfl, hG, hd⟩ := h
        have hRm : R.length = N := by rw [← nums_len]; exact hd.len
        have HD := Lib.hid hd
        have HR := Lib.hid hRm
        have HGF := Lib.hid hG
        have HCL : Hid (cols.length = (nums R).length) := Lib.hid (by rw [hl, hd.len])
        have HYL : Hid ((raised (nums R) cols x).length = N) := Lib.hid (by rw [raised_len x HCL.out, hd.len])
        have HG := Lib.hid hg
        have hAs : ∃ a, A = some a := hc.some_of (by have := hme.1; have := hme.2.1; omega)
        obtain ⟨a, rfl⟩ := hAs
        clear hc hz hg hG hme hd hl hap e64 hx hf hRm
        go_enter Tryz.func73, Tryz.ntmps73
        go_wp2_with (first
          | (go_at_call 71; (with_reducible refine (Wid.radd_any y d _ hlb.1 hlb.2 d0 d1).mono ?_); rintro e w3 ⟨rfl, hb3⟩; rw [HF.out, HE64.out, HX.out]; have HB3 := Lib.hid hb3; clear hb3)
          | (go_at_call 82; (with_reducible refine C.out.mono ?_); rintro e w2 ⟨rfl, hb2⟩; have HB := Lib.hid hb2; clear hb2))
        have HBB := Lib.hid (below_call HB.out HB3.out (Nat.le_refl _))
        have HW3 := Lib.hid (HG.out.keep (Kept.of_below (F := fun _ => False) HBB.out) (fun _ _ h => h))
        have HC3 := Lib.hid (HC.out.up HBB.out)
        go_loopw [11] (fun i wr => ∃ (j : Nat) (R2 : List Row), j ≤ N ∧ i = .int .i64 j ∧ RG wr b hdr R2 ∧ R2.length = R.length ∧ (∀ k, RF b hdr R2 k ↔ RF b hdr R k) ∧ nums R2 = upto2 (nums R) (raised (nums R) cols x) j ∧ Kept (RF b hdr R) w3 wr) (fun i _ => N - (intOf i).toNat)
        case atStart => exact ⟨0, R, Nat.zero_le _, rfl, HW3.out, rfl, fun x => Iff.rfl, (upto2_start _ _).symm, Kept.refl _ _⟩
        case round =>
          obtain ⟨j, R2, hj, rfl, hg2, hlen2, hrf2, hn2, hk2⟩ := hrel
          have HG2 := Lib.hid hg2
          have HRF := Lib.hid hrf2
          have HN2 := Lib.hid hn2
          have HK2 := Lib.hid hk2
          have HLE2 := Lib.hid hlen2
          by_cases hjl : j < N
          · obtain ⟨v, hv⟩ : ∃ v, cols[j]? = some v := ⟨_, List.getElem?_eq_getElem (by have := HL.out; omega)⟩
            obtain ⟨r, hr⟩ : ∃ r, R2[j]? = some r := ⟨_, List.getElem?_eq_getElem (by have := HR.out; omega)⟩
            have hjR : j < (nums R).length := by rw [HD.out.len]; exact hjl
            obtain ⟨r0, hr0⟩ : ∃ r0, (nums R)[j]? = some r0 := ⟨_, List.getElem?_eq_getElem hjR⟩
            have hr2 : r.2.2 = r0 := by
              have e3 := upto2_get (X := nums R) (Y := raised (nums R) cols x) HD.out.len HYL.out hjl
              rw [← hn2, hr0] at e3
              unfold nums at e3
              rw [List.getElem?_map, hr] at e3
              simpa using e3
            have hrl : r.2.2.length = n := by rw [hr2]; exact (HD.out.rows _ (List.mem_of_getElem? hr0)).1
            have hvb := HME.out.2.2 v (List.mem_of_getElem? hv)
            have hya := raised_at HD.out HME.out x hv
            obtain ⟨vn, rfl⟩ : ∃ vn : Nat, v = vn := ⟨v.toNat, by omega⟩
            obtain ⟨u, hu⟩ : ∃ u, r.2.2[vn]? = some u := ⟨_, List.getElem?_eq_getElem (by omega)⟩
            have hau : at2 (nums R) j vn = u := by
              unfold at2
              rw [if_neg (by omega), Int.toNat_natCast, hr0, ← hr2]
              simp [hu]
            rw [hau, hr0] at hya
            simp only [Option.map_some, Int.toNat_natCast] at hya
            have hrm := List.mem_of_getElem? hr
            have hcu := hg2.numAt hrm hu
            have hfz := (hg2.rows _ hrm).frozenAt (g := r.1) (cap := r.2.1) vn
            obtain ⟨A4, cap4, he4, _, _, hcell4⟩ := hg2.hd
            obtain ⟨ah, rfl, hcr⟩ := hcell4 j r hr
            have hb2 := cell_of_row _ b 0 _ _ _ hg2.cell
            simp only [List.getElem?_toArray, List.getElem?_cons_zero] at hb2
            rw [he4, hlen2, HR.out] at hb2
            have hkc : Rd .i64 wr (some a) cols := HC3.out.keep hk2 (fun a ha hF => HAP.out a ha ((HGF.out _).2 hF))
            have hcv := hkc.at hv
            have hub := (HD.out.rows _ (List.mem_of_getElem? hr0)).2.at (hr2 ▸ hu)
            have hadd : (⟨r.1, 0, none⟩ : Addr).add vn = ⟨r.1, vn, none⟩ := by rw [Ord.add_at, Nat.zero_add]
            have hput := hg2.put hr vn (max u x)
            have hkp : Kept (RF b hdr R) w3 (wr.setCell ⟨r.1, vn, none⟩ (.int .i64 (max u x))) := hk2.set (.inl ((hrf2 _).1 (.inr (.inr ⟨r, hrm, rfl⟩)))) _ _
            rw [← hadd] at hput hkp hfz
            have hnn : nums (set2 R2 j vn (max u x)) = upto2 (nums R) (raised (nums R) cols x) (j + 1) := by
              rw [nums_set2, hn2]
              exact upto2_mod (fun r => r.set vn (max u x)) HD.out.len HYL.out hr0 hya
            have hl2 : (set2 R2 j vn (max u x)).length = R.length := by rw [set2_len]; exact hlen2
            have HNN := Lib.hid hnn
            have HLL := Lib.hid hl2
            obtain ⟨gr, gc, zs⟩ := r
            unfold rowHd at hcr
            simp only at hcr hrl hcu hput hkp hfz
            rw [hrl] at hcr
            obtain ⟨gad, hgad⟩ : ∃ gad : Addr, (⟨gr, 0, none⟩ : Addr) = gad := ⟨_, rfl⟩
            rw [hgad] at hcr hcu hput hkp hfz
            clear hv hr hu hr0 hr2 hrl hrm hg2 hrf2 hn2 hk2 hlen2 hkc hnn hl2 hadd hjR hgad hcell4 hya hau he4
            rcases (show u < x ∨ x ≤ u by omega) with hux | hux
            · have hmax : max u x = x := by omega
              rw [hmax] at hput hkp HNN HLL
              have HPU := Lib.hid hput
              have HKP := Lib.hid hkp
              clear hput hkp hmax
              go_wp2
              go_region
              go_wp2
              go_roundw
              case rel => exact ⟨j + 1, _, by omega, by go_num, HPU.out.keep (Kept.of_below (F := fun _ => False) (Below.drew (Below.refl _ _))) (fun _ _ h => h), HLL.out, fun x => (RF_set2 x).trans (HRF.out x), HNN.out, HKP.out.drew⟩
              case measure => simp [intOf]; omega
            · have hmax : max u x = u := by omega
              rw [hmax] at hput hkp HNN HLL
              have HPU := Lib.hid hput
              have HKP := Lib.hid hkp
              clear hput hkp hmax
              go_wp2
              go_region
              go_wp2
              go_roundw
              case rel => exact ⟨j + 1, _, by omega, by go_num, HPU.out.keep (Kept.of_below (F := fun _ => False) (Below.drew (Below.refl _ _))) (fun _ _ h => h), HLL.out, fun x => (RF_set2 x).trans (HRF.out x), HNN.out, HKP.out.drew⟩
              case measure => simp [intOf]; omega
          · have e : j = N := by omega
            subst e
            have hfull : nums R2 = raised (nums R) cols x := by
              rw [hn2]
              exact upto2_end HD.out.len HYL.out
            have HFU := Lib.hid hfull
            clear hfull hg2 hrf2 hn2 hk2 hlen2
            go_wp2
            go_ret
            refine ⟨ret_i HO.out.1.symm, F, ?_, (Kept.of_below (F := F) HBB.out).trans HK2.out (fun x hx h => (HGF.out x).2 h), fun x h => .inl h⟩
            rw [HO.out.2]
            exact ⟨b, _, R2, rfl, HG2.out, HFU.out, fun x => (HGF.out x).trans (HRF.out x).symm, raised_dims HD.out HME.out (by omega) (by omega)⟩
  · have C := Lib.hid (rlea_no q F m n L A N cap cols w h hc hl hN hz hme)
    have HO := Lib.hid (rs_no (L := L) (d := d) hme)
    clear h hc hl hz hme hap
    go_enter Tryz.func73, Tryz.ntmps73
    go_wp2_with (go_at_call 82; (with_reducible refine C.out.mono ?_); rintro e w2 ⟨rfl, hb2⟩; have HB := Lib.hid hb2; clear hb2)
    go_ret
    exact ⟨ret_i HO.out.1.symm, F, HO.out.2.symm ▸ dg_up HH.out HB.out, Kept.of_below HB.out, fun k h => .inl h⟩
end Go.Proofs.YtiblpdjehknbcaaGreat.Con
/- What a sketch has, in numbers: its cells by what was added to keys; what keys have; what others have in a column. For stages from 10 on. -/
namespace Go.Proofs.YtiblpdjehknbcaaGreat.Sk
open Go Go.RowKit Lw Grd Lin Con Shp
set_option linter.unusedVariables false
/-- Rows and columns of a config. -/
def rws (c : Cfg) : Nat := c.rw.toNat
def wds (c : Cfg) : Nat := c.wd.toNat
theorem rws_bd {c : Cfg} (h : IsRight c) : 1 ≤ rws c ∧ rws c ≤ 8 ∧ ((rws c : Nat) : Int) = c.rw := by
  have h1 := h.2.2.1
  have h2 := h.2.2.2.1
  unfold rws
  omega
theorem wds_bd {c : Cfg} (h : IsRight c) : 1 ≤ wds c ∧ wds c ≤ 128 ∧ ((wds c : Nat) : Int) = c.wd := by
  have h1 := h.2.2.2.2.1
  have h2 := h.2.2.2.2.2.1
  unfold wds
  omega
theorem keys_right {c : Cfg} {l k : Int} (h0 : 0 ≤ k) (hk : k < keys c l) : IsRight c ∧ 0 ≤ l ∧ l ≤ c.bt := keys_pos.1 (by omega)
theorem cols_meet {c : Cfg} {l k : Int} (h0 : 0 ≤ k) (hk : k < keys c l) : Meets (rws c) (wds c) (cols c l k) := by
  have hr := (keys_right h0 hk).1
  have h1 := rws_bd hr
  have h2 := wds_bd hr
  refine ⟨h1.1, by rw [cols_len, if_pos hk]; rfl, fun v hv => ?_⟩
  rw [cols_yes hk] at hv
  obtain ⟨r, _, rfl⟩ := List.mem_map.1 hv
  have := col_range hr l k r
  omega
theorem cols_at {c : Cfg} {l k : Int} (hk : k < keys c l) {r : Nat} (hr : r < rws c) : (cols c l k)[r]? = some (col c l k r) := by
  rw [cols_yes hk, List.getElem?_map]
  have : (List.range c.rw.toNat)[r]? = some r := List.getElem?_range hr
  rw [this]
  rfl
/-- Updates: keys and what is added. -/
abbrev Ups := List (Int × Int)
def opsU (c : Cfg) (l : Int) (us : Ups) : Ops := us.map (fun u => (cols c l u.1, u.2))
def UpsOk (c : Cfg) (l : Int) (b : Int) (us : Ups) : Prop := ∀ u ∈ us, 0 ≤ u.1 ∧ u.1 < keys c l ∧ -b ≤ u.2 ∧ u.2 ≤ b
theorem opsU_ok {c : Cfg} {l b : Int} {us : Ups} (h : UpsOk c l b us) : OpsOk (rws c) (wds c) b (opsU c l us) := by
  intro o ho
  unfold opsU at ho
  obtain ⟨u, hu, rfl⟩ := List.mem_map.1 ho
  have h2 := h u hu
  exact ⟨cols_meet h2.1 h2.2.1, h2.2.2⟩
theorem opsU_len (c : Cfg) (l : Int) (us : Ups) : (opsU c l us).length = us.length := by simp [opsU]
theorem opsU_app (c : Cfg) (l : Int) (us vs : Ups) : opsU c l (us ++ vs) = opsU c l us ++ opsU c l vs := by simp [opsU]
/-- What a key has. -/
def hasK (k : Int) : Ups → Int
  | [] => 0
  | u :: us => (if u.1 = k then u.2 else 0) + hasK k us
/-- What others have in its column of a row. -/
def othK (c : Cfg) (l k : Int) (r : Nat) : Ups → Int
  | [] => 0
  | u :: us => (if u.1 ≠ k ∧ col c l u.1 r = col c l k r then u.2 else 0) + othK c l k r us
theorem hasK_app (k : Int) : ∀ a b : Ups, hasK k (a ++ b) = hasK k a + hasK k b
  | [], b => by simp [hasK]
  | u :: a, b => by simp only [List.cons_append, hasK, hasK_app k a b]; omega
theorem othK_app (c : Cfg) (l k : Int) (r : Nat) : ∀ a b : Ups, othK c l k r (a ++ b) = othK c l k r a + othK c l k r b
  | [], b => by simp [othK]
  | u :: a, b => by simp only [List.cons_append, othK, othK_app c l k r a b]; omega
theorem hit_key {c : Cfg} {l k b : Int} {r v : Nat} (hr : r < rws c) (hv : col c l k r = v) : ∀ {us : Ups}, UpsOk c l b us → hit (opsU c l us) r v = hasK k us + othK c l k r us
  | [], _ => by simp [hit, opsU, hasK, othK]
  | u :: us, h => by
    have ih := hit_key hr hv (us := us) (fun p hp => h p (by simp [hp]))
    have hu := h u (by simp)
    have e : opsU c l (u :: us) = (cols c l u.1, u.2) :: opsU c l us := rfl
    rw [e]
    simp only [hit, hasK, othK, ih, cols_at hu.2.1 hr, ← hv]
    by_cases h1 : u.1 = k
    · rw [h1]
      simp
      omega
    · by_cases h2 : col c l u.1 r = col c l k r
      · simp [h1, h2]
        omega
      · simp [h1, h2]
/-- The numbers of a key's cells: what it has, and what others have there. -/
theorem named_key {c : Cfg} {l k b : Int} {us : Ups} (h : UpsOk c l b us) (k0 : 0 ≤ k) (hk : k < keys c l) {r : Nat} (hr : r < rws c) :
    (named (chAll (zerosL (rws c) (wds c)) (opsU c l us)) (cols c l k))[r]? = some (hasK k us + othK c l k r us) := by
  have hok := opsU_ok h
  have hm := cols_meet k0 hk
  have hsz := chAll_sz (sz_zeros (rws c) (wds c)) hok
  have hrt := (keys_right k0 hk).1
  have h2 := col_range hrt l k r
  have h3 := wds_bd hrt
  obtain ⟨v, hv⟩ : ∃ v : Nat, col c l k r = v := ⟨(col c l k r).toNat, by omega⟩
  have hvn : v < wds c := by omega
  rw [named_cel hsz hm hr (by rw [cols_at hk hr, hv]), chAll_cel hr hvn (sz_zeros _ _) hok, cel_zeros, hit_key hr hv h]
  congr 1
  omega
theorem named_klen {c : Cfg} {l k : Int} {L : List (List Int)} (hL : L.length = rws c) (k0 : 0 ≤ k) (hk : k < keys c l) : (named L (cols c l k)).length = rws c := by
  rw [named_len (by rw [(cols_meet k0 hk).2.1, hL]), hL]
/-- The least sum of what others have in a row. -/
theorem lea_key {c : Cfg} {l k b x : Int} {us : Ups} (h : UpsOk c l b us) (k0 : 0 ≤ k) (hk : k < keys c l) {r0 : Nat} (hr0 : r0 < rws c) (hx : othK c l k r0 us = x) (hl : ∀ r, r < rws c → x ≤ othK c l k r us) :
    lea (chAll (zerosL (rws c) (wds c)) (opsU c l us)) (cols c l k) = hasK k us + x := by
  have hsz := chAll_sz (sz_zeros (rws c) (wds c)) (opsU_ok h)
  have hlen := named_klen hsz.1 k0 hk
  unfold lea
  rw [(Ord.kv_yes (k := 0) (by omega) (by rw [hlen]; omega)).1]
  refine (Ord.least_eq _ _ ?_ ?_).symm
  · rw [← hx]
    exact List.mem_of_getElem? (named_key h k0 hk hr0)
  · intro y hy
    obtain ⟨r, hr, e⟩ := List.mem_iff_getElem.1 hy
    have e2 := named_key h k0 hk (r := r) (by omega)
    rw [List.getElem?_eq_getElem hr, e] at e2
    injection e2 with e2
    have := hl r (by omega)
    omega
/-! ### Where no key has less than 0 -/
theorem hasK_filter (k q : Int) (hkq : k ≠ q) : ∀ us : Ups, hasK k (us.filter (fun u => u.1 ≠ q)) = hasK k us
  | [] => rfl
  | u :: us => by
    have ih := hasK_filter k q hkq us
    by_cases h : u.1 = q
    · rw [List.filter_cons_of_neg (by simp [h]), ih]
      simp only [hasK]
      rw [if_neg (by omega)]
      omega
    · rw [List.filter_cons_of_pos (by simp [h])]
      simp only [hasK, ih]
theorem othK_filter (c : Cfg) (l k : Int) (r : Nat) (q : Int) (hq : q ≠ k) (hc : col c l q r = col c l k r) : ∀ us : Ups, othK c l k r us = hasK q us + othK c l k r (us.filter (fun u => u.1 ≠ q))
  | [] => rfl
  | u :: us => by
    have ih := othK_filter c l k r q hq hc us
    by_cases h : u.1 = q
    · rw [List.filter_cons_of_neg (by simp [h])]
      simp only [othK, hasK, ih]
      rw [if_pos ⟨by rw [h]; exact hq, by rw [h]; exact hc⟩, if_pos h]
      omega
    · rw [List.filter_cons_of_pos (by simp [h])]
      simp only [othK, hasK, ih]
      rw [if_neg h]
      omega
theorem othK_skip (c : Cfg) (l k : Int) (r : Nat) (q : Int) (hq : ¬ (q ≠ k ∧ col c l q r = col c l k r)) : ∀ us : Ups, othK c l k r us = othK c l k r (us.filter (fun u => u.1 ≠ q))
  | [] => rfl
  | u :: us => by
    have ih := othK_skip c l k r q hq us
    by_cases h : u.1 = q
    · rw [List.filter_cons_of_neg (by simp [h])]
      simp only [othK, ih]
      rw [if_neg (by rw [h]; exact hq)]
      omega
    · rw [List.filter_cons_of_pos (by simp [h])]
      simp only [othK, ih]
theorem othK_nn (c : Cfg) (l k : Int) (r : Nat) : ∀ (n : Nat) (us : Ups), us.length ≤ n → (∀ u ∈ us, 0 ≤ hasK u.1 us) → 0 ≤ othK c l k r us
  | _, [], _, _ => by simp [othK]
  | 0, u :: us, h, _ => by simp at h
  | n + 1, u :: us, h, hn => by
    have hlen : ((u :: us).filter (fun v => v.1 ≠ u.1)).length ≤ n := by
      rw [List.filter_cons_of_neg (by simp)]
      have := List.length_filter_le (fun v : Int × Int => decide (v.1 ≠ u.1)) us
      simp at h
      omega
    have hf : ∀ v ∈ (u :: us).filter (fun v => v.1 ≠ u.1), 0 ≤ hasK v.1 ((u :: us).filter (fun v => v.1 ≠ u.1)) := by
      intro v hv
      obtain ⟨h1, h2⟩ := List.mem_filter.1 hv
      rw [hasK_filter v.1 u.1 (by simpa using h2)]
      exact hn v h1
    have ih := othK_nn c l k r n _ hlen hf
    by_cases hq : u.1 ≠ k ∧ col c l u.1 r = col c l k r
    · rw [othK_filter c l k r u.1 hq.1 hq.2]
      have := hn u (by simp)
      omega
    · rw [othK_skip c l k r u.1 hq]
      exact ih
/-- By key, or by columns. -/
theorem hasK_own {c : Cfg} {l k b : Int} : ∀ {us : Ups}, UpsOk c l b us → (∀ u ∈ us, 0 ≤ u.2) → hasK k us ≤ Lin.own (cols c l k) (opsU c l us)
  | [], _, _ => by simp [hasK, opsU, Lin.own]
  | u :: us, h, hp => by
    have ih := hasK_own (k := k) (us := us) (fun p hq => h p (by simp [hq])) (fun p hq => hp p (by simp [hq]))
    have e : opsU c l (u :: us) = (cols c l u.1, u.2) :: opsU c l us := rfl
    have hu := hp u (by simp)
    rw [e]
    simp only [hasK, Lin.own]
    by_cases h1 : u.1 = k
    · rw [if_pos h1, if_pos (by rw [h1])]
      omega
    · rw [if_neg h1]
      split <;> omega
theorem hasK_bd {k b : Int} (hb : 0 ≤ b) : ∀ {us : Ups}, (∀ u ∈ us, -b ≤ u.2 ∧ u.2 ≤ b) → -(us.length * b) ≤ hasK k us ∧ hasK k us ≤ us.length * b
  | [], _ => by simp [hasK]
  | u :: us, h => by
    have ih := hasK_bd hb (k := k) (us := us) (fun p hp => h p (by simp [hp]))
    have h1 := h u (by simp)
    have e1 : ((u :: us).length : Int) * b = (us.length : Int) * b + b := by
      have e1 : ((u :: us).length : Int) = (us.length : Int) + 1 := by simp
      rw [e1, Int.add_mul, Int.one_mul]
    rw [e1]
    simp only [hasK]
    split <;> omega
theorem othK_bd {c : Cfg} {l k b : Int} {r : Nat} (hb : 0 ≤ b) : ∀ {us : Ups}, (∀ u ∈ us, -b ≤ u.2 ∧ u.2 ≤ b) → -(us.length * b) ≤ othK c l k r us ∧ othK c l k r us ≤ us.length * b
  | [], _ => by simp [othK]
  | u :: us, h => by
    have ih := othK_bd hb (c := c) (l := l) (k := k) (r := r) (us := us) (fun p hp => h p (by simp [hp]))
    have h1 := h u (by simp)
    have e1 : ((u :: us).length : Int) * b = (us.length : Int) * b + b := by
      have e1 : ((u :: us).length : Int) = (us.length : Int) + 1 := by simp
      rw [e1, Int.add_mul, Int.one_mul]
    rw [e1]
    simp only [othK]
    split <;> omega
theorem hasK_next {k : Int} {us : Ups} {j : Nat} {u : Int × Int} (h : us[j]? = some u) : hasK k (us.take (j + 1)) = hasK k (us.take j) + (if u.1 = k then u.2 else 0) := by
  obtain ⟨h1, h2⟩ := List.getElem?_eq_some_iff.1 h
  rw [List.take_succ_eq_append_getElem h1, hasK_app, h2]
  simp [hasK]
theorem othK_next {c : Cfg} {l k : Int} {r : Nat} {us : Ups} {j : Nat} {u : Int × Int} (h : us[j]? = some u) : othK c l k r (us.take (j + 1)) = othK c l k r (us.take j) + (if u.1 ≠ k ∧ col c l u.1 r = col c l k r then u.2 else 0) := by
  obtain ⟨h1, h2⟩ := List.getElem?_eq_some_iff.1 h
  rw [List.take_succ_eq_append_getElem h1, othK_app, h2]
  simp [othK]
end Go.Proofs.YtiblpdjehknbcaaGreat.Sk
/- What a sketch's calls answer, in numbers. For stages from 10 on. -/
namespace Go.Proofs.YtiblpdjehknbcaaGreat.Sk
open Go Go.RowKit Lw Grd Lin Con Shp
set_option linter.unusedVariables false
def upCode (c : Cfg) (l : Int) (L : List (List Int)) (k d : Int) : Int :=
  if keys c l ≤ k then 2 else if c.md = 2 then rsCode (rws c) (wds c) L (cols c l k) d else chCode (rws c) (wds c) L (cols c l k) d
def upRes (c : Cfg) (l : Int) (L : List (List Int)) (k d : Int) : List (List Int) :=
  if keys c l ≤ k then L else if c.md = 2 then rsRes (rws c) (wds c) L (cols c l k) d else chRes (rws c) (wds c) L (cols c l k) d
def ptVal (c : Cfg) (l : Int) (L : List (List Int)) (k : Int) : Int :=
  if keys c l ≤ k then 0 else if c.md = 3 then Ord.kv (named L (cols c l k)) ((((named L (cols c l k)).length : Int) - 1) / 2) else lea L (cols c l k)
def ptCode (c : Cfg) (l k : Int) : Int := if keys c l ≤ k then 2 else 0
def cfgE (c d : Cfg) : Bool := decide (c.bt = d.bt ∧ c.rw = d.rw ∧ c.wd = d.wd ∧ c.md = d.md ∧ c.sd = d.sd)
/-- s: 1 for Merge, -1 for Subtract. -/
def mgCode (s : Int) (c d : Cfg) (l l' : Int) (L M : List (List Int)) : Int :=
  if cfgE c d = true ∧ l = l' then (if s = -1 ∧ c.md = 2 then 3 else jcode s (rws c) (wds c) (rws c) (wds c) L M) else 5
def mgRes (s : Int) (c d : Cfg) (l l' : Int) (L M : List (List Int)) : List (List Int) :=
  if cfgE c d = true ∧ l = l' then (if s = -1 ∧ c.md = 2 then L else jres s (rws c) (wds c) (rws c) (wds c) L M) else L
/-- An update, cut. -/
def cutU (c : Cfg) (l : Int) (u : Int × Int) : Int × Int := (u.1 % keys c l, dv (decide (c.md = 2)) u.2)
theorem cutU_ok {c : Cfg} {l : Int} (hk : 1 ≤ keys c l) (u : Int × Int) : 0 ≤ (cutU c l u).1 ∧ (cutU c l u).1 < keys c l ∧ -1099511627776 ≤ (cutU c l u).2 ∧ (cutU c l u).2 ≤ 1099511627776 ∧ (c.md = 2 → 0 ≤ (cutU c l u).2) := by
  refine ⟨Int.emod_nonneg _ (by omega), Int.emod_lt_of_pos _ (by omega), (dv_bd _ _).1, (dv_bd _ _).2, fun h => ?_⟩
  unfold cutU
  simp only [h, decide_true]
  exact dv_plain _
/-- The cells behind updates, from noughts on. -/
def cells (c : Cfg) (l : Int) (us : Ups) : List (List Int) := if c.md = 2 then rsAll (zerosL (rws c) (wds c)) (opsU c l us) else chAll (zerosL (rws c) (wds c)) (opsU c l us)
def UpsIn (c : Cfg) (l : Int) (us : Ups) : Prop := UpsOk c l 1099511627776 us ∧ (c.md = 2 → ∀ u ∈ us, 0 ≤ u.2)
theorem upsIn_cut {c : Cfg} {l : Int} (hk : 1 ≤ keys c l) (us : Ups) : UpsIn c l (us.map (cutU c l)) := by
  refine ⟨fun u hu => ?_, fun hm u hu => ?_⟩
  · obtain ⟨v, _, rfl⟩ := List.mem_map.1 hu
    have := cutU_ok hk v
    exact ⟨this.1, this.2.1, this.2.2.1, this.2.2.2.1⟩
  · obtain ⟨v, _, rfl⟩ := List.mem_map.1 hu
    exact (cutU_ok hk v).2.2.2.2 hm
theorem cells_nil (c : Cfg) (l : Int) : cells c l [] = zerosL (rws c) (wds c) := by unfold cells opsU; split <;> rfl
theorem plus_of {c : Cfg} {l : Int} {us : Ups} (h : UpsIn c l us) (hm : c.md = 2) : Plus 1099511627776 (opsU c l us) := by
  intro o ho
  unfold opsU at ho
  obtain ⟨u, hu, rfl⟩ := List.mem_map.1 ho
  exact ⟨h.2 hm u hu, (h.1 u hu).2.2.2⟩
/-- In the midst of sixty updates: the next one is done. -/
theorem up_ok {c : Cfg} {l : Int} (hr : IsRight c) {us : Ups} (h : UpsIn c l us) (hl : us.length ≤ 60) {u : Int × Int} (hu : UpsIn c l [u]) :
    upCode c l (cells c l us) u.1 u.2 = 0 ∧ upRes c l (cells c l us) u.1 u.2 = cells c l (us ++ [u]) := by
  have h1 := hu.1 u (by simp)
  have hm := cols_meet h1.1 h1.2.1
  have hok := opsU_ok h.1
  have hlen := opsU_len c l us
  have hw := rws_bd hr
  have hv := wds_bd hr
  unfold upCode upRes cells
  have hk : ¬ keys c l ≤ u.1 := by omega
  simp only [if_neg hk, opsU_app]
  by_cases h2 : c.md = 2
  · simp only [if_pos h2]
    exact (both_ok hok (plus_of h h2) (by omega) (by omega) (by omega) (o := (cols c l u.1, u.2)) hm ⟨hu.2 h2 u (by simp), h1.2.2.2⟩).1
  · simp only [if_neg h2]
    have hwi := chAll_within (c := 1099511627776) (by omega) (b := 0) (Int.le_refl _) (within_zeros (rws c) (wds c)) hok
    have hf := fits_within (cols := cols c l u.1) (d := u.2) (within_mono hwi (c := 65970697666560) (by omega)) (by omega) h1.2.2 (by omega)
    have e : opsU c l [u] = [(cols c l u.1, u.2)] := rfl
    rw [e, chAll_one]
    exact ch_ok hm hf
end Go.Proofs.YtiblpdjehknbcaaGreat.Sk
