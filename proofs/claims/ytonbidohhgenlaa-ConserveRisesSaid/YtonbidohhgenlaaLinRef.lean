/- The walks of the document's own answers for layer 8. Printed by wip/gen/lin.py. -/
import Derived.Test.YtonbidohhgenlaaLinDef
import Derived.Test.YtonbidohhgenlaaGrdDoc
import Derived.Test.YtonbidohhgenlaaOrdRef
import Derived.Deep.LoopGhost
import Derived.Deep.RegionHeld3
import Derived.Deep.QuietTactic
import Derived.BigQuiet
import Derived.WalkSpells
namespace Go.Proofs.Ytonbidohhgenlaa.Lin
open Go Go.RowKit Lw Grd
set_option linter.unusedVariables false
set_option linter.unusedSimpArgs false
set_option maxRecDepth 100000 in
set_option maxHeartbeats 2000000 in
theorem rmeet_any (q : Addr) (F : Nat → Prop) (m n : Nat) (L : List (List Int)) (A : Option Addr) (N cap : Nat) (cols : List Int) (w : World) (h : DG w q F m n L) (hc : Rd .i64 w A cols) (hl : cols.length = N) (hN : N ≤ 1000) (hz : In64 cols) :
    Calls Try.prog 51 #[.pointer (some q), .slice A N cap] w fun e w' => e = .returned (.bool (meetB m n cols)) ∧ Below w.heap.size w w' := by
  obtain ⟨b, hdr, R, rfl, hg, rfl, hG, hd⟩ := h
  have hRm : R.length = m := by rw [← nums_len]; exact hd.len
  have hm8 := hd.m8
  have hn128 := hd.n128
  obtain ⟨Ah, caph, rfl, hcaph, hAh, hcell⟩ := hg.hd
  have hb : w.cell? ⟨b, 0, none⟩ = some (.slice Ah R.length caph) := cell_of_row w b 0 _ _ _ hg.cell
  have HC := Lib.hid hc
  have HL := Lib.hid hl
  have HZ := Lib.hid hz
  have HCE := Lib.hid hcell
  have HD := Lib.hid hd
  have HR := Lib.hid hRm
  rw [hRm] at hb
  clear hc hz hcell hAh hg hG hcaph
  by_cases h0 : m = 0
  · have hr : meetB m n cols = false := decide_eq_false (fun h => by have := h.1; omega)
    subst h0
    clear hd hRm hl
    go_enter Try.func51, Try.ntmps51
    go_wp2
    go_ret
    exact ⟨ret_b hr.symm, Below.refl _ _⟩
  · have hm0 : ((m : Int) == 0) = false := by simp; omega
    by_cases h1 : N = m
    · subst h1
      have HR2 := HR
      clear hd hRm hl
      go_enter Try.func51, Try.ntmps51
      go_wp2
      go_loopw [5] (fun i wr => ∃ k d : Nat, k ≤ N ∧ i = .int .i64 k ∧ (∀ v ∈ cols.take k, 0 ≤ v ∧ v < n) ∧ wr = w.drewN d) (fun i _ => N - (intOf i).toNat)
      case atStart => exact ⟨0, 0, Nat.zero_le _, rfl, fun v hv => by simp at hv, rfl⟩
      case round =>
        obtain ⟨k, d, hk, rfl, hall, rfl⟩ := hrel
        have HA := Lib.hid hall
        clear hall
        by_cases hlt : k < N
        · have hkl : k < cols.length := by have := HL.out; omega
          obtain ⟨v, hv⟩ : ∃ v, cols[k]? = some v := ⟨_, List.getElem?_eq_getElem hkl⟩
          obtain ⟨r, hr⟩ : ∃ r, R[k]? = some r := ⟨_, List.getElem?_eq_getElem (by have := HR.out; omega)⟩
          obtain ⟨ad, rfl, hcv⟩ := HC.out k v hv
          obtain ⟨ah, rfl, hcr⟩ := HCE.out k r hr
          have hrl : r.2.2.length = n := (HD.out.rows _ (nums_mem (List.mem_of_getElem? hr))).1
          have hvz := HZ.out.at hv
          have HNO : ∀ (_ : v < 0 ∨ (n : Int) ≤ v), meetB N n cols = false := fun h => decide_eq_false (fun hm => by have := hm.2.2 v (List.mem_of_getElem? hv); omega)
          have HNX : Hid (∀ u ∈ cols.take (k + 1), (0 ≤ v ∧ v < n) → 0 ≤ u ∧ u < n) := Lib.hid (fun u hu hb => by
            rw [Ord.take_next cols k v hv] at hu
            rcases List.mem_append.1 hu with h | h
            · exact HA.out u h
            · simp at h; subst h; exact hb)
          obtain ⟨gr, gc, zs⟩ := r
          unfold rowHd at hcr
          simp only at hcr hrl
          rw [hrl] at hcr
          have HNO := Lib.hid HNO
          clear hv hr hrl
          by_cases c1 : v < 0
          · have HF := Lib.hid (HNO.out (.inl c1))
            go_wp2
            go_quiet (fail)
            go_wp2
            go_ret
            exact ⟨ret_b HF.out.symm, by (repeat' (first | (with_reducible exact Below.refl _ _) | (with_reducible assumption) | (with_reducible refine below_over ?_ _ _) | (with_reducible refine Lw.below_alloc ?_ _) | (with_reducible refine Below.drew ?_) | (with_reducible refine below_drewN ?_ _) | (with_reducible refine Below.setCell ?_ ?_ _) | go_size))⟩
          · by_cases c2 : (n : Int) ≤ v
            · have HF := Lib.hid (HNO.out (.inr c2))
              go_wp2
              go_quiet (fail)
              go_wp2
              go_ret
              exact ⟨ret_b HF.out.symm, by (repeat' (first | (with_reducible exact Below.refl _ _) | (with_reducible assumption) | (with_reducible refine below_over ?_ _ _) | (with_reducible refine Lw.below_alloc ?_ _) | (with_reducible refine Below.drew ?_) | (with_reducible refine below_drewN ?_ _) | (with_reducible refine Below.setCell ?_ ?_ _) | go_size))⟩
            · go_wp2
              go_quiet (fail)
              go_wp2
              go_roundw
              case rel => exact ⟨k + 1, _, by omega, by go_num, fun u hu => HNX.out u hu ⟨by omega, by omega⟩, rfl⟩
              case measure => simp [intOf]; omega
        · have e : k = N := by omega
          subst e
          have HT : Hid (meetB k n cols = true) := Lib.hid (decide_eq_true ⟨by omega, HL.out, fun v hv => HA.out v (by rw [List.take_of_length_le (by have := HL.out; omega)]; exact hv)⟩)
          go_wp2
          go_ret
          exact ⟨ret_b HT.out.symm, by (repeat' (first | (with_reducible exact Below.refl _ _) | (with_reducible assumption) | (with_reducible refine below_over ?_ _ _) | (with_reducible refine Lw.below_alloc ?_ _) | (with_reducible refine Below.drew ?_) | (with_reducible refine below_drewN ?_ _) | (with_reducible refine Below.setCell ?_ ?_ _) | go_size))⟩
    · have hr : meetB m n cols = false := decide_eq_false (fun h => h1 (by rw [← h.2.1]; exact hl.symm))
      have hne : ((N : Int) == m) = false := by simp; omega
      have hne2 : ((N : Int) != m) = true := by simp; omega
      clear hd hRm hl
      go_enter Try.func51, Try.ntmps51
      go_wp2
      go_ret
      exact ⟨ret_b hr.symm, Below.refl _ _⟩
theorem ret_ri {A : Option Addr} {n c : Nat} {x y : Int} (h : x = y) : Ending.returned (.tuple #[.slice A n c, .int .i64 x]) = .returned (.tuple #[.slice A n c, .int .i64 y]) := by rw [h]
theorem dg_up {w w' : World} {q : Addr} {F : Nat → Prop} {m n : Nat} {L : List (List Int)} (h : DG w q F m n L) (hb : Below w.heap.size w w') : DG w' q F m n L := (dgT q F m n L).keep w w' (fun _ => False) h (Kept.of_below hb) (fun _ _ h => h)
theorem own_up {w w' : World} {B : Nat} {e : TypeId} {v : Value} {n : Nat} {xs : List Value} (h : w.ownsRow B e 1 v n xs) (hb : Below w.heap.size w w') : w'.ownsRow B e 1 v n xs := (Kept.of_below (F := fun _ => False) hb).own h (fun _ _ h => h)
set_option maxRecDepth 100000 in
set_option maxHeartbeats 4000000 in
theorem rread_any (q : Addr) (F : Nat → Prop) (m n : Nat) (L : List (List Int)) (A : Option Addr) (N cap : Nat) (cols : List Int) (w : World) (h : DG w q F m n L) (hc : Rd .i64 w A cols) (hl : cols.length = N) (hN : N ≤ 1000) (hz : In64 cols) :
    Calls Try.prog 41 #[.pointer (some q), .slice A N cap] w fun e w' => ∃ (A2 : Addr) (len cap2 : Nat), e = .returned (.tuple #[.slice (some A2) len cap2, .int .i64 (rdCode m n cols)]) ∧ Rd .i64 w' (some A2) (readOf m n L cols) ∧ (readOf m n L cols).length = len ∧ len ≤ cap2 ∧ cap2 ≤ maxLen ∧ Below w.heap.size w w' := by
  obtain ⟨i0, hi, hz0, hz1, hz2⟩ := info_parts i64_info
  have HH := Lib.hid h
  have hm8 := h.dims.m8
  have hn128 := h.dims.n128
  have HC := Lib.hid hc
  have HL := Lib.hid hl
  have HZ := Lib.hid hz
  by_cases hme : Meets m n cols
  · have e1 : meetB m n cols = true := decide_eq_true hme
    have hNm : N = m := by rw [← hl]; exact hme.2.1
    subst hNm
    have HME := Lib.hid hme
    have HCD : Hid (rdCode N n cols = 0) := Lib.hid (if_pos hme)
    have HRE : Hid (readOf N n L cols = named L cols) := Lib.hid (if_pos hme)
    obtain ⟨b, hdr, R, rfl, hg, rfl, hG, hd⟩ := h
    have hRm : R.length = N := by rw [← nums_len]; exact hd.len
    have HD := Lib.hid hd
    have HR := Lib.hid hRm
    obtain ⟨Ah, caph, rfl, hcaph, hAh, hcell⟩ := hg.hd
    have hb := cell_of_row w b 0 _ _ _ hg.cell
    simp only [List.getElem?_toArray, List.getElem?_cons_zero] at hb
    rw [hRm] at hb
    have HBH := Lib.hid hb
    have HCE := Lib.hid hcell
    have HG := Lib.hid hg
    clear hc hz hcell hAh hg hG hcaph hme hd hRm hl hb
    go_enter Try.func41, Try.ntmps41
    go_wp2_with (go_at_call 51; (with_reducible refine (rmeet_any _ F N n (nums R) A N cap cols _ (dg_up HH.out (by repeat' (first | (with_reducible exact Below.refl _ _) | (with_reducible assumption) | (with_reducible refine below_over ?_ _ _) | (with_reducible refine Lw.below_alloc ?_ _) | (with_reducible refine Below.drew ?_) | (with_reducible refine below_drewN ?_ _) | (with_reducible refine Below.setCell ?_ ?_ _) | go_size))) (HC.out.up (by repeat' (first | (with_reducible exact Below.refl _ _) | (with_reducible assumption) | (with_reducible refine below_over ?_ _ _) | (with_reducible refine Lw.below_alloc ?_ _) | (with_reducible refine Below.drew ?_) | (with_reducible refine below_drewN ?_ _) | (with_reducible refine Below.setCell ?_ ?_ _) | go_size))) HL.out hN HZ.out).mono ?_); rintro e w2 ⟨rfl, hb2⟩; have HBW : Hid (Below w.heap.size w w2) := Lib.hid (below_call (by repeat' (first | (with_reducible exact Below.refl _ _) | (with_reducible assumption) | (with_reducible refine below_over ?_ _ _) | (with_reducible refine Lw.below_alloc ?_ _) | (with_reducible refine Below.drew ?_) | (with_reducible refine below_drewN ?_ _) | (with_reducible refine Below.setCell ?_ ?_ _) | go_size)) hb2 (Nat.le_refl _)); have HOW2 : Hid (w2.ownsRow w.heap.size 2 1 (.slice (some ⟨w.heap.size, 0, none⟩) 0 0) 0 (([] : List Int).map (Value.int .i64))) := Lib.hid (own_up (own_empty w _ 1 _ (Nat.le_refl _)) hb2); clear hb2)
    go_loopw [6, 7] (fun v i wr => ∃ (k : Nat) (A1 : Addr) (cp : Nat), k ≤ N ∧ i = .int .i64 k ∧ v = .slice (some A1) k cp ∧ wr.ownsRow w.heap.size 2 1 v k ((named ((nums R).take k) (cols.take k)).map (Value.int .i64)) ∧ Below w.heap.size w wr) (fun _ i _ => N - (intOf i).toNat)
    case atStart => exact ⟨0, ⟨w.heap.size, 0, none⟩, 0, Nat.zero_le _, rfl, rfl, HOW2.out, HBW.out⟩
    case round =>
      obtain ⟨k, A1, cp, hk, rfl, rfl, hown, hbel⟩ := hrel
      have HOW := Lib.hid hown
      have HBL := Lib.hid hbel
      by_cases hlt : k < N
      · obtain ⟨v, hv⟩ : ∃ v, cols[k]? = some v := ⟨_, List.getElem?_eq_getElem (by have := HL.out; omega)⟩
        obtain ⟨r, hr⟩ : ∃ r, R[k]? = some r := ⟨_, List.getElem?_eq_getElem (by have := HR.out; omega)⟩
        obtain ⟨ad, rfl, hcv⟩ := HC.out k v hv
        obtain ⟨ah, rfl, hcr⟩ := HCE.out k r hr
        have hrl : r.2.2.length = n := (HD.out.rows _ (nums_mem (List.mem_of_getElem? hr))).1
        have hrz := (HD.out.rows _ (nums_mem (List.mem_of_getElem? hr))).2
        have hvb := HME.out.2.2 v (List.mem_of_getElem? hv)
        obtain ⟨vn, rfl⟩ : ∃ vn : Nat, v = vn := ⟨v.toNat, by omega⟩
        obtain ⟨x, hx⟩ : ∃ x, r.2.2[vn]? = some x := ⟨_, List.getElem?_eq_getElem (by omega)⟩
        have hcx := HG.out.numAt (List.mem_of_getElem? hr) hx
        have hxb := hrz.at hx
        have HNX := Lib.hid (named_next (nums R) cols k r.2.2 vn (by unfold nums; rw [List.getElem?_map, hr]; rfl) hv)
        have hget : r.2.2[(vn : Int).toNat]?.getD 0 = x := by rw [show (vn : Int).toNat = vn from rfl, hx]; rfl
        rw [hget] at HNX
        obtain ⟨gr, gc, zs⟩ := r
        unfold rowHd at hcr
        simp only at hcr hrl hcx
        rw [hrl] at hcr
        obtain ⟨gad, hgad⟩ : ∃ gad : Addr, (⟨gr, 0, none⟩ : Addr) = gad := ⟨_, rfl⟩
        rw [hgad] at hcr hcx
        clear hv hr hx hrl hrz hget hgad hown hbel
        have hbs := HBL.out.size
        go_wp2
        go_region_held3 (fun w' => w'.cell? ⟨b, 0, none⟩ = some (.slice (some ah) N caph) ∧ w'.cell? (ah.add k) = some (.slice (some gad) n gc) ∧ w'.cell? (ad.add k) = some (.int .i64 vn) ∧ w'.cell? (gad.add vn) = some (.int .i64 x)) (refine ⟨cell_up HBH.out ?_, cell_up hcr ?_, cell_up hcv ?_, cell_up hcx ?_⟩ <;> (repeat' (first | (with_reducible exact Below.refl _ _) | (with_reducible assumption) | (with_reducible exact HBL.out) | (with_reducible refine below_over ?_ _ _) | (with_reducible refine Lw.below_alloc ?_ _) | (with_reducible refine Below.drew ?_) | (with_reducible refine below_drewN ?_ _) | (with_reducible refine Below.setCell ?_ ?_ _) | go_size))) (first
          | (refine app_step .i64 rfl _ _ 37 rfl w.heap.size 2 i0 8 i64s_u hi hz0 hz1 hz2 (.slice (some A1) k cp) k (named ((nums R).take k) (cols.take k)) rfl (own_up HOW.out (by repeat' (first | (with_reducible exact Below.refl _ _) | (with_reducible assumption) | (with_reducible refine below_over ?_ _ _) | (with_reducible refine Lw.below_alloc ?_ _) | (with_reducible refine Below.drew ?_) | (with_reducible refine below_drewN ?_ _) | (with_reducible refine Below.setCell ?_ ?_ _) | go_size))) (fun h => by cases h) _ 1 1 [x] rfl (by simp) rfl (rd_one (by simp [go_sem])) (by unfold maxLen; omega) (by omega) (by simp <;> omega) ?_; intro A8 cap8 w8 own8 grow8 rd8 c8 d8; have hb8 := app_below3 (w := w) (by repeat' (first | (with_reducible exact Below.refl _ _) | (with_reducible assumption) | (with_reducible exact HBL.out) | (with_reducible refine below_over ?_ _ _) | (with_reducible refine Lw.below_alloc ?_ _) | (with_reducible refine Below.drew ?_) | (with_reducible refine below_drewN ?_ _) | (with_reducible refine Below.setCell ?_ ?_ _) | go_size)) grow8 (fun q hq => own_ge HOW.out q hq)))
        all_goals go_wp2
        all_goals go_roundw
        all_goals first
          | exact ⟨k + 1, A8, cap8, by omega, by go_num, rfl, by rw [HNX.out]; exact own8, hb8⟩
          | (simp [intOf]; omega)
      · have e : k = N := by omega
        subst e
        have hfull : named ((nums R).take k) (cols.take k) = named (nums R) cols := by
          rw [List.take_of_length_le (by rw [HD.out.len]; exact Nat.le_refl _), List.take_of_length_le (by rw [HL.out]; exact Nat.le_refl _)]
        rw [hfull] at hown
        obtain ⟨A3, cp3, hv3, hrd3, h2, h3, h4⟩ := own_rd hown
        injection hv3 with hv1 hv2 hv3
        subst hv1 hv3
        have HRD := Lib.hid hrd3
        have HLN : Hid ((named (nums R) cols).length = k) := Lib.hid (by rw [named_len (by rw [HL.out, HD.out.len]), HD.out.len])
        clear hfull hown hrd3 h4 hbel
        go_wp2
        go_ret2
        exact ⟨A1, k, cp, ret_ri HCD.out.symm, by rw [HRE.out]; exact HRD.out, by rw [HRE.out]; exact HLN.out, h2, h3, HBL.out⟩
  · have e1 : meetB m n cols = false := decide_eq_false hme
    have HCD : Hid (rdCode m n cols = 1) := Lib.hid (if_neg hme)
    have HRE : Hid (readOf m n L cols = []) := Lib.hid (if_neg hme)
    clear h hc hl hz hme
    go_enter Try.func41, Try.ntmps41
    go_wp2_with (go_at_call 51; (with_reducible refine (rmeet_any q F m n L A N cap cols _ (dg_up HH.out (by repeat' (first | (with_reducible exact Below.refl _ _) | (with_reducible assumption) | (with_reducible refine below_over ?_ _ _) | (with_reducible refine Lw.below_alloc ?_ _) | (with_reducible refine Below.drew ?_) | (with_reducible refine below_drewN ?_ _) | (with_reducible refine Below.setCell ?_ ?_ _) | go_size))) (HC.out.up (by repeat' (first | (with_reducible exact Below.refl _ _) | (with_reducible assumption) | (with_reducible refine below_over ?_ _ _) | (with_reducible refine Lw.below_alloc ?_ _) | (with_reducible refine Below.drew ?_) | (with_reducible refine below_drewN ?_ _) | (with_reducible refine Below.setCell ?_ ?_ _) | go_size))) HL.out hN HZ.out).mono ?_); rintro e w2 ⟨rfl, hb2⟩; have HBW : Hid (Below w.heap.size w w2) := Lib.hid (below_call (by repeat' (first | (with_reducible exact Below.refl _ _) | (with_reducible assumption) | (with_reducible refine below_over ?_ _ _) | (with_reducible refine Lw.below_alloc ?_ _) | (with_reducible refine Below.drew ?_) | (with_reducible refine below_drewN ?_ _) | (with_reducible refine Below.setCell ?_ ?_ _) | go_size)) hb2 (Nat.le_refl _)); clear hb2)
    all_goals go_ret2
    all_goals exact ⟨⟨w.heap.size, 0, none⟩, 0, 0, ret_ri HCD.out.symm, by rw [HRE.out]; exact rd_nil _ _ _, by rw [HRE.out]; rfl, Nat.le_refl _, by simp, HBW.out⟩
theorem named_mem : ∀ {L : List (List Int)} {cols : List Int}, (∀ r ∈ L, In64 r) → In64 (named L cols)
  | [], _, _ => fun v hv => by simp [named] at hv
  | _ :: _, [], _ => fun v hv => by simp [named] at hv
  | r :: L, c :: cols, h => fun v hv => by
    unfold named at hv
    rw [List.zipWith_cons_cons] at hv
    rcases List.mem_cons.1 hv with h1 | h1
    · subst h1
      cases hx : r[c.toNat]? with
      | none => simp
      | some x => simpa using (h r (by simp)).at hx
    · exact named_mem (L := L) (cols := cols) (fun r hr => h r (by simp [hr])) v h1
theorem read_ok {m n : Nat} {L : List (List Int)} {cols : List Int} (h : Dims m n L) : In64 (readOf m n L cols) ∧ (readOf m n L cols).length ≤ 1000 := by
  unfold readOf
  split
  · refine ⟨named_mem (fun r hr => (h.rows r hr).2), ?_⟩
    unfold named
    rw [List.length_zipWith, h.len]
    have := h.m8
    omega
  · exact ⟨in64_nil, by simp⟩
set_option maxRecDepth 100000 in
theorem rleast_any (q : Addr) (F : Nat → Prop) (m n : Nat) (L : List (List Int)) (A : Option Addr) (N cap : Nat) (cols : List Int) (w : World) (h : DG w q F m n L) (hc : Rd .i64 w A cols) (hl : cols.length = N) (hN : N ≤ 1000) (hz : In64 cols) :
    Calls Try.prog 28 #[.pointer (some q), .slice A N cap] w fun e w' => e = .returned (.tuple #[.int .i64 (Ord.kv (readOf m n L cols) (0)), .int .i64 (rdCode m n cols)]) ∧ Below w.heap.size w w' := by
  have HH := Lib.hid h
  have HC := Lib.hid hc
  have HL := Lib.hid hl
  have HZ := Lib.hid hz
  have hin : Hid (In64 (readOf m n L cols) ∧ (readOf m n L cols).length ≤ 1000) := Lib.hid (read_ok h.dims)
  clear h hc hl hz
  go_enter Try.func28, Try.ntmps28
  go_wp2_with (first
    | (go_at_call 41; (with_reducible refine (rread_any q F m n L A N cap cols _ HH.out HC.out HL.out hN HZ.out).mono ?_); rintro e w2 ⟨A2, len, cap2, rfl, hrd, hlen, hc2, hm2, hb2⟩; have HRD := Lib.hid hrd; have HLE := Lib.hid hlen; have hle : len ≤ 1000 := (by rw [← hlen]; exact hin.out.2); have HB2 := Lib.hid hb2; clear hrd hlen hb2)
    | (go_at_call 42; (with_reducible refine (Ord.rmin_any (some A2) len cap2 (readOf m n L cols) _ (by simp) hc2 hm2 (HRD.out.up (by repeat' (first | (with_reducible exact Below.refl _ _) | (with_reducible assumption) | (with_reducible refine below_over ?_ _ _) | (with_reducible refine Lw.below_alloc ?_ _) | (with_reducible refine Below.drew ?_) | (with_reducible refine below_drewN ?_ _) | (with_reducible refine Below.setCell ?_ ?_ _) | go_size))) HLE.out hle hin.out.1).mono ?_); rintro e w3 ⟨rfl, hb3⟩; have HB3 := Lib.hid (below_call HB2.out hb3 (Nat.le_refl _)); clear hb3))
  all_goals go_ret2
  all_goals exact ⟨rfl, HB3.out⟩
set_option maxRecDepth 100000 in
set_option maxHeartbeats 2000000 in
theorem rsame8_any (A B : Option Addr) (n m ca cb : Nat) (xs ys : List Int) (w : World) (ha : Rd .i64 w A xs) (hb : Rd .i64 w B ys) (hla : xs.length = n) (hlb : ys.length = m) (hn : n ≤ 9223372036854775807) (hm : m ≤ 9223372036854775807) :
    Calls Try.prog 34 #[.slice A n ca, .slice B m cb] w fun e w' => e = .returned (.bool (decide (xs = ys))) ∧ Below w.heap.size w w' := by
  have HA := Lib.hid ha
  have HB := Lib.hid hb
  have HLA := Lib.hid hla
  have HLB := Lib.hid hlb
  clear ha hb
  by_cases hnm : n = m
  · subst hnm
    clear hla hlb
    go_enter Try.func34, Try.ntmps34
    go_wp2
    go_loopw [5] (fun i wr => ∃ k d : Nat, k ≤ n ∧ i = .int .i64 k ∧ xs.take k = ys.take k ∧ wr = w.drewN d) (fun i _ => n - (intOf i).toNat)
    case atStart => exact ⟨0, 0, Nat.zero_le _, rfl, rfl, rfl⟩
    case round =>
      obtain ⟨k, d, hk, rfl, heq, rfl⟩ := hrel
      have HE := Lib.hid heq
      clear heq
      by_cases hlt : k < n
      · obtain ⟨x, hx⟩ : ∃ x, xs[k]? = some x := ⟨_, List.getElem?_eq_getElem (by have := HLA.out; omega)⟩
        obtain ⟨y, hy⟩ : ∃ y, ys[k]? = some y := ⟨_, List.getElem?_eq_getElem (by have := HLB.out; omega)⟩
        obtain ⟨ad, rfl, hcx⟩ := HA.out k x hx
        obtain ⟨bd, rfl, hcy⟩ := HB.out k y hy
        by_cases hxy : x = y
        · have HN : Hid (xs.take (k + 1) = ys.take (k + 1)) := Lib.hid (by
            rw [List.take_add_one, List.take_add_one, HE.out, hx, hy, hxy])
          subst hxy
          clear hx hy
          go_wp2
          go_quiet (fail)
          go_wp2
          go_roundw
          case rel => exact ⟨k + 1, _, by omega, by go_num, HN.out, rfl⟩
          case measure => simp [intOf]; omega
        · have HD : Hid (decide (xs = ys) = false) := Lib.hid (decide_eq_false (fun e => hxy (by rw [e, hy] at hx; injection hx with hx; exact hx.symm)))
          have hne : (x == y) = false := by simpa using hxy
          have hne2 : (x != y) = true := by simpa using hxy
          clear hx hy hxy
          go_wp2
          go_quiet (fail)
          go_wp2
          go_ret
          exact ⟨ret_b HD.out.symm, by first | exact below_drewN (Below.refl _ _) _ | exact below_drewN (below_drewN (Below.refl _ _) _) _⟩
      · have e : k = n := by omega
        subst e
        have HD : Hid (decide (xs = ys) = true) := Lib.hid (decide_eq_true (by
          have := HE.out
          rwa [List.take_of_length_le (by have := HLA.out; omega), List.take_of_length_le (by have := HLB.out; omega)] at this))
        go_wp2
        go_ret
        exact ⟨ret_b HD.out.symm, by first | exact below_drewN (Below.refl _ _) _ | exact below_drewN (below_drewN (Below.refl _ _) _) _⟩
  · have hne : ((n : Int) == (m : Int)) = false := by simp; omega
    have hne2 : ((n : Int) != (m : Int)) = true := by simp; omega
    have HD : Hid (decide (xs = ys) = false) := Lib.hid (decide_eq_false (fun e => hnm (by rw [← hla, ← hlb, e])))
    clear hla hlb hnm
    go_enter Try.func34, Try.ntmps34
    go_wp2
    go_ret
    exact ⟨ret_b HD.out.symm, Below.refl _ _⟩
theorem int_info : (Try.prog.info? 3).map (fun i => (i.zero, i.size, i.bytes)) = some (some (.int .i64 0), 1, 8) := by kernel_rfl
theorem ints_u : Try.prog.underlying 30 = some (.slice 3) := by kernel_rfl
def cutAt (cols : List Int) (v : Nat) (r : Nat) : Int := match cols[r]? with
  | some x => x % 65536 % v
  | none => 0
def cutOf (cols : List Int) (rows v : Nat) : List Int := (List.range rows).map (cutAt cols v)
theorem cut_in (cols : List Int) (rows v : Nat) (hv : 1 ≤ v) : ∀ x ∈ cutOf cols rows v, 0 ≤ x ∧ x < v := by
  intro x hx
  obtain ⟨r, _, rfl⟩ := List.mem_map.1 hx
  unfold cutAt
  split
  · exact ⟨Int.emod_nonneg _ (by omega), Int.emod_lt_of_pos _ (by omega)⟩
  · omega
theorem cut_len (cols : List Int) (rows v : Nat) : (cutOf cols rows v).length = rows := by simp [cutOf]
set_option maxRecDepth 100000 in
set_option maxHeartbeats 2000000 in
theorem rcut_any (A : Option Addr) (N cap : Nat) (cols : List Int) (rows v : Nat) (w : World) (hc : Rd .i64 w A cols) (hl : cols.length = N) (hN : N ≤ maxLen) (hr : rows ≤ 1000) (hv0 : 1 ≤ v) (hv1 : v ≤ 65536) :
    Calls Try.prog 18 #[.slice A N cap, .int .i64 rows, .int .i64 v] w fun e w' => ∃ (A2 : Addr) (cap2 : Nat), e = .returned (.slice (some A2) rows cap2) ∧ w'.ownsRow w.heap.size 3 1 (.slice (some A2) rows cap2) rows ((cutOf cols rows v).map (Value.int .i64)) ∧ Rd .i64 w' (some A2) (cutOf cols rows v) ∧ rows ≤ cap2 ∧ cap2 ≤ maxLen ∧ Below w.heap.size w w' := by
  obtain ⟨i0, hi, hi0, hi1, hi2⟩ := info_parts int_info
  have HC := Lib.hid hc
  have HL := Lib.hid hl
  unfold maxLen at hN
  have nv : ¬ v = 0 := by omega
  clear hc hl
  go_enter Try.func18, Try.ntmps18
  go_wp2
  go_loopw [7, 8] (fun o i wr => ∃ (r g cp : Nat), r ≤ rows ∧ i = .int .i64 r ∧ o = .slice (some ⟨g, 0, none⟩) r cp ∧ wr.ownsRow w.heap.size 3 1 o r (((List.range r).map (cutAt cols v)).map (Value.int .i64)) ∧ Below w.heap.size w wr) (fun _ i _ => rows - (intOf i).toNat)
  case atStart => exact ⟨0, _, 0, Nat.zero_le _, rfl, rfl, own_empty w _ 1 _ (Nat.le_refl _), Lw.below_alloc (Below.refl _ _) _⟩
  case round =>
    obtain ⟨r, g, cp, hrR, rfl, rfl, hown, hbel⟩ := hrel
    have HOW := Lib.hid hown
    have HBL := Lib.hid hbel
    have hbs := hbel.size
    by_cases hlt : r < rows
    · obtain ⟨X, hX⟩ : ∃ X, cutAt cols v r = X := ⟨_, rfl⟩
      have HN : Hid ((List.range (r + 1)).map (cutAt cols v) = (List.range r).map (cutAt cols v) ++ [X]) := Lib.hid (by rw [List.range_succ, List.map_append, ← hX]; rfl)
      by_cases hin : r < N
      · obtain ⟨x, hx⟩ : ∃ x, cols[r]? = some x := ⟨_, List.getElem?_eq_getElem (by have := HL.out; omega)⟩
        obtain ⟨ad, rfl, hcx⟩ := HC.out r x hx
        have hcx2 := cell_up hcx hbel
        have ha := and16i x
        have ht : Int.tmod (x % 65536) v = X := by rw [Int.tmod_eq_emod_of_nonneg (by omega), ← hX]; unfold cutAt; rw [hx]
        have hXb : 0 ≤ X ∧ X < v := by
          have h := Int.tmod_eq_emod_of_nonneg (a := x % 65536) (b := (v : Int)) (by omega)
          rw [ht] at h
          rw [h]
          exact ⟨Int.emod_nonneg _ (by omega), Int.emod_lt_of_pos _ (by omega)⟩
        clear hown hbel hX hcx hx
        go_wp2_with (at_builtin; (refine app_one .i64 rfl _ _ 30 rfl w.heap.size 3 i0 8 ints_u hi hi0 hi1 hi2 (.slice (some ⟨g, 0, none⟩) r cp) r ((List.range r).map (cutAt cols v)) rfl (HOW.out.alloc _) X wr.heap.size rfl (cell_one_new _ _ _) (by unfold maxLen; omega) (by omega) (by simp; omega) ?_); intro v1 w2 own1 grow1 oth1; obtain ⟨gg, cc, rfl, hgg, hgl⟩ := own1.form (by omega))
        go_roundw
        case rel => exact ⟨r + 1, gg, cc, by omega, by go_num, rfl, by rw [HN.out]; exact own1, app_below3 (Lw.below_alloc HBL.out _) grow1 (fun q hq => own_ge HOW.out q hq)⟩
        case measure => simp [intOf]; omega
      · have hx : cols[r]? = none := List.getElem?_eq_none (by have := HL.out; omega)
        have hX0 : X = 0 := by rw [← hX]; unfold cutAt; rw [hx]
        subst hX0
        clear hown hbel hX hx
        go_wp2_with (at_builtin; (refine app_one .i64 rfl _ _ 30 rfl w.heap.size 3 i0 8 ints_u hi hi0 hi1 hi2 (.slice (some ⟨g, 0, none⟩) r cp) r ((List.range r).map (cutAt cols v)) rfl (HOW.out.alloc _) 0 wr.heap.size rfl (cell_one_new _ _ _) (by unfold maxLen; omega) (by omega) (by simp; omega) ?_); intro v1 w2 own1 grow1 oth1; obtain ⟨gg, cc, rfl, hgg, hgl⟩ := own1.form (by omega))
        go_roundw
        case rel => exact ⟨r + 1, gg, cc, by omega, by go_num, rfl, by rw [HN.out]; exact own1, app_below3 (Lw.below_alloc HBL.out _) grow1 (fun q hq => own_ge HOW.out q hq)⟩
        case measure => simp [intOf]; omega
    · have e : r = rows := by omega
      subst e
      obtain ⟨A3, cp3, hv3, hrd3, h2, h3, h4⟩ := own_rd hown
      injection hv3 with hv1 hv2 hv3
      subst hv1 hv3
      have HRD := Lib.hid hrd3
      clear hown hrd3 h4 hbel
      go_wp2
      go_ret
      exact ⟨⟨g, 0, none⟩, cp, rfl, HOW.out, HRD.out, h2, h3, HBL.out⟩
end Go.Proofs.Ytonbidohhgenlaa.Lin
