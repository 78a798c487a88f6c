/- The walk of the document's Change. Printed by wip/gen/lin.py. -/
import Derived.Test.YtmneihdkkmgbkaaLinRef
import Derived.Test.YtmneihdkkmgbkaaWidRAdd
import Derived.Deep.DeepCutAuto
import Derived.Deep.LoopGhost
import Derived.Deep.RegionHeld3
import Derived.Deep.QuietTactic
import Derived.BigQuiet
import Derived.WalkSpells
namespace Go.Proofs.Ytmneihdkkmgbkaa.Lin
open Go Go.RowKit Lw Grd
set_option linter.unusedVariables false
set_option linter.unusedSimpArgs false
theorem nums_set2 (R : List Row) (K C : Nat) (n : Int) : nums (set2 R K C n) = (nums R).modify K (fun r => r.set C n) := by
  unfold nums set2
  apply List.ext_getElem?
  intro i
  rw [List.getElem?_map, List.getElem?_modify, List.getElem?_modify, List.getElem?_map]
  cases R[i]? <;> simp
  split <;> simp
theorem RF_set2 {b : Nat} {hdr : Value} {R : List Row} {K C : Nat} {n : Int} (k : Nat) : RF b hdr (set2 R K C n) k ↔ RF b hdr R k := by
  have h := set2_bl R K C n
  unfold RF
  have e : ∀ (S : List Row), (∃ r ∈ S, r.1 = k) ↔ k ∈ S.map (·.1) := fun S => by simp [List.mem_map]
  rw [e, e, h]
theorem modify_app {α : Type} (f : α → α) (r : α) (t : List α) : ∀ (a : List α), (a ++ r :: t).modify a.length f = a ++ f r :: t
  | [] => rfl
  | x :: a => by
    have ih := modify_app f r t a
    simp only [List.cons_append, List.length_cons, List.modify_succ_cons, ih]
/-- The first k rows changed. -/
def half (L : List (List Int)) (cols : List Int) (d : Int) (k : Nat) : List (List Int) := changed (L.take k) (cols.take k) d ++ L.drop k
theorem half_zero (L : List (List Int)) (cols : List Int) (d : Int) : half L cols d 0 = L := by simp [half, changed]
theorem half_full {L : List (List Int)} {cols : List Int} (d : Int) (h : cols.length = L.length) : half L cols d L.length = changed L cols d := by
  unfold half
  rw [List.take_of_length_le (Nat.le_refl _), List.take_of_length_le (by omega), List.drop_of_length_le (Nat.le_refl _), List.append_nil]
theorem half_next {L : List (List Int)} {cols : List Int} {d : Int} {k : Nat} {r : List Int} {v : Nat} {x : Int} (h : cols.length = L.length) (hr : L[k]? = some r) (hv : cols[k]? = some (v : Int)) (hx : r[v]? = some x) :
    (half L cols d k).modify k (fun r => r.set v (x + d)) = half L cols d (k + 1) := by
  obtain ⟨h1, e1⟩ := List.getElem?_eq_some_iff.1 hr
  obtain ⟨h2, e2⟩ := List.getElem?_eq_some_iff.1 hv
  have hl : (changed (L.take k) (cols.take k) d).length = k := by unfold changed; rw [List.length_zipWith, List.length_take, List.length_take]; omega
  unfold half
  rw [List.drop_eq_getElem_cons h1, e1]
  have hm := modify_app (fun r => r.set v (x + d)) r (L.drop (k + 1)) (changed (L.take k) (cols.take k) d)
  rw [hl] at hm
  rw [hm]
  have e : changed (L.take (k + 1)) (cols.take (k + 1)) d = changed (L.take k) (cols.take k) d ++ [r.set v (x + d)] := by
    unfold changed
    rw [List.take_succ_eq_append_getElem h1, List.take_succ_eq_append_getElem h2, List.zipWith_append (by simp; omega), e1, e2]
    simp [hx]
  rw [e, List.append_assoc]
  rfl
theorem half_get {L : List (List Int)} {cols : List Int} {d : Int} {k : Nat} {r : List Int} (h : cols.length = L.length) (hr : L[k]? = some r) : (half L cols d k)[k]? = some r := by
  obtain ⟨h1, e1⟩ := List.getElem?_eq_some_iff.1 hr
  have hl : (changed (L.take k) (cols.take k) d).length = k := by unfold changed; rw [List.length_zipWith, List.length_take, List.length_take]; omega
  unfold half
  rw [List.getElem?_append_right (by omega), hl, Nat.sub_self, List.drop_eq_getElem_cons h1, e1]
  rfl
theorem map_named_next (L : List (List Int)) (cols : List Int) (d : Int) (k : Nat) (r : List Int) (v x : Int) (hr : L[k]? = some r) (hv : cols[k]? = some v) (hx : r[v.toNat]?.getD 0 = x) : (named (L.take (k + 1)) (cols.take (k + 1))).map (· + d) = (named (L.take k) (cols.take k)).map (· + d) ++ [x + d] := by
  rw [named_next L cols k r v hr hv, List.map_append, hx]
  rfl
theorem chFits_cons (r : List Int) (L : List (List Int)) (c : Int) (cols : List Int) (d : Int) : chFits (r :: L) (c :: cols) d = (Wid.fit64 (r[c.toNat]?.getD 0 + d) && chFits L cols d) := by
  unfold chFits named
  rw [List.zipWith_cons_cons, List.all_cons]
theorem changed_rows {n : Nat} : ∀ {L : List (List Int)} {cols : List Int} {d : Int}, (∀ r ∈ L, r.length = n ∧ In64 r) → chFits L cols d = true → ∀ r ∈ changed L cols d, r.length = n ∧ In64 r
  | [], _, _, _, _ => fun r hr => by simp [changed] at hr
  | _ :: _, [], _, _, _ => fun r hr => by simp [changed] at hr
  | r0 :: L, c :: cols, d, h, hf => fun r hr => by
    rw [chFits_cons, Bool.and_eq_true] at hf
    unfold changed at hr
    rw [List.zipWith_cons_cons] at hr
    rcases List.mem_cons.1 hr with h1 | h1
    · subst h1
      have h2 := h r0 (by simp)
      have h3 := fit64_in hf.1
      exact ⟨by rw [List.length_set]; exact h2.1, in64_set h2.2 _ h3.1 h3.2⟩
    · exact changed_rows (fun r hr => h r (by simp [hr])) hf.2 r h1
theorem changed_dims {m n : Nat} {L : List (List Int)} {cols : List Int} {d : Int} (h : Dims m n L) (hl : cols.length = m) (hf : chFits L cols d = true) : Dims m n (changed L cols d) :=
  ⟨by unfold changed; rw [List.length_zipWith, h.len, hl]; omega, h.m8, h.n128, changed_rows h.rows hf⟩
theorem named_take : ∀ (L : List (List Int)) (cols : List Int) (k : Nat), named (L.take k) (cols.take k) = (named L cols).take k
  | [], _, k => by simp [named]
  | _ :: _, [], k => by cases k <;> simp [named]
  | r :: L, c :: cols, 0 => by simp [named]
  | r :: L, c :: cols, k + 1 => by
    have ih := named_take L cols k
    unfold named at ih ⊢
    simp only [List.take_succ_cons, List.zipWith_cons_cons, ih]
set_option maxRecDepth 100000 in
set_option maxHeartbeats 8000000 in
theorem rchange_any (q : Addr) (F : Nat → Prop) (m n : Nat) (L : List (List Int)) (A : Option Addr) (N cap : Nat) (cols : List Int) (d : Int) (w : World) (h : DG w q F m n L) (hc : Rd .i64 w A cols) (hap : ∀ a, A = some a → ¬ F a.block) (hl : cols.length = N) (hN : N ≤ 1000) (hz : In64 cols) (d0 : -9223372036854775808 ≤ d) (d1 : d ≤ 9223372036854775807) :
    Calls Try.prog 13 #[.pointer (some q), .slice A N cap, .int .i64 d] w fun e w' => e = .returned (.int .i64 (chCode m n L cols d)) ∧ ∃ G', DG w' q G' m n (chRes m n L cols d) ∧ Kept F w w' ∧ (∀ k, G' k → F k ∨ w.heap.size ≤ k) := by
  obtain ⟨i0, hi, hz0, hz1, hz2⟩ := info_parts i64_info
  have HH := Lib.hid h
  have hm8 := h.dims.m8
  have hn128 := h.dims.n128
  have HC := Lib.hid hc
  have HL := Lib.hid hl
  have HZ := Lib.hid hz
  have HAP := Lib.hid hap
  by_cases hme : Meets m n cols
  · have e1 : meetB m n cols = true := decide_eq_true hme
    have hNm : N = m := by rw [← hl]; exact hme.2.1
    subst hNm
    have HME := Lib.hid hme
    have HCD : Hid (chCode N n L cols d = if chFits L cols d = true then 0 else 4) := Lib.hid (if_pos hme)
    have HCR : Hid (chRes N n L cols d = if chFits L cols d = true then changed L cols d else L) := Lib.hid (by unfold chRes; by_cases hf : chFits L cols d = true <;> simp [hme, hf])
    obtain ⟨b, hdr, R, rfl, hg, rfl, hG, hd⟩ := h
    have hRm : R.length = N := by rw [← nums_len]; exact hd.len
    have HD := Lib.hid hd
    have HR := Lib.hid hRm
    have HGF := Lib.hid hG
    obtain ⟨Ah, caph, rfl, hcaph, hAh, hcell⟩ := hg.hd
    have hb := cell_of_row w b 0 _ _ _ hg.cell
    simp only [List.getElem?_toArray, List.getElem?_cons_zero] at hb
    rw [hRm] at hb
    have HBH := Lib.hid hb
    have HCE := Lib.hid hcell
    have HG := Lib.hid hg
    clear hc hz hcell hAh hg hG hcaph hme hd hl hb hap
    go_enter Try.func13, Try.ntmps13
    go_wp2_with (go_at_call 32; (with_reducible refine (rmeet_any _ F N n (nums R) A N cap cols _ (dg_up HH.out (by repeat' (first | (with_reducible exact Below.refl _ _) | (with_reducible assumption) | (with_reducible refine below_over ?_ _ _) | (with_reducible refine Lw.below_alloc ?_ _) | (with_reducible refine Below.drew ?_) | (with_reducible refine below_drewN ?_ _) | (with_reducible refine Below.setCell ?_ ?_ _) | go_size))) (HC.out.up (by repeat' (first | (with_reducible exact Below.refl _ _) | (with_reducible assumption) | (with_reducible refine below_over ?_ _ _) | (with_reducible refine Lw.below_alloc ?_ _) | (with_reducible refine Below.drew ?_) | (with_reducible refine below_drewN ?_ _) | (with_reducible refine Below.setCell ?_ ?_ _) | go_size))) HL.out hN HZ.out).mono ?_); rintro e w2 ⟨rfl, hb2⟩; have HBW : Hid (Below w.heap.size w w2) := Lib.hid (below_call (by repeat' (first | (with_reducible exact Below.refl _ _) | (with_reducible assumption) | (with_reducible refine below_over ?_ _ _) | (with_reducible refine Lw.below_alloc ?_ _) | (with_reducible refine Below.drew ?_) | (with_reducible refine below_drewN ?_ _) | (with_reducible refine Below.setCell ?_ ?_ _) | go_size)) hb2 (Nat.le_refl _)); clear hb2)
    go_loopw [7, 8] (fun v i wr => ∃ (k : Nat) (A1 : Addr) (cp : Nat), k ≤ N ∧ i = .int .i64 k ∧ v = .slice (some A1) k cp ∧ wr.ownsRow w.heap.size 2 1 v k (((named ((nums R).take k) (cols.take k)).map (· + d)).map (Value.int .i64)) ∧ ((named ((nums R).take k) (cols.take k)).all (fun x => Wid.fit64 (x + d))) = true ∧ Below w.heap.size w wr) (fun _ i _ => N - (intOf i).toNat)
    case atStart => exact ⟨0, ⟨w2.heap.size, 0, none⟩, 0, Nat.zero_le _, rfl, rfl, by have h0 := own_empty w2 2 1 w.heap.size HBW.out.size; simpa [named] using h0, by simp [named], Lw.below_alloc HBW.out _⟩
    case round =>
      obtain ⟨k, A1, cp, hk, rfl, rfl, hown, hfit, hbel⟩ := hrel
      have HOW := Lib.hid hown
      have HFI := Lib.hid hfit
      have HBL := Lib.hid hbel
      have hbs := hbel.size
      by_cases hlt : k < N
      · obtain ⟨v, hv⟩ : ∃ v, cols[k]? = some v := ⟨_, List.getElem?_eq_getElem (by have := HL.out; omega)⟩
        obtain ⟨r, hr⟩ : ∃ r, R[k]? = some r := ⟨_, List.getElem?_eq_getElem (by have := HR.out; omega)⟩
        obtain ⟨ad, rfl, hcv⟩ := HC.out k v hv
        obtain ⟨ah, rfl, hcr⟩ := HCE.out k r hr
        have hrl : r.2.2.length = n := (HD.out.rows _ (nums_mem (List.mem_of_getElem? hr))).1
        have hrz := (HD.out.rows _ (nums_mem (List.mem_of_getElem? hr))).2
        have hvb := HME.out.2.2 v (List.mem_of_getElem? hv)
        obtain ⟨vn, rfl⟩ : ∃ vn : Nat, v = vn := ⟨v.toNat, by omega⟩
        obtain ⟨x, hx⟩ : ∃ x, r.2.2[vn]? = some x := ⟨_, List.getElem?_eq_getElem (by omega)⟩
        have hcx := HG.out.numAt (List.mem_of_getElem? hr) hx
        have hxb := hrz.at hx
        have hLk : (nums R)[k]? = some r.2.2 := by unfold nums; rw [List.getElem?_map, hr]; rfl
        have hget : r.2.2[(vn : Int).toNat]?.getD 0 = x := by rw [show (vn : Int).toNat = vn from rfl, hx]; rfl
        have HNX := Lib.hid (map_named_next (nums R) cols d k r.2.2 vn x hLk hv hget)
        have HNX2 := Lib.hid (named_next (nums R) cols k r.2.2 vn hLk hv)
        rw [hget] at HNX2
        have HNO : Hid (Wid.fit64 (x + d) = false → chFits (nums R) cols d = false) := Lib.hid (fun hf => by
          refine Bool.eq_false_iff.2 fun hall => ?_
          have hmem : x ∈ named (nums R) cols := by
            have h2 : x ∈ named ((nums R).take (k + 1)) (cols.take (k + 1)) := by rw [HNX2.out]; simp
            have e3 := named_take (nums R) cols (k + 1)
            rw [e3] at h2
            exact List.mem_of_mem_take h2
          have := List.all_eq_true.1 hall x hmem
          rw [hf] at this
          cases this)
        obtain ⟨gr, gc, zs⟩ := r
        unfold rowHd at hcr
        simp only at hcr hrl hcx
        rw [hrl] at hcr
        obtain ⟨gad, hgad⟩ : ∃ gad : Addr, (⟨gr, 0, none⟩ : Addr) = gad := ⟨_, rfl⟩
        rw [hgad] at hcr hcx
        clear hv hr hx hrl hrz hget hgad hLk hown hbel hfit
        go_wp2
        go_region_held3 (fun w' => w'.cell? ⟨b, 0, none⟩ = some (.slice (some ah) N caph) ∧ w'.cell? (ah.add k) = some (.slice (some gad) n gc) ∧ w'.cell? (ad.add k) = some (.int .i64 vn) ∧ w'.cell? (gad.add vn) = some (.int .i64 x)) (refine ⟨cell_up HBH.out ?_, cell_up hcr ?_, cell_up hcv ?_, cell_up hcx ?_⟩ <;> (repeat' (first | (with_reducible exact Below.refl _ _) | (with_reducible assumption) | (with_reducible exact HBL.out) | (with_reducible refine below_over ?_ _ _) | (with_reducible refine Lw.below_alloc ?_ _) | (with_reducible refine Below.drew ?_) | (with_reducible refine below_drewN ?_ _) | (with_reducible refine Below.setCell ?_ ?_ _) | go_size))) (first
          | (go_at_call 33; (with_reducible refine (Wid.radd_any x d _ (by omega) (by omega) d0 d1).mono ?_); rintro e w5 ⟨rfl, hb⟩; have HB5 : Hid (Below wr.heap.size wr w5) := Lib.hid (below_call (by repeat' (first | (with_reducible exact Below.refl _ _) | (with_reducible assumption) | (with_reducible refine below_over ?_ _ _) | (with_reducible refine Lw.below_alloc ?_ _) | (with_reducible refine Below.drew ?_) | (with_reducible refine below_drewN ?_ _) | (with_reducible refine Below.setCell ?_ ?_ _) | go_size)) hb (Nat.le_refl _)); have hb5 : Below w.heap.size w w5 := below_call HBL.out HB5.out (Nat.le_refl _); clear hb))
        cases hf : Wid.fit64 (x + d)
        · have HNF := Lib.hid (HNO.out hf)
          go_wp2
          go_ret
          exact ⟨ret_i (by rw [HCD.out, HNF.out]; rfl), F, by rw [HCR.out, HNF.out]; exact dg_up HH.out hb5, Kept.of_below hb5, fun k h => .inl h⟩
        · have e64 : Wid.f64 (x + d) = x + d := by unfold Wid.f64; rw [if_pos hf]
          have HF5 := Lib.hid hf
          rw [e64]
          clear hf
          go_wp2_with (at_builtin; (refine app_one .i64 rfl _ _ 34 rfl w.heap.size 2 i0 8 i64s_u hi hz0 hz1 hz2 (.slice (some A1) k cp) k ((named ((nums R).take k) (cols.take k)).map (· + d)) rfl ((own_up HOW.out HB5.out).alloc _) (x + d) w5.heap.size rfl (cell_one_new _ _ _) (by unfold maxLen; omega) (by omega) (by have := hb5.size; simp; omega) ?_); intro v1 w6 own1 grow1 oth1; obtain ⟨gg, cc, rfl, hgg, hgl⟩ := own1.form (by omega))
          go_roundw
          case rel => exact ⟨k + 1, ⟨gg, 0, none⟩, cc, by omega, by go_num, rfl, by rw [HNX.out]; exact own1, by rw [HNX2.out, List.all_append, HFI.out]; simp [HF5.out], app_below3 (Lw.below_alloc hb5 _) grow1 (fun q hq => own_ge HOW.out q hq)⟩
          case measure => simp [intOf]; omega
      · have e : k = N := by omega
        subst e
        have hf1 : (nums R).take k = nums R := List.take_of_length_le (by rw [HD.out.len]; exact Nat.le_refl _)
        have hf2 : cols.take k = cols := List.take_of_length_le (by rw [HL.out]; exact Nat.le_refl _)
        rw [hf1, hf2] at hown hfit
        have HFT : Hid (chFits (nums R) cols d = true) := Lib.hid hfit
        obtain ⟨A3, cp3, hv3, hrd3, h2, h3, h4⟩ := own_rd hown
        injection hv3 with hv1 hv2 hv3
        subst hv1 hv3
        have hge := own_ge HOW.out A1.block rfl
        have HRD := Lib.hid hrd3
        have HLT : Hid (∀ x, RF b (.slice Ah R.length caph) R x → x < w.heap.size) := Lib.hid (fun x hx => HG.out.blt hx)
        have HW3 := Lib.hid (HG.out.keep (Kept.of_below (F := fun _ => False) hbel) (fun _ _ h => h))
        have HC3 := Lib.hid (HC.out.up hbel)
        clear hf1 hf2 hown hfit hrd3 h4 hbel
        go_wp2
        obtain ⟨w3, rfl⟩ : ∃ w3, w3 = wr := ⟨_, rfl⟩
        go_loopw [11] (fun i wr => ∃ (j : Nat) (R2 : List Row), j ≤ k ∧ i = .int .i64 j ∧ RG wr b (.slice Ah R.length caph) R2 ∧ R2.length = R.length ∧ (∀ x, RF b (.slice Ah R.length caph) R2 x ↔ RF b (.slice Ah R.length caph) R x) ∧ nums R2 = half (nums R) cols d j ∧ Kept (RF b (.slice Ah R.length caph) R) w3 wr) (fun i _ => k - (intOf i).toNat)
        case atStart => exact ⟨0, R, Nat.zero_le _, rfl, HW3.out, rfl, fun x => Iff.rfl, (half_zero _ _ _).symm, Kept.refl _ _⟩
        case round =>
          obtain ⟨j, R2, hj, rfl, hg2, hlen2, hrf2, hn2, hk2⟩ := hrel
          have HG2 := Lib.hid hg2
          have HRF := Lib.hid hrf2
          have HN2 := Lib.hid hn2
          have HK2 := Lib.hid hk2
          have HLE2 := Lib.hid hlen2
          by_cases hjl : j < k
          · obtain ⟨v, hv⟩ : ∃ v, cols[j]? = some v := ⟨_, List.getElem?_eq_getElem (by have := HL.out; omega)⟩
            obtain ⟨r, hr⟩ : ∃ r, R2[j]? = some r := ⟨_, List.getElem?_eq_getElem (by have := HR.out; omega)⟩
            obtain ⟨z, hzo⟩ : ∃ z, ((named (nums R) cols).map (· + d))[j]? = some z := ⟨_, List.getElem?_eq_getElem (by rw [List.length_map, named_len (by rw [HL.out, HD.out.len]), HD.out.len]; omega)⟩
            have hjR : j < (nums R).length := by rw [HD.out.len]; exact hjl
            obtain ⟨r0, hr0⟩ : ∃ r0, (nums R)[j]? = some r0 := ⟨_, List.getElem?_eq_getElem hjR⟩
            have hcl : cols.length = (nums R).length := by rw [HL.out, HD.out.len]
            have hr2 : r.2.2 = r0 := by
              have e3 := half_get (d := d) hcl hr0
              rw [← hn2] at e3
              unfold nums at e3
              rw [List.getElem?_map, hr] at e3
              simpa using e3
            have hrl : r.2.2.length = n := by rw [hr2]; exact (HD.out.rows _ (List.mem_of_getElem? hr0)).1
            have hvb := HME.out.2.2 v (List.mem_of_getElem? hv)
            obtain ⟨vn, rfl⟩ : ∃ vn : Nat, v = vn := ⟨v.toNat, by omega⟩
            obtain ⟨x, hx⟩ : ∃ x, r.2.2[vn]? = some x := ⟨_, List.getElem?_eq_getElem (by omega)⟩
            have hz2 : z = x + d := by
              have e4 : (named (nums R) cols)[j]? = some x := by
                unfold named
                rw [List.getElem?_zipWith, hr0, hv]
                simp [← hr2, hx]
              rw [List.getElem?_map, e4] at hzo
              simpa using hzo.symm
            have hrm := List.mem_of_getElem? hr
            have hcx := hg2.numAt hrm hx
            have hfz := (hg2.rows _ hrm).frozenAt (g := r.1) (cap := r.2.1) vn
            obtain ⟨A4, cap4, he4, _, _, hcell4⟩ := hg2.hd
            injection he4 with he5 he6 he7
            subst he5 he7
            obtain ⟨ah, rfl, hcr⟩ := hcell4 j r hr
            have hb2 := cell_of_row _ b 0 _ _ _ hg2.cell
            simp only [List.getElem?_toArray, List.getElem?_cons_zero] at hb2
            rw [HR.out] at hb2
            have hkc : Rd .i64 wr A cols := HC3.out.keep hk2 (fun a ha hF => HAP.out a ha ((HGF.out _).2 hF))
            obtain ⟨ad, rfl, hcv⟩ := hkc j vn hv
            have hko : Rd .i64 wr (some A1) ((named (nums R) cols).map (· + d)) := HRD.out.keep hk2 (fun a ha hF => by injection ha with ha; subst ha; have := HLT.out _ hF; omega)
            have hcz := hko.at hzo
            have hxb := (HD.out.rows _ (List.mem_of_getElem? hr0)).2
            have hadd : (⟨r.1, 0, none⟩ : Addr).add vn = ⟨r.1, vn, none⟩ := by rw [Ord.add_at, Nat.zero_add]
            have hput := hg2.put hr vn z
            have hkp : Kept (RF b (.slice (some ah) R.length caph) R) w3 (wr.setCell ⟨r.1, vn, none⟩ (.int .i64 z)) := hk2.set (.inl ((hrf2 _).1 (.inr (.inr ⟨r, hrm, rfl⟩)))) _ _
            rw [← hadd] at hput hkp hfz
            have hnn : nums (set2 R2 j vn z) = half (nums R) cols d (j + 1) := by
              rw [nums_set2, hn2, hz2]
              exact half_next hcl hr0 hv (by rw [← hr2]; exact hx)
            have hl2 : (set2 R2 j vn z).length = R.length := by rw [set2_len]; exact hlen2
            have HNN := Lib.hid hnn
            have HLL := Lib.hid hl2
            obtain ⟨gr, gc, zs⟩ := r
            unfold rowHd at hcr
            simp only at hcr hrl hcx hput hkp hfz
            rw [hrl] at hcr
            obtain ⟨gad, hgad⟩ : ∃ gad : Addr, (⟨gr, 0, none⟩ : Addr) = gad := ⟨_, rfl⟩
            rw [hgad] at hcr hcx hput hkp hfz
            have HPU := Lib.hid hput
            have HKP := Lib.hid hkp
            clear hv hr hx hzo hr0 hr2 hrl hrm hg2 hrf2 hn2 hk2 hlen2 hkc hko hput hkp hnn hl2 hadd hcl hjR hgad hcell4 hz2 hxb
            go_wp2
            go_region
            go_wp2
            go_roundw
            case rel => exact ⟨j + 1, _, by omega, by go_num, HPU.out.keep (Kept.of_below (F := fun _ => False) (Below.drew (Below.refl _ _))) (fun _ _ h => h), HLL.out, fun x => (RF_set2 x).trans (HRF.out x), HNN.out, HKP.out.drew⟩
            case measure => simp [intOf]; omega
          · have e : j = k := by omega
            subst e
            have hfull : nums R2 = changed (nums R) cols d := by
              rw [hn2]
              have h5 := half_full (L := nums R) (cols := cols) d (by rw [HL.out, HD.out.len])
              rw [HD.out.len] at h5
              exact h5
            have HFU := Lib.hid hfull
            clear hfull hg2 hrf2 hn2 hk2 hlen2
            go_wp2
            go_ret
            refine ⟨ret_i (by rw [HCD.out, HFT.out]; rfl), F, ?_, (Kept.of_below (F := F) HBL.out).trans HK2.out (fun x hx h => (HGF.out x).2 h), fun x h => .inl h⟩
            rw [HCR.out, HFT.out]
            refine ⟨b, _, R2, rfl, HG2.out, HFU.out, fun x => (HGF.out x).trans (HRF.out x).symm, ?_⟩
            exact changed_dims HD.out HL.out HFT.out
  · have e1 : meetB m n cols = false := decide_eq_false hme
    have HCD : Hid (chCode m n L cols d = 1) := Lib.hid (if_neg hme)
    have HRE : Hid (chRes m n L cols d = L) := Lib.hid (if_neg (fun h => hme h.1))
    clear h hc hl hz hme hap
    go_enter Try.func13, Try.ntmps13
    go_wp2_with (go_at_call 32; (with_reducible refine (rmeet_any q F m n L A N cap cols _ (dg_up HH.out (by repeat' (first | (with_reducible exact Below.refl _ _) | (with_reducible assumption) | (with_reducible refine below_over ?_ _ _) | (with_reducible refine Lw.below_alloc ?_ _) | (with_reducible refine Below.drew ?_) | (with_reducible refine below_drewN ?_ _) | (with_reducible refine Below.setCell ?_ ?_ _) | go_size))) (HC.out.up (by repeat' (first | (with_reducible exact Below.refl _ _) | (with_reducible assumption) | (with_reducible refine below_over ?_ _ _) | (with_reducible refine Lw.below_alloc ?_ _) | (with_reducible refine Below.drew ?_) | (with_reducible refine below_drewN ?_ _) | (with_reducible refine Below.setCell ?_ ?_ _) | go_size))) HL.out hN HZ.out).mono ?_); rintro e w2 ⟨rfl, hb2⟩; have HBW : Hid (Below w.heap.size w w2) := Lib.hid (below_call (by repeat' (first | (with_reducible exact Below.refl _ _) | (with_reducible assumption) | (with_reducible refine below_over ?_ _ _) | (with_reducible refine Lw.below_alloc ?_ _) | (with_reducible refine Below.drew ?_) | (with_reducible refine below_drewN ?_ _) | (with_reducible refine Below.setCell ?_ ?_ _) | go_size)) hb2 (Nat.le_refl _)); clear hb2)
    all_goals go_ret
    all_goals exact ⟨ret_i HCD.out.symm, F, by rw [HRE.out]; exact dg_up HH.out HBW.out, Kept.of_below HBW.out, fun k h => .inl h⟩
end Go.Proofs.Ytmneihdkkmgbkaa.Lin
