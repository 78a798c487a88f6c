/- Texts that statements lean on, put together: LinRef, ConRef, SkMath, ExaRef, ExaShr, ColOwn, PcsCov, SkRef, SkDoc, LevDef, LevRef, Lvl, Lrow, StkDst, StkRNew, StkRGet, SpnRPt. -/
import Derived.Test.YtkflggojiiebeaaGreatQaa
import Derived.Test.YtkflggojiiebeaaGreatQab
import Derived.Test.YtkflggojiiebeaaGreatQac
import Derived.Test.YtkflggojiiebeaaGreatQad
import Derived.Test.YtkflggojiiebeaaGreatQae
import Derived.Test.YtkflggojiiebeaaGreatQaf
import Derived.Test.YtkflggojiiebeaaGreatQca
import Derived.Test.YtkflggojiiebeaaGreatRows
import Derived.WalkKit
import Derived.ProofKit
import Derived.OpenShut
import Derived.DataShut
import Derived.Lib.SmallJoins
import Derived.Handy
import Derived.WalkSmall
import Derived.Deep.Draws
import Derived.WalkSpells
import Derived.Laws.AppendOwnNone
import Derived.Deep.AppendLies
import Derived.Lib.Hide
import Derived.Deep.MidRow
import Derived.Laws.BitsAllLaws
import Derived.WalkMore
import Derived.Deep.LoopGhost
import Derived.Deep.RegionHeld3
import Derived.Deep.QuietTactic
import Derived.BigQuiet
import Derived.Laws.Cover3
import Derived.Shelf.Spec.BitsCarry
import Derived.Laws.OwnMore
import Derived.Deep.DeepCutAuto
import Derived.Laws.EntriesVeiled
import Derived.Deep.CutRange
import Derived.Maps.AppendAt
namespace Go.Proofs.YtkflggojiiebeaaGreat.Con
end Go.Proofs.YtkflggojiiebeaaGreat.Con
namespace Go.Proofs.YtkflggojiiebeaaGreat.Exa
end Go.Proofs.YtkflggojiiebeaaGreat.Exa
namespace Go.Proofs.YtkflggojiiebeaaGreat.Fld
end Go.Proofs.YtkflggojiiebeaaGreat.Fld
namespace Go.Proofs.YtkflggojiiebeaaGreat.Grd
end Go.Proofs.YtkflggojiiebeaaGreat.Grd
namespace Go.Proofs.YtkflggojiiebeaaGreat.Hsh
end Go.Proofs.YtkflggojiiebeaaGreat.Hsh
namespace Go.Proofs.YtkflggojiiebeaaGreat.Hvy
end Go.Proofs.YtkflggojiiebeaaGreat.Hvy
namespace Go.Proofs.YtkflggojiiebeaaGreat.Inn
end Go.Proofs.YtkflggojiiebeaaGreat.Inn
namespace Go.Proofs.YtkflggojiiebeaaGreat.Lev
end Go.Proofs.YtkflggojiiebeaaGreat.Lev
namespace Go.Proofs.YtkflggojiiebeaaGreat.Lin
end Go.Proofs.YtkflggojiiebeaaGreat.Lin
namespace Go.Proofs.YtkflggojiiebeaaGreat.Lw
end Go.Proofs.YtkflggojiiebeaaGreat.Lw
namespace Go.Proofs.YtkflggojiiebeaaGreat.Ord
end Go.Proofs.YtkflggojiiebeaaGreat.Ord
namespace Go.Proofs.YtkflggojiiebeaaGreat.Pcs
end Go.Proofs.YtkflggojiiebeaaGreat.Pcs
namespace Go.Proofs.YtkflggojiiebeaaGreat.Qnt
end Go.Proofs.YtkflggojiiebeaaGreat.Qnt
namespace Go.Proofs.YtkflggojiiebeaaGreat.Sed
end Go.Proofs.YtkflggojiiebeaaGreat.Sed
namespace Go.Proofs.YtkflggojiiebeaaGreat.Shp
end Go.Proofs.YtkflggojiiebeaaGreat.Shp
namespace Go.Proofs.YtkflggojiiebeaaGreat.Sk
end Go.Proofs.YtkflggojiiebeaaGreat.Sk
namespace Go.Proofs.YtkflggojiiebeaaGreat.Smr
end Go.Proofs.YtkflggojiiebeaaGreat.Smr
namespace Go.Proofs.YtkflggojiiebeaaGreat.Spn
end Go.Proofs.YtkflggojiiebeaaGreat.Spn
namespace Go.Proofs.YtkflggojiiebeaaGreat.Stk
end Go.Proofs.YtkflggojiiebeaaGreat.Stk
namespace Go.Proofs.YtkflggojiiebeaaGreat.Wid
end Go.Proofs.YtkflggojiiebeaaGreat.Wid
namespace Go.Proofs.YtkflggojiiebeaaGreat.Lin
open Go Go.RowKit Lw Grd
set_option linter.unusedVariables false
set_option linter.unusedSimpArgs false
set_option maxRecDepth 100000 in
set_option maxHeartbeats 2000000 in
theorem rmeet_any (q : Addr) (F : Nat → Prop) (m n : Nat) (L : List (List Int)) (A : Option Addr) (N cap : Nat) (cols : List Int) (w : World) (h : DG w q F m n L) (hc : Rd .i64 w A cols) (hl : cols.length = N) (hN : N ≤ 1000) (hz : In64 cols) :
    Calls Tryz.prog 152 #[.pointer (some q), .slice A N cap] w fun e w' => e = .returned (.bool (meetB m n cols)) ∧ Below w.heap.size w w' := by
  obtain ⟨b, hdr, R, rfl, hg, rfl, hG, hd⟩ := h
  have hRm : R.length = m := by rw [← nums_len]; exact hd.len
  have hm8 := hd.m8
  have hn128 := hd.n128
  obtain ⟨Ah, caph, rfl, hcaph, hAh, hcell⟩ := hg.hd
  have hb : w.cell? ⟨b, 0, none⟩ = some (.slice Ah R.length caph) := cell_of_row w b 0 _ _ _ hg.cell
  have HC := Lib.hid hc
  have HL := Lib.hid hl
  have HZ := Lib.hid hz
  have HCE := Lib.hid hcell
  have HD := Lib.hid hd
  have HR := Lib.hid hRm
  rw [hRm] at hb
  clear hc hz hcell hAh hg hG hcaph
  by_cases h0 : m = 0
  · have hr : meetB m n cols = false := decide_eq_false (fun h => by have := h.1; omega)
    subst h0
    clear hd hRm hl
    go_enter Tryz.func152, Tryz.ntmps152
    go_wp2
    go_ret
    exact ⟨ret_b hr.symm, Below.refl _ _⟩
  · have hm0 : ((m : Int) == 0) = false := by simp; omega
    by_cases h1 : N = m
    · subst h1
      have HR2 := HR
      clear hd hRm hl
      go_enter Tryz.func152, Tryz.ntmps152
      go_wp2
      go_loopw [5] (fun i wr => ∃ k d : Nat, k ≤ N ∧ i = .int .i64 k ∧ (∀ v ∈ cols.take k, 0 ≤ v ∧ v < n) ∧ wr = w.drewN d) (fun i _ => N - (intOf i).toNat)
      case atStart => exact ⟨0, 0, Nat.zero_le _, rfl, fun v hv => by simp at hv, rfl⟩
      case round =>
        obtain ⟨k, d, hk, rfl, hall, rfl⟩ := hrel
        have HA := Lib.hid hall
        clear hall
        by_cases hlt : k < N
        · have hkl : k < cols.length := by have := HL.out; omega
          obtain ⟨v, hv⟩ : ∃ v, cols[k]? = some v := ⟨_, List.getElem?_eq_getElem hkl⟩
          obtain ⟨r, hr⟩ : ∃ r, R[k]? = some r := ⟨_, List.getElem?_eq_getElem (by have := HR.out; omega)⟩
          obtain ⟨ad, rfl, hcv⟩ := HC.out k v hv
          obtain ⟨ah, rfl, hcr⟩ := HCE.out k r hr
          have hrl : r.2.2.length = n := (HD.out.rows _ (nums_mem (List.mem_of_getElem? hr))).1
          have hvz := HZ.out.at hv
          have HNO : ∀ (_ : v < 0 ∨ (n : Int) ≤ v), meetB N n cols = false := fun h => decide_eq_false (fun hm => by have := hm.2.2 v (List.mem_of_getElem? hv); omega)
          have HNX : Hid (∀ u ∈ cols.take (k + 1), (0 ≤ v ∧ v < n) → 0 ≤ u ∧ u < n) := Lib.hid (fun u hu hb => by
            rw [Ord.take_next cols k v hv] at hu
            rcases List.mem_append.1 hu with h | h
            · exact HA.out u h
            · simp at h; subst h; exact hb)
          obtain ⟨gr, gc, zs⟩ := r
          unfold rowHd at hcr
          simp only at hcr hrl
          rw [hrl] at hcr
          have HNO := Lib.hid HNO
          clear hv hr hrl
          by_cases c1 : v < 0
          · have HF := Lib.hid (HNO.out (.inl c1))
            go_wp2
            go_quiet (fail)
            go_wp2
            go_ret
            exact ⟨ret_b HF.out.symm, by (repeat' (first | (with_reducible first | exact Below.refl _ _ | assumption | refine below_over ?_ _ _ | refine Lw.below_alloc ?_ _ | refine Below.drew ?_ | refine below_drewN ?_ _ | refine Below.setCell ?_ ?_ _) | go_size))⟩
          · by_cases c2 : (n : Int) ≤ v
            · have HF := Lib.hid (HNO.out (.inr c2))
              go_wp2
              go_quiet (fail)
              go_wp2
              go_ret
              exact ⟨ret_b HF.out.symm, by (repeat' (first | (with_reducible first | exact Below.refl _ _ | assumption | refine below_over ?_ _ _ | refine Lw.below_alloc ?_ _ | refine Below.drew ?_ | refine below_drewN ?_ _ | refine Below.setCell ?_ ?_ _) | go_size))⟩
            · go_wp2
              go_quiet (fail)
              go_wp2
              go_roundw
              case rel => exact ⟨k + 1, _, by omega, by go_num, fun u hu => HNX.out u hu ⟨by omega, by omega⟩, rfl⟩
              case measure => simp [intOf]; omega
        · have e : k = N := by omega
          subst e
          have HT : Hid (meetB k n cols = true) := Lib.hid (decide_eq_true ⟨by omega, HL.out, fun v hv => HA.out v (by rw [List.take_of_length_le (by have := HL.out; omega)]; exact hv)⟩)
          go_wp2
          go_ret
          exact ⟨ret_b HT.out.symm, by (repeat' (first | (with_reducible first | exact Below.refl _ _ | assumption | refine below_over ?_ _ _ | refine Lw.below_alloc ?_ _ | refine Below.drew ?_ | refine below_drewN ?_ _ | refine Below.setCell ?_ ?_ _) | go_size))⟩
    · have hr : meetB m n cols = false := decide_eq_false (fun h => h1 (by rw [← h.2.1]; exact hl.symm))
      have hne : ((N : Int) == m) = false := by simp; omega
      have hne2 : ((N : Int) != m) = true := by simp; omega
      clear hd hRm hl
      go_enter Tryz.func152, Tryz.ntmps152
      go_wp2
      go_ret
      exact ⟨ret_b hr.symm, Below.refl _ _⟩
theorem ret_ri {A : Option Addr} {n c : Nat} {x y : Int} (h : x = y) : Ending.returned (.tuple #[.slice A n c, .int .i64 x]) = .returned (.tuple #[.slice A n c, .int .i64 y]) := by rw [h]
theorem dg_up {w w' : World} {q : Addr} {F : Nat → Prop} {m n : Nat} {L : List (List Int)} (h : DG w q F m n L) (hb : Below w.heap.size w w') : DG w' q F m n L := (dgT q F m n L).keep w w' (fun _ => False) h (Kept.of_below hb) (fun _ _ h => h)
theorem own_up {w w' : World} {B : Nat} {e : TypeId} {v : Value} {n : Nat} {xs : List Value} (h : w.ownsRow B e 1 v n xs) (hb : Below w.heap.size w w') : w'.ownsRow B e 1 v n xs := (Kept.of_below (F := fun _ => False) hb).own h (fun _ _ h => h)
set_option maxRecDepth 100000 in
set_option maxHeartbeats 4000000 in
theorem rread_any (q : Addr) (F : Nat → Prop) (m n : Nat) (L : List (List Int)) (A : Option Addr) (N cap : Nat) (cols : List Int) (w : World) (h : DG w q F m n L) (hc : Rd .i64 w A cols) (hl : cols.length = N) (hN : N ≤ 1000) (hz : In64 cols) :
    Calls Tryz.prog 164 #[.pointer (some q), .slice A N cap] w fun e w' => ∃ (A2 : Addr) (len cap2 : Nat), e = .returned (.tuple #[.slice (some A2) len cap2, .int .i64 (rdCode m n cols)]) ∧ Rd .i64 w' (some A2) (readOf m n L cols) ∧ (readOf m n L cols).length = len ∧ len ≤ cap2 ∧ cap2 ≤ maxLen ∧ Below w.heap.size w w' := by
  obtain ⟨i0, hi, hz0, hz1, hz2⟩ := info_parts i64_info
  have HH := Lib.hid h
  have hm8 := h.dims.m8
  have hn128 := h.dims.n128
  have HC := Lib.hid hc
  have HL := Lib.hid hl
  have HZ := Lib.hid hz
  by_cases hme : Meets m n cols
  · have e1 : meetB m n cols = true := decide_eq_true hme
    have hNm : N = m := by rw [← hl]; exact hme.2.1
    subst hNm
    have HME := Lib.hid hme
    have HCD : Hid (rdCode N n cols = 0) := Lib.hid (if_pos hme)
    have HRE : Hid (readOf N n L cols = named L cols) := Lib.hid (if_pos hme)
    obtain ⟨b, hdr, R, rfl, hg, rfl, hG, hd⟩ := h
    have hRm : R.length = N := by rw [← nums_len]; exact hd.len
    have HD := Lib.hid hd
    have HR := Lib.hid hRm
    obtain ⟨Ah, caph, rfl, hcaph, hAh, hcell⟩ := hg.hd
    have hb := cell_of_row w b 0 _ _ _ hg.cell
    simp only [List.getElem?_toArray, List.getElem?_cons_zero] at hb
    rw [hRm] at hb
    have HBH := Lib.hid hb
    have HCE := Lib.hid hcell
    have HG := Lib.hid hg
    clear hc hz hcell hAh hg hG hcaph hme hd hRm hl hb
    go_enter Tryz.func164, Tryz.ntmps164
    go_wp2_with (go_at_call 152; (with_reducible refine (rmeet_any _ F N n (nums R) A N cap cols _ (dg_up HH.out (by repeat' (first | (with_reducible first | exact Below.refl _ _ | assumption | refine below_over ?_ _ _ | refine Lw.below_alloc ?_ _ | refine Below.drew ?_ | refine below_drewN ?_ _ | refine Below.setCell ?_ ?_ _) | go_size))) (HC.out.up (by repeat' (first | (with_reducible first | exact Below.refl _ _ | assumption | refine below_over ?_ _ _ | refine Lw.below_alloc ?_ _ | refine Below.drew ?_ | refine below_drewN ?_ _ | refine Below.setCell ?_ ?_ _) | go_size))) HL.out hN HZ.out).mono ?_); rintro e w2 ⟨rfl, hb2⟩; have HBW : Hid (Below w.heap.size w w2) := Lib.hid (below_call (by repeat' (first | (with_reducible first | exact Below.refl _ _ | assumption | refine below_over ?_ _ _ | refine Lw.below_alloc ?_ _ | refine Below.drew ?_ | refine below_drewN ?_ _ | refine Below.setCell ?_ ?_ _) | go_size)) hb2 (Nat.le_refl _)); have HOW2 : Hid (w2.ownsRow w.heap.size 2 1 (.slice (some ⟨w.heap.size, 0, none⟩) 0 0) 0 (([] : List Int).map (Value.int .i64))) := Lib.hid (own_up (own_empty w _ 1 _ (Nat.le_refl _)) hb2); clear hb2)
    go_loopw [6, 7] (fun v i wr => ∃ (k : Nat) (A1 : Addr) (cp : Nat), k ≤ N ∧ i = .int .i64 k ∧ v = .slice (some A1) k cp ∧ wr.ownsRow w.heap.size 2 1 v k ((named ((nums R).take k) (cols.take k)).map (Value.int .i64)) ∧ Below w.heap.size w wr) (fun _ i _ => N - (intOf i).toNat)
    case atStart => exact ⟨0, ⟨w.heap.size, 0, none⟩, 0, Nat.zero_le _, rfl, rfl, HOW2.out, HBW.out⟩
    case round =>
      obtain ⟨k, A1, cp, hk, rfl, rfl, hown, hbel⟩ := hrel
      have HOW := Lib.hid hown
      have HBL := Lib.hid hbel
      by_cases hlt : k < N
      · obtain ⟨v, hv⟩ : ∃ v, cols[k]? = some v := ⟨_, List.getElem?_eq_getElem (by have := HL.out; omega)⟩
        obtain ⟨r, hr⟩ : ∃ r, R[k]? = some r := ⟨_, List.getElem?_eq_getElem (by have := HR.out; omega)⟩
        obtain ⟨ad, rfl, hcv⟩ := HC.out k v hv
        obtain ⟨ah, rfl, hcr⟩ := HCE.out k r hr
        have hrl : r.2.2.length = n := (HD.out.rows _ (nums_mem (List.mem_of_getElem? hr))).1
        have hrz := (HD.out.rows _ (nums_mem (List.mem_of_getElem? hr))).2
        have hvb := HME.out.2.2 v (List.mem_of_getElem? hv)
        obtain ⟨vn, rfl⟩ : ∃ vn : Nat, v = vn := ⟨v.toNat, by omega⟩
        obtain ⟨x, hx⟩ : ∃ x, r.2.2[vn]? = some x := ⟨_, List.getElem?_eq_getElem (by omega)⟩
        have hcx := HG.out.numAt (List.mem_of_getElem? hr) hx
        have hxb := hrz.at hx
        have HNX := Lib.hid (named_next (nums R) cols k r.2.2 vn (by unfold nums; rw [List.getElem?_map, hr]; rfl) hv)
        have hget : r.2.2[(vn : Int).toNat]?.getD 0 = x := by rw [show (vn : Int).toNat = vn from rfl, hx]; rfl
        rw [hget] at HNX
        obtain ⟨gr, gc, zs⟩ := r
        unfold rowHd at hcr
        simp only at hcr hrl hcx
        rw [hrl] at hcr
        obtain ⟨gad, hgad⟩ : ∃ gad : Addr, (⟨gr, 0, none⟩ : Addr) = gad := ⟨_, rfl⟩
        rw [hgad] at hcr hcx
        clear hv hr hx hrl hrz hget hgad hown hbel
        have hbs := HBL.out.size
        go_wp2
        go_region_held3 (fun w' => w'.cell? ⟨b, 0, none⟩ = some (.slice (some ah) N caph) ∧ w'.cell? (ah.add k) = some (.slice (some gad) n gc) ∧ w'.cell? (ad.add k) = some (.int .i64 vn) ∧ w'.cell? (gad.add vn) = some (.int .i64 x)) (refine ⟨cell_up HBH.out ?_, cell_up hcr ?_, cell_up hcv ?_, cell_up hcx ?_⟩ <;> (repeat' (first | (with_reducible exact Below.refl _ _) | (with_reducible assumption) | (with_reducible exact HBL.out) | (with_reducible refine below_over ?_ _ _) | (with_reducible refine Lw.below_alloc ?_ _) | (with_reducible refine Below.drew ?_) | (with_reducible refine below_drewN ?_ _) | (with_reducible refine Below.setCell ?_ ?_ _) | go_size))) (first
          | (refine app_step .i64 rfl _ _ 54 rfl w.heap.size 2 i0 8 i64s_u hi hz0 hz1 hz2 (.slice (some A1) k cp) k (named ((nums R).take k) (cols.take k)) rfl (own_up HOW.out (by repeat' (first | (with_reducible first | exact Below.refl _ _ | assumption | refine below_over ?_ _ _ | refine Lw.below_alloc ?_ _ | refine Below.drew ?_ | refine below_drewN ?_ _ | refine Below.setCell ?_ ?_ _) | go_size))) (fun h => by cases h) _ 1 1 [x] rfl (by simp) rfl (rd_one (by simp [go_sem])) (by unfold maxLen; omega) (by omega) (by simp <;> omega) ?_; intro A8 cap8 w8 own8 grow8 rd8 c8 d8; have hb8 := app_below3 (w := w) (by repeat' (first | (with_reducible exact Below.refl _ _) | (with_reducible assumption) | (with_reducible exact HBL.out) | (with_reducible refine below_over ?_ _ _) | (with_reducible refine Lw.below_alloc ?_ _) | (with_reducible refine Below.drew ?_) | (with_reducible refine below_drewN ?_ _) | (with_reducible refine Below.setCell ?_ ?_ _) | go_size)) grow8 (fun q hq => own_ge HOW.out q hq)))
        all_goals go_wp2
        all_goals go_roundw
        all_goals first
          | exact ⟨k + 1, A8, cap8, by omega, by go_num, rfl, by rw [HNX.out]; exact own8, hb8⟩
          | (simp [intOf]; omega)
      · have e : k = N := by omega
        subst e
        have hfull : named ((nums R).take k) (cols.take k) = named (nums R) cols := by
          rw [List.take_of_length_le (by rw [HD.out.len]; exact Nat.le_refl _), List.take_of_length_le (by rw [HL.out]; exact Nat.le_refl _)]
        rw [hfull] at hown
        obtain ⟨A3, cp3, hv3, hrd3, h2, h3, h4⟩ := own_rd hown
        injection hv3 with hv1 hv2 hv3
        subst hv1 hv3
        have HRD := Lib.hid hrd3
        have HLN : Hid ((named (nums R) cols).length = k) := Lib.hid (by rw [named_len (by rw [HL.out, HD.out.len]), HD.out.len])
        clear hfull hown hrd3 h4 hbel
        go_wp2
        go_ret2
        exact ⟨A1, k, cp, ret_ri HCD.out.symm, by rw [HRE.out]; exact HRD.out, by rw [HRE.out]; exact HLN.out, h2, h3, HBL.out⟩
  · have e1 : meetB m n cols = false := decide_eq_false hme
    have HCD : Hid (rdCode m n cols = 1) := Lib.hid (if_neg hme)
    have HRE : Hid (readOf m n L cols = []) := Lib.hid (if_neg hme)
    clear h hc hl hz hme
    go_enter Tryz.func164, Tryz.ntmps164
    go_wp2_with (go_at_call 152; (with_reducible refine (rmeet_any q F m n L A N cap cols _ (dg_up HH.out (by repeat' (first | (with_reducible first | exact Below.refl _ _ | assumption | refine below_over ?_ _ _ | refine Lw.below_alloc ?_ _ | refine Below.drew ?_ | refine below_drewN ?_ _ | refine Below.setCell ?_ ?_ _) | go_size))) (HC.out.up (by repeat' (first | (with_reducible first | exact Below.refl _ _ | assumption | refine below_over ?_ _ _ | refine Lw.below_alloc ?_ _ | refine Below.drew ?_ | refine below_drewN ?_ _ | refine Below.setCell ?_ ?_ _) | go_size))) HL.out hN HZ.out).mono ?_); rintro e w2 ⟨rfl, hb2⟩; have HBW : Hid (Below w.heap.size w w2) := Lib.hid (below_call (by repeat' (first | (with_reducible first | exact Below.refl _ _ | assumption | refine below_over ?_ _ _ | refine Lw.below_alloc ?_ _ | refine Below.drew ?_ | refine below_drewN ?_ _ | refine Below.setCell ?_ ?_ _) | go_size)) hb2 (Nat.le_refl _)); clear hb2)
    all_goals go_ret2
    all_goals exact ⟨⟨w.heap.size, 0, none⟩, 0, 0, ret_ri HCD.out.symm, by rw [HRE.out]; exact rd_nil _ _ _, by rw [HRE.out]; rfl, Nat.le_refl _, by simp, HBW.out⟩
theorem named_mem : ∀ {L : List (List Int)} {cols : List Int}, (∀ r ∈ L, In64 r) → In64 (named L cols)
  | [], _, _ => fun v hv => by simp [named] at hv
  | _ :: _, [], _ => fun v hv => by simp [named] at hv
  | r :: L, c :: cols, h => fun v hv => by
    unfold named at hv
    rw [List.zipWith_cons_cons] at hv
    rcases List.mem_cons.1 hv with h1 | h1
    · subst h1
      cases hx : r[c.toNat]? with
      | none => simp
      | some x => simpa using (h r (by simp)).at hx
    · exact named_mem (L := L) (cols := cols) (fun r hr => h r (by simp [hr])) v h1
theorem read_ok {m n : Nat} {L : List (List Int)} {cols : List Int} (h : Dims m n L) : In64 (readOf m n L cols) ∧ (readOf m n L cols).length ≤ 1000 := by
  unfold readOf
  split
  · refine ⟨named_mem (fun r hr => (h.rows r hr).2), ?_⟩
    unfold named
    rw [List.length_zipWith, h.len]
    have := h.m8
    omega
  · exact ⟨in64_nil, by simp⟩
set_option maxRecDepth 100000 in
theorem rleast_any (q : Addr) (F : Nat → Prop) (m n : Nat) (L : List (List Int)) (A : Option Addr) (N cap : Nat) (cols : List Int) (w : World) (h : DG w q F m n L) (hc : Rd .i64 w A cols) (hl : cols.length = N) (hN : N ≤ 1000) (hz : In64 cols) :
    Calls Tryz.prog 151 #[.pointer (some q), .slice A N cap] w fun e w' => e = .returned (.tuple #[.int .i64 (Ord.kv (readOf m n L cols) (0)), .int .i64 (rdCode m n cols)]) ∧ Below w.heap.size w w' := by
  have HH := Lib.hid h
  have HC := Lib.hid hc
  have HL := Lib.hid hl
  have HZ := Lib.hid hz
  have hin : Hid (In64 (readOf m n L cols) ∧ (readOf m n L cols).length ≤ 1000) := Lib.hid (read_ok h.dims)
  clear h hc hl hz
  go_enter Tryz.func151, Tryz.ntmps151
  go_wp2_with (first
    | (go_at_call 164; (with_reducible refine (rread_any q F m n L A N cap cols _ HH.out HC.out HL.out hN HZ.out).mono ?_); rintro e w2 ⟨A2, len, cap2, rfl, hrd, hlen, hc2, hm2, hb2⟩; have HRD := Lib.hid hrd; have HLE := Lib.hid hlen; have hle : len ≤ 1000 := (by rw [← hlen]; exact hin.out.2); have HB2 := Lib.hid hb2; clear hrd hlen hb2)
    | (go_at_call 165; (with_reducible refine (Ord.rmin_any (some A2) len cap2 (readOf m n L cols) _ (by simp) hc2 hm2 (HRD.out.up (by repeat' (first | (with_reducible first | exact Below.refl _ _ | assumption | refine below_over ?_ _ _ | refine Lw.below_alloc ?_ _ | refine Below.drew ?_ | refine below_drewN ?_ _ | refine Below.setCell ?_ ?_ _) | go_size))) HLE.out hle hin.out.1).mono ?_); rintro e w3 ⟨rfl, hb3⟩; have HB3 := Lib.hid (below_call HB2.out hb3 (Nat.le_refl _)); clear hb3))
  all_goals go_ret2
  all_goals exact ⟨rfl, HB3.out⟩
set_option maxRecDepth 100000 in
theorem rmiddle_any (q : Addr) (F : Nat → Prop) (m n : Nat) (L : List (List Int)) (A : Option Addr) (N cap : Nat) (cols : List Int) (w : World) (h : DG w q F m n L) (hc : Rd .i64 w A cols) (hl : cols.length = N) (hN : N ≤ 1000) (hz : In64 cols) :
    Calls Tryz.prog 153 #[.pointer (some q), .slice A N cap] w fun e w' => e = .returned (.tuple #[.int .i64 (Ord.kv (readOf m n L cols) ((((readOf m n L cols).length : Int) - 1) / 2)), .int .i64 (rdCode m n cols)]) ∧ Below w.heap.size w w' := by
  have HH := Lib.hid h
  have HC := Lib.hid hc
  have HL := Lib.hid hl
  have HZ := Lib.hid hz
  have hin : Hid (In64 (readOf m n L cols) ∧ (readOf m n L cols).length ≤ 1000) := Lib.hid (read_ok h.dims)
  clear h hc hl hz
  go_enter Tryz.func153, Tryz.ntmps153
  go_wp2_with (first
    | (go_at_call 164; (with_reducible refine (rread_any q F m n L A N cap cols _ HH.out HC.out HL.out hN HZ.out).mono ?_); rintro e w2 ⟨A2, len, cap2, rfl, hrd, hlen, hc2, hm2, hb2⟩; have HRD := Lib.hid hrd; have HLE := Lib.hid hlen; have hle : len ≤ 1000 := (by rw [← hlen]; exact hin.out.2); have HB2 := Lib.hid hb2; clear hrd hlen hb2)
    | (go_at_call 166; (with_reducible refine (Ord.rmedian_any (some A2) len cap2 (readOf m n L cols) _ (by simp) hc2 hm2 (HRD.out.up (by repeat' (first | (with_reducible first | exact Below.refl _ _ | assumption | refine below_over ?_ _ _ | refine Lw.below_alloc ?_ _ | refine Below.drew ?_ | refine below_drewN ?_ _ | refine Below.setCell ?_ ?_ _) | go_size))) HLE.out hle hin.out.1).mono ?_); rintro e w3 ⟨rfl, hb3⟩; have HB3 := Lib.hid (below_call HB2.out hb3 (Nat.le_refl _)); clear hb3))
  all_goals go_ret2
  all_goals exact ⟨rfl, HB3.out⟩
end Go.Proofs.YtkflggojiiebeaaGreat.Lin

namespace Go.Proofs.YtkflggojiiebeaaGreat.Con
open Go Go.RowKit Lw Grd Lin
set_option linter.unusedVariables false
set_option linter.unusedSimpArgs false
theorem rlea_any (q : Addr) (F : Nat → Prop) (m n : Nat) (L : List (List Int)) (A : Option Addr) (N cap : Nat) (cols : List Int) (w : World) (h : DG w q F m n L) (hc : Rd .i64 w A cols) (hl : cols.length = N) (hN : N ≤ 1000) (hz : In64 cols) (hm : Meets m n cols) :
    Calls Tryz.prog 151 #[.pointer (some q), .slice A N cap] w fun e w' => e = .returned (.tuple #[.int .i64 (lea L cols), .int .i64 0]) ∧ Below w.heap.size w w' := by
  refine (rleast_any q F m n L A N cap cols w h hc hl hN hz).mono fun e w' ⟨he, hb⟩ => ?_
  have e1 : readOf m n L cols = named L cols := if_pos hm
  have e2 : rdCode m n cols = 0 := if_pos hm
  rw [e1, e2] at he
  exact ⟨he, hb⟩
end Go.Proofs.YtkflggojiiebeaaGreat.Con

namespace Go.Proofs.YtkflggojiiebeaaGreat.Sk
open Go Go.RowKit Lw Grd Lin Con Shp
set_option linter.unusedVariables false
theorem pt_ok {c : Cfg} {l k : Int} (hk : k < keys c l) : ptCode c l k = 0 := if_neg (by omega)
end Go.Proofs.YtkflggojiiebeaaGreat.Sk

namespace Go.Proofs.YtkflggojiiebeaaGreat.Exa
open Go Go.RowKit Lw Grd Lin Con Shp Sk
set_option linter.unusedVariables false
set_option linter.unusedSimpArgs false
theorem DA.up {w' : World} {w : World} {p : Addr} {F : Nat → Prop} {c : Cfg} {l : Int} {L : List Int} (h : DA w p F c l L) (hk : Below w.heap.size w w') : DA w' p F c l L := h.keep (Kept.of_below (F := fun _ => False) hk) (fun _ _ h => h)
theorem daI {w : World} {p : Addr} {F : Nat → Prop} {c : Cfg} {l : Int} {L : List Int} (h : (daT p F c l L).I w) : DA w p F c l L := h
set_option maxRecDepth 100000 in
theorem apoint_no (p : Addr) (F : Nat → Prop) (c : Cfg) (l : Int) (L : List Int) (k : Int) (w : World) (h : DA w p F c l L) (k0 : 0 ≤ k) (k1 : k ≤ 18446744073709551615) (hk : (L.length : Int) ≤ k) :
    Calls Tryz.prog 126 #[.pointer (some p), .int .u64 k] w fun e w' => e = .returned (.tuple #[.int .i64 0, .int .i64 2]) ∧ Below w.heap.size w w' := by
  obtain ⟨h1, h2, h3, b, g, cap, rfl, hb, hm, h4, h5, h6, rfl⟩ := h
  have hbl := size_of_heap hb
  have hgl := hm.lt
  have c0 := grd_cell hb 0 (v := .int .i64 c.bt) rfl
  have c1 := grd_cell hb 1 (v := .int .i64 c.rw) rfl
  have c2 := grd_cell hb 2 (v := .int .i64 c.wd) rfl
  have c3 := grd_cell hb 3 (v := .int .i64 c.md) rfl
  have c4 := grd_cell hb 4 (v := .int .u64 c.sd) rfl
  have c5 := grd_cell hb 5 (v := .int .i64 l) rfl
  have c6 := grd_cell hb 6 (v := .slice (some ⟨g, 0, none⟩) L.length cap) rfl
  have u1 : IntKind.u64.wrap (L.length : Int) = (L.length : Int) := by rw [IntKind.wrap_u64]; omega
  clear hb hm h3
  go_enter Tryz.func126, Tryz.ntmps126
  go_wp2
  all_goals go_ret2
  all_goals exact ⟨rfl, (by repeat' (first | (with_reducible first | exact Below.refl _ _ | assumption | refine below_over ?_ _ _ | refine Lw.below_alloc ?_ _ | refine Below.drew ?_ | refine below_drewN ?_ _ | refine Below.setCell ?_ ?_ _) | go_size))⟩
set_option maxRecDepth 100000 in
theorem apoint_yes (p : Addr) (F : Nat → Prop) (c : Cfg) (l : Int) (L : List Int) (k : Int) (w : World) (h : DA w p F c l L) (k0 : 0 ≤ k) (k1 : k ≤ 18446744073709551615) (hk : k < (L.length : Int)) :
    Calls Tryz.prog 126 #[.pointer (some p), .int .u64 k] w fun e w' => e = .returned (.tuple #[.int .i64 (num L k), .int .i64 0]) ∧ Below w.heap.size w w' := by
  obtain ⟨h1, h2, h3, b, g, cap, rfl, hb, hm, h4, h5, h6, rfl⟩ := h
  have hbl := size_of_heap hb
  have hgl := hm.lt
  have c0 := grd_cell hb 0 (v := .int .i64 c.bt) rfl
  have c1 := grd_cell hb 1 (v := .int .i64 c.rw) rfl
  have c2 := grd_cell hb 2 (v := .int .i64 c.wd) rfl
  have c3 := grd_cell hb 3 (v := .int .i64 c.md) rfl
  have c4 := grd_cell hb 4 (v := .int .u64 c.sd) rfl
  have c5 := grd_cell hb 5 (v := .int .i64 l) rfl
  have c6 := grd_cell hb 6 (v := .slice (some ⟨g, 0, none⟩) L.length cap) rfl
  obtain ⟨K, rfl⟩ : ∃ K : Nat, k = K := ⟨k.toNat, by omega⟩
  have hK : K < L.length := by omega
  obtain ⟨v, hv⟩ : ∃ v, L[K]? = some v := ⟨_, List.getElem?_eq_getElem hK⟩
  have hn : num L (K : Int) = v := by unfold num; rw [Int.toNat_natCast, hv]; rfl
  have cv := hm.cell hv
  rw [hn]
  have u1 : IntKind.u64.wrap (L.length : Int) = (L.length : Int) := by rw [IntKind.wrap_u64]; omega
  have hkx : ¬ (L.length : Int) ≤ (K : Int) := by omega
  obtain ⟨ga, hga⟩ : ∃ a : Addr, (⟨g, 0, none⟩ : Addr) = a := ⟨_, rfl⟩
  rw [← Ord.add_at, hga] at cv
  rw [hga] at c6
  clear hb hm h3 hv hn
  go_enter Tryz.func126, Tryz.ntmps126
  go_wp2
  all_goals go_ret2
  all_goals exact ⟨rfl, (by repeat' (first | (with_reducible first | exact Below.refl _ _ | assumption | refine below_over ?_ _ _ | refine Lw.below_alloc ?_ _ | refine Below.drew ?_ | refine below_drewN ?_ _ | refine Below.setCell ?_ ?_ _) | go_size))⟩
theorem i64_info : (Tryz.prog.info? 2).map (fun i => (i.zero, i.size, i.bytes)) = some (some (.int .i64 0), 1, 8) := by kernel_rfl
theorem i64s_u : Tryz.prog.underlying 54 = some (.slice 2) := by kernel_rfl
set_option maxRecDepth 100000 in
theorem anew_any (c : Cfg) (l : Int) (n : Nat) (w : World) (h : c.Ok) (hn : n ≤ 128) :
    Calls Tryz.prog 87 #[.agg #[.int .i64 c.bt, .int .i64 c.rw, .int .i64 c.wd, .int .i64 c.md, .int .u64 c.sd], .int .i64 l, .int .u64 (n : Int)] w fun e w' => ∃ (p : Addr) (F : Nat → Prop), e = .returned (.pointer (some p)) ∧ DA w' p F c l (List.replicate n 0) ∧ (∀ k, F k → w.heap.size ≤ k) ∧ Below w.heap.size w w' := by
  obtain ⟨i0, hi, hz0, hz1, hz2⟩ := info_parts i64_info
  have hmk : ∀ w, (Instr.makeSlice 54 (.int .u64 (n : Int)) (.int .u64 (n : Int))).run Tryz.prog w = .ok (.slice (some ⟨w.heap.size, 0, none⟩) n n) (w.alloc (.cells (madeCells #[.int .i64 0] n) 2)) := by
    intro w
    have h := run_make (P := Tryz.prog) w 54 2 i0 (.int .i64 0) i64s_u hi hz0 .u64 .u64 n n (by omega) (Int.le_refl _) (by rw [hz2]; omega) (by omega)
    rw [hz1] at h
    simpa [Value.cells] using h
  have hmin : ∀ w : World, (Builtin.min_ #[22, 22] 22 #[.int .u64 (n : Int), .int .u64 128]).run Tryz.prog w = .ok (.int .u64 (n : Int)) w := fun w => by
    have e : ¬ (128 : Int) < (n : Int) := by omega
    simp [Builtin.min_, Builtin.min2, e]
  have e128 : ¬ (128 : Int) < (n : Int) := by omega
  have hmn : (if (128 : Int) < (n : Int) then (128 : Int) else (n : Int)) = (n : Int) := if_neg e128
  clear hi hz0 hz1 hz2
  go_enter Tryz.func87, Tryz.ntmps87
  go_upto_region 1 with fail
  go_region
  all_goals go_wp2
  all_goals go_ret
  have hm0 := Grd.mid_made (w.alloc (.cells #[.int .i64 c.bt, .int .i64 c.rw, .int .i64 c.wd, .int .i64 c.md, .int .u64 c.sd] 24)) n 2
  rw [World.size_alloc] at hm0
  have hn0 := heap_alloc_new ((w.alloc (.cells #[.int .i64 c.bt, .int .i64 c.rw, .int .i64 c.wd, .int .i64 c.md, .int .u64 c.sd] 24)).alloc (.cells (madeCells #[.int .i64 0] n) 2)) (.cells #[.int .i64 c.bt, .int .i64 c.rw, .int .i64 c.wd, .int .i64 c.md, .int .u64 c.sd, .int .i64 l, .slice (some ⟨w.heap.size + 1, 0, none⟩) n n] 138)
  rw [World.size_alloc, World.size_alloc] at hn0
  refine ⟨_, rfl, fun k => k = w.heap.size + 1 + 1 ∨ k = w.heap.size + 1, ⟨h, by simp; omega, fun v hv => by have := (List.mem_replicate.1 hv).2; omega, _, w.heap.size + 1, n, rfl, ?_, hm0.up (by repeat' (first | (with_reducible first | exact Below.refl _ _ | assumption | refine below_over ?_ _ _ | refine Lw.below_alloc ?_ _ | refine Below.drew ?_ | refine below_drewN ?_ _ | refine Below.setCell ?_ ?_ _) | go_size)), by simp, by unfold maxLen; omega, by omega, rfl⟩, fun k hk => by omega, (by repeat' (first | (with_reducible first | exact Below.refl _ _ | assumption | refine below_over ?_ _ _ | refine Lw.below_alloc ?_ _ | refine Below.drew ?_ | refine below_drewN ?_ _ | refine Below.setCell ?_ ?_ _) | go_size))⟩
  rw [List.length_replicate]
  exact hn0
end Go.Proofs.YtkflggojiiebeaaGreat.Exa

namespace Go.Proofs.YtkflggojiiebeaaGreat.Exa
open Go Go.RowKit Lw Grd Lin Con Shp Sk
set_option linter.unusedVariables false
set_option linter.unusedSimpArgs false
theorem apoint_any (p : Addr) (F : Nat → Prop) (c : Cfg) (l : Int) (L : List Int) (k : Int) (w : World) (h : DA w p F c l L) (k0 : 0 ≤ k) (k1 : k ≤ 18446744073709551615) :
    Calls Tryz.prog 126 #[.pointer (some p), .int .u64 k] w fun e w' => e = .returned (.tuple #[.int .i64 (ptV L k), .int .i64 (ptC L k)]) ∧ Below w.heap.size w w' := by
  unfold ptV ptC
  by_cases hk : (L.length : Int) ≤ k
  · rw [if_pos hk, if_pos hk]
    exact apoint_no p F c l L k w h k0 k1 hk
  · rw [if_neg hk, if_neg hk]
    exact apoint_yes p F c l L k w h k0 k1 (by omega)
end Go.Proofs.YtkflggojiiebeaaGreat.Exa

namespace Go.Proofs.YtkflggojiiebeaaGreat.Shp
open Go Go.RowKit Lw
set_option linter.unusedVariables false
set_option linter.unusedSimpArgs false
set_option maxRecDepth 100000 in
set_option maxHeartbeats 2000000 in
theorem rcols_own (c : Cfg) (l k : Int) (w : World) (h : c.Ok) (l0 : -9223372036854775808 ≤ l) (l1 : l ≤ 9223372036854775807) (k0 : 0 ≤ k) (k1 : k ≤ 18446744073709551615) :
    Calls Tryz.prog 122 #[.agg #[.int .i64 c.bt, .int .i64 c.rw, .int .i64 c.wd, .int .i64 c.md, .int .u64 c.sd], .int .i64 l, .int .u64 k] w fun e w' => ∃ (A : Addr) (cap : Nat), e = .returned (.slice (some A) (cols c l k).length cap) ∧ Rd .i64 w' (some A) (cols c l k) ∧ (cols c l k).length ≤ cap ∧ cap ≤ maxLen ∧ w.heap.size ≤ A.block ∧ Below w.heap.size w w' := by
  obtain ⟨i0, hi, hi0, hi1, hi2⟩ := info_parts int_info
  have HO := Lib.hid h
  obtain ⟨b0, b1, r0, r1, w0, w1, m0, m1, s0, s1⟩ := h
  have hkl := keys_bd c l
  have hpos := keys_pos (c := c) (l := l)
  have HY := Lib.hid (@cols_yes c l k)
  have HNo := Lib.hid (@cols_no c l k)
  obtain ⟨K, hK⟩ : ∃ K, keys c l = K := ⟨_, rfl⟩
  rw [hK] at hkl hpos HY HNo
  by_cases h1 : k < K
  · obtain ⟨hr, hl0, hl1⟩ := hpos.1 (by omega)
    have hb59 := hr.2.1
    have hr1 := hr.2.2.1
    have hr2 := hr.2.2.2.1
    have HC := Lib.hid (HY.out h1)
    obtain ⟨R, hR⟩ : ∃ R : Nat, c.rw = R := ⟨c.rw.toNat, by omega⟩
    have HR : Hid (c.rw.toNat = R) := Lib.hid (by omega)
    have hR8 : R ≤ 8 := by omega
    have HRW := Lib.hid hR
    clear hpos hr hR
    go_enter Tryz.func122, Tryz.ntmps122
    go_wp2_with (go_at_call 37; (with_reducible refine (rkeys_any c l _ HO.out l0 l1).mono ?_); rintro e w' ⟨he, hb⟩; rw [hK] at he; subst he; obtain ⟨bs, d, rfl⟩ := below_grow hb; clear hb)
    obtain ⟨wK, hw1⟩ : ∃ wK : World, wK = grow ((w.alloc (.cells #[.int .i64 c.bt, .int .i64 c.rw, .int .i64 c.wd, .int .i64 c.md, .int .u64 c.sd] 24)).alloc (.cells #[] 3)) bs d := ⟨_, rfl⟩
    have hwb : Below w.heap.size w wK := by rw [hw1]; repeat' (first | (with_reducible first | exact Below.refl _ _ | assumption | refine below_over ?_ _ _ | refine Lw.below_alloc ?_ _ | refine Below.drew ?_ | refine below_drewN ?_ _ | refine Below.setCell ?_ ?_ _) | go_size)
    have hwc : wK.heap[w.heap.size]? = some (.cells #[.int .i64 c.bt, .int .i64 c.rw, .int .i64 c.wd, .int .i64 c.md, .int .u64 c.sd] 24 (0, 0)) := by
      rw [hw1, (grow_below _ bs d).block _ (by simp), (Lw.below_alloc (Below.refl (w.alloc (.cells #[.int .i64 c.bt, .int .i64 c.rw, .int .i64 c.wd, .int .i64 c.md, .int .u64 c.sd] 24)).heap.size _) _).block _ (by simp)]
      exact heap_alloc_new w _
    have hwo : wK.ownsRow (w.heap.size + 1) 3 1 (.slice (some ⟨w.heap.size + 1, 0, none⟩) 0 0) 0 (([] : List Int).map (Value.int .i64)) := by
      rw [hw1]
      have h := own_empty (w.alloc (.cells #[.int .i64 c.bt, .int .i64 c.rw, .int .i64 c.wd, .int .i64 c.md, .int .u64 c.sd] 24)) 3 1 (w.heap.size + 1) (by simp)
      have e : (w.alloc (.cells #[.int .i64 c.bt, .int .i64 c.rw, .int .i64 c.wd, .int .i64 c.md, .int .u64 c.sd] 24)).heap.size = w.heap.size + 1 := by simp
      rw [e] at h
      exact (Kept.of_below (F := fun _ => False) (grow_below _ bs d)).own h (fun _ _ h => h)
    rw [← hw1]
    clear hw1
    have HW := Lib.hid hwb
    have HX := Lib.hid hwc
    have HY2 := Lib.hid hwo
    clear hwb hwc hwo
    go_loopw [7, 8] (fun v i wr => ∃ (r g cp : Nat), r ≤ R ∧ i = .int .i64 r ∧ v = .slice (some ⟨g, 0, none⟩) r cp ∧ wr.ownsRow (w.heap.size + 1) 3 1 v r (((List.range r).map (col c l k)).map (Value.int .i64)) ∧ wr.heap[w.heap.size]? = some (.cells #[.int .i64 c.bt, .int .i64 c.rw, .int .i64 c.wd, .int .i64 c.md, .int .u64 c.sd] 24 (0, 0)) ∧ Below w.heap.size w wr) (fun _ i _ => R - (intOf i).toNat)
    case atStart => exact ⟨0, _, 0, Nat.zero_le _, rfl, rfl, HY2.out, HX.out, HW.out⟩
    case round =>
      obtain ⟨r, g, cp, hrR, rfl, rfl, hown, hbox, hbel⟩ := hrel
      have hwl : w.heap.size < wr.heap.size := by
        rcases Nat.lt_or_ge w.heap.size wr.heap.size with h | h
        · exact h
        · rw [Array.getElem?_eq_none h] at hbox; cases hbox
      have x1 : wr.cell? ⟨w.heap.size, 1, none⟩ = some (.int .i64 c.rw) := by simp [World.cell?, hbox]
      have x2 : wr.cell? ⟨w.heap.size, 2, none⟩ = some (.int .i64 c.wd) := by simp [World.cell?, hbox]
      have x4 : wr.cell? ⟨w.heap.size, 4, none⟩ = some (.int .u64 c.sd) := by simp [World.cell?, hbox]
      have HOW := Lib.hid hown
      have HBX := Lib.hid hbox
      have HBL := Lib.hid hbel
      clear hown hbox hbel
      rw [HRW.out] at x1
      by_cases hlt : r < R
      · obtain ⟨pa, hpa⟩ : ∃ pa, Sed.pairA c.sd l r = pa := ⟨_, rfl⟩
        obtain ⟨pb, hpb⟩ : ∃ pb, Sed.pairB c.sd l r = pb := ⟨_, rfl⟩
        have ba := Sed.pairA_bd c.sd l r
        have bb := Sed.pairB_bd c.sd l r
        have hok : Sed.okRow l r := ⟨hl0, by have := b1; omega, by omega, by omega⟩
        have ba := ba hok
        have bb := bb hok
        rw [hpa] at ba
        rw [hpb] at bb
        obtain ⟨X, hX⟩ : ∃ X, Hsh.buck pa pb k c.wd = X := ⟨_, rfl⟩
        have hcol : col c l k r = X := by unfold col; rw [hpa, hpb, hX]
        have HN := Lib.hid (range_next (col c l k) r)
        rw [hcol] at HN
        clear hcol hok
        go_wp2_with (first
          | (go_at_call 149; (with_reducible refine (Sed.rpair_any c.sd l r _ l0 l1 (by omega) (by omega)).mono ?_); rintro e w' ⟨he, rfl⟩; rw [hpa, hpb] at he; subst he)
          | (go_at_call 150; (with_reducible refine (Hsh.rbucket_any pa pb k c.wd _ (by omega) (by omega) (by omega) (by omega) k0 k1 w0 w1).mono ?_); rintro e w' ⟨he, rfl⟩; rw [hX] at he; subst he)
          | (at_builtin; (refine app_one .i64 rfl _ _ 228 rfl (w.heap.size + 1) 3 i0 8 ints_u hi hi0 hi1 hi2 (.slice (some ⟨g, 0, none⟩) r cp) r ((List.range r).map (col c l k)) rfl (HOW.out.alloc _) X wr.heap.size rfl (cell_one_new _ _ _) (by unfold maxLen; omega) (by omega) (by simp; omega) ?_); intro v1 w2 own1 grow1 oth1; obtain ⟨gg, cc, rfl, hgg, hgl⟩ := own1.form (by omega)))
        go_roundw
        case rel =>
          have hge := own_ge HOW.out
          refine ⟨r + 1, gg, cc, by omega, by go_num, rfl, by rw [HN.out]; exact own1, ?_, ?_⟩
          · refine ((Kept.refl (fun q => q = g) _).grown grow1 (fun q hq => .inl (by simpa [Value.ownBlock] using hq.symm))).heap (o := _) ?_ (by have := hge g rfl; omega)
            rw [(Lw.below_alloc (Below.refl wr.heap.size wr) _).block _ hwl]
            exact HBX.out
          · exact app_below3 (Lw.below_alloc HBL.out _) grow1 (fun q hq => by have := hge q hq; omega)
        case measure => simp [intOf]; omega
      · have e : r = R := by omega
        subst e
        obtain ⟨A, cp2, hv, hrd, h2, h3, h4⟩ := own_rd HOW.out
        injection hv with hv1 hv2 hv3
        subst hv1 hv3
        have hlen : ((List.range r).map (col c l k)).length = r := by simp
        have HCC : Hid (cols c l k = (List.range r).map (col c l k)) := Lib.hid (by rw [HC.out, HR.out])
        have HRD := Lib.hid hrd
        clear hrd h4
        go_wp2
        go_ret
        exact ⟨⟨g, 0, none⟩, cp, by rw [HCC.out, hlen]; rfl, by rw [HCC.out]; exact HRD.out, by rw [HCC.out, hlen]; exact h2, h3, by have := own_ge HOW.out g rfl; show w.heap.size ≤ g; omega, HBL.out⟩
  · have HC := Lib.hid (HNo.out h1)
    clear hpos
    go_enter Tryz.func122, Tryz.ntmps122
    go_wp2_with (go_at_call 37; (with_reducible refine (rkeys_any c l _ HO.out l0 l1).mono ?_); rintro e w' ⟨he, hb⟩; rw [hK] at he; subst he; obtain ⟨bs, d, rfl⟩ := below_grow hb; clear hb)
    all_goals go_ret
    all_goals refine ⟨⟨w.heap.size + 1, 0, none⟩, 0, by rw [HC.out]; rfl, by rw [HC.out]; exact rd_nil _ _ _, by rw [HC.out]; exact Nat.le_refl _, by decide, Nat.le_succ _, ?_⟩
    all_goals (repeat' (first | (with_reducible first | exact Below.refl _ _ | assumption | refine below_over ?_ _ _ | refine Lw.below_alloc ?_ _ | refine Below.drew ?_ | refine below_drewN ?_ _ | refine Below.setCell ?_ ?_ _) | go_size))
end Go.Proofs.YtkflggojiiebeaaGreat.Shp

namespace Go.Proofs.YtkflggojiiebeaaGreat.Pcs
open Go Go.RowKit Lw
set_option linter.unusedVariables false
set_option linter.unusedSimpArgs false
theorem ints_get {l : List (Nat × Nat)} {k : Nat} {p : Nat × Nat} (h : l[k]? = some p) : (ints l)[k]? = some ((p.1 : Int), (p.2 : Int)) := by
  unfold ints
  rw [List.getElem?_map, h]
  rfl
end Go.Proofs.YtkflggojiiebeaaGreat.Pcs

namespace Go.Proofs.YtkflggojiiebeaaGreat.Sk
open Go Go.RowKit Lw Grd Lin Con Shp
set_option linter.unusedVariables false
set_option linter.unusedSimpArgs false
theorem DS.up {w' : World} {w : World} {p : Addr} {F : Nat → Prop} {c : Cfg} {l : Int} {L : List (List Int)} (h : DS w p F c l L) (hk : Below w.heap.size w w') : DS w' p F c l L := h.keep (Kept.of_below (F := fun _ => False) hk) (fun _ _ h => h)
theorem dsI {w : World} {p : Addr} {F : Nat → Prop} {c : Cfg} {l : Int} {L : List (List Int)} (h : (dsT p F c l L).I w) : DS w p F c l L := h
theorem dg_alloc {w : World} {p : Addr} {F : Nat → Prop} {m n : Nat} {L : List (List Int)} (h : DG w p F m n L) (o : Obj) : DG (w.alloc o) p F m n L := dg_up h (Lw.below_alloc (Below.refl _ _) o)
set_option maxRecDepth 100000 in
theorem rsnew_any (c : Cfg) (l : Int) (w : World) (h : c.Ok) (hr : IsRight c) (l0 : 0 ≤ l) (l1 : l ≤ c.bt) :
    Calls Tryz.prog 88 #[.agg #[.int .i64 c.bt, .int .i64 c.rw, .int .i64 c.wd, .int .i64 c.md, .int .u64 c.sd], .int .i64 l] w fun e w' => ∃ (p : Addr) (F : Nat → Prop), e = .returned (.pointer (some p)) ∧ DS w' p F c l (zerosL (rws c) (wds c)) ∧ (∀ k, F k → w.heap.size ≤ k) ∧ Below w.heap.size w w' := by
  have hw1 := rws_bd hr
  have hw2 := wds_bd hr
  have N := Lib.hid (fun w => dnew_any c.rw c.wd w h.r0 h.r1 h.w0 h.w1)
  have e1 : cl c.rw 8 = rws c := cl_of (by omega) (by omega)
  have e2 : cl c.wd 128 = wds c := cl_of (by omega) (by omega)
  rw [e1, e2] at N
  have HR := Lib.hid (And.intro hr (And.intro l0 l1))
  clear hr hw1 hw2 e1 e2 l0 l1
  go_enter Tryz.func88, Tryz.ntmps88
  go_upto_region 1 with fail
  obtain ⟨w1, hw1⟩ : ∃ w1, w1 = w.alloc (.cells #[.int .i64 c.bt, .int .i64 c.rw, .int .i64 c.wd, .int .i64 c.md, .int .u64 c.sd] 24) := ⟨_, rfl⟩
  have HB1 : Hid (Below w.heap.size w w1) := Lib.hid (by rw [hw1]; (repeat' (first | (with_reducible first | exact Below.refl _ _ | assumption | refine below_over ?_ _ _ | refine Lw.below_alloc ?_ _ | refine Below.drew ?_ | refine below_drewN ?_ _ | refine Below.setCell ?_ ?_ _) | go_size)))
  have x0 : w1.cell? ⟨w.heap.size, 0, none⟩ = some (.int .i64 c.bt) := by rw [hw1]; simp [go_sem]
  have x1 : w1.cell? ⟨w.heap.size, 1, none⟩ = some (.int .i64 c.rw) := by rw [hw1]; simp [go_sem]
  have x2 : w1.cell? ⟨w.heap.size, 2, none⟩ = some (.int .i64 c.wd) := by rw [hw1]; simp [go_sem]
  have x3 : w1.cell? ⟨w.heap.size, 3, none⟩ = some (.int .i64 c.md) := by rw [hw1]; simp [go_sem]
  have x4 : w1.cell? ⟨w.heap.size, 4, none⟩ = some (.int .u64 c.sd) := by rw [hw1]; simp [go_sem]
  rw [← hw1]
  clear hw1
  go_region_held3 (fun w' => w'.cell? ⟨w.heap.size, 0, none⟩ = some (.int .i64 c.bt) ∧ w'.cell? ⟨w.heap.size, 1, none⟩ = some (.int .i64 c.rw) ∧ w'.cell? ⟨w.heap.size, 2, none⟩ = some (.int .i64 c.wd) ∧ w'.cell? ⟨w.heap.size, 3, none⟩ = some (.int .i64 c.md) ∧ w'.cell? ⟨w.heap.size, 4, none⟩ = some (.int .u64 c.sd)) (first | (refine ⟨?_, ?_, ?_, ?_, ?_⟩ <;> (first | (with_reducible assumption) | (with_reducible refine cell_up x0 ?_) | (with_reducible refine cell_up x1 ?_) | (with_reducible refine cell_up x2 ?_) | (with_reducible refine cell_up x3 ?_) | (with_reducible refine cell_up x4 ?_)) <;> repeat' (first | (with_reducible first | exact Below.refl _ _ | assumption | refine below_over ?_ _ _ | refine Lw.below_alloc ?_ _ | refine Below.drew ?_ | refine below_drewN ?_ _ | refine Below.setCell ?_ ?_ _) | go_size))) (first
    | (go_at_call 118; (with_reducible refine (N.out _).mono ?_); rintro e w2 ⟨gp, G, rfl, hg, hG, hb2⟩; obtain ⟨bs2, d2, rfl⟩ := below_grow hb2; have HG := Lib.hid hg; have HF := Lib.hid hG; have HB2 := Lib.hid hb2; clear hg hG hb2))
  all_goals go_wp2
  all_goals go_ret
  have hgl := fun k (hk : G k) => (dgT gp G _ _ _).lt _ HG.out k hk
  rw [size_grow] at hgl
  have hn := heap_alloc_new (grow w1 bs2 d2) (.cells #[.int .i64 c.bt, .int .i64 c.rw, .int .i64 c.wd, .int .i64 c.md, .int .u64 c.sd, .int .i64 l, .pointer (some gp)] 141)
  rw [size_grow] at hn
  have hs := HB1.out.size
  have hz : w1.drew.heap.size = w1.heap.size := rfl
  rw [hz] at hgl
  refine ⟨⟨w1.heap.size + bs2.size, 0, none⟩, fun k => k = w1.heap.size + bs2.size ∨ G k, rfl, ⟨HR.out.1, h, HR.out.2.1, HR.out.2.2, _, gp, G, rfl, hn, dg_alloc HG.out _, fun hk => by have := hgl _ hk; omega, rfl⟩, fun k hk => ?_, ?_⟩
  · rcases hk with rfl | hk
    · omega
    · have := HF.out k hk; rw [hz] at this; omega
  · exact (below_call (Below.drew HB1.out) HB2.out (Nat.le_refl _)).alloc (by rw [size_grow]; omega) _
end Go.Proofs.YtkflggojiiebeaaGreat.Sk

namespace Go.Proofs.YtkflggojiiebeaaGreat.Sk
open Go Go.RowKit Lw Grd Lin Con Shp
set_option linter.unusedVariables false
set_option linter.unusedSimpArgs false
set_option maxRecDepth 100000 in
set_option maxHeartbeats 4000000 in
theorem rspoint_any (p : Addr) (F : Nat → Prop) (c : Cfg) (l : Int) (L : List (List Int)) (k : Int) (w : World) (h : DS w p F c l L) (k0 : 0 ≤ k) (k1 : k ≤ 18446744073709551615) :
    Calls Tryz.prog 127 #[.pointer (some p), .int .u64 k] w fun e w' => e = .returned (.tuple #[.int .i64 (ptVal c l L k), .int .i64 (ptCode c l k)]) ∧ Below w.heap.size w w' := by
  have HS := Lib.hid h
  obtain ⟨hr, hok, hl0, hl1, b, gp, G, rfl, hb, hg, hGb, rfl⟩ := h
  have hbl := size_of_heap hb
  have c0 := grd_cell hb 0 (v := .int .i64 c.bt) rfl
  have c1 := grd_cell hb 1 (v := .int .i64 c.rw) rfl
  have c2 := grd_cell hb 2 (v := .int .i64 c.wd) rfl
  have c3 := grd_cell hb 3 (v := .int .i64 c.md) rfl
  have c4 := grd_cell hb 4 (v := .int .u64 c.sd) rfl
  have c5 := grd_cell hb 5 (v := .int .i64 l) rfl
  have c6 := grd_cell hb 6 (v := .pointer (some gp)) rfl
  have hbt := hr.2.1
  have CK := Lib.hid (fun w => rkeys_any c l w hok (by omega) (by omega))
  have CC := Lib.hid (fun w => rcols_own c l k w hok (by omega) (by omega) k0 k1)
  have hrw := rws_bd hr
  by_cases hk : keys c l ≤ k
  · have e1 : ptVal c l L k = 0 := if_pos hk
    have e2 : ptCode c l k = 2 := if_pos hk
    rw [e1, e2]
    obtain ⟨K, hK⟩ : ∃ K, keys c l = K := ⟨_, rfl⟩
    rw [hK] at hk CK
    clear hb hg hrw hK e1 e2
    go_enter Tryz.func127, Tryz.ntmps127
    go_upto_region 1 with fail
    go_region_held3 (fun w' => w'.cell? ⟨b, 0, none⟩ = some (.int .i64 c.bt) ∧ w'.cell? ⟨b, 1, none⟩ = some (.int .i64 c.rw) ∧ w'.cell? ⟨b, 2, none⟩ = some (.int .i64 c.wd) ∧ w'.cell? ⟨b, 3, none⟩ = some (.int .i64 c.md) ∧ w'.cell? ⟨b, 4, none⟩ = some (.int .u64 c.sd) ∧ w'.cell? ⟨b, 5, none⟩ = some (.int .i64 l)) (first | (refine ⟨?_, ?_, ?_, ?_, ?_, ?_⟩ <;> (first | (with_reducible assumption) | (with_reducible refine cell_up c0 ?_) | (with_reducible refine cell_up c1 ?_) | (with_reducible refine cell_up c2 ?_) | (with_reducible refine cell_up c3 ?_) | (with_reducible refine cell_up c4 ?_) | (with_reducible refine cell_up c5 ?_)) <;> repeat' (first | (with_reducible first | exact Below.refl _ _ | assumption | refine below_over ?_ _ _ | refine Lw.below_alloc ?_ _ | refine Below.drew ?_ | refine below_drewN ?_ _ | refine Below.setCell ?_ ?_ _) | go_size))) (first
      | (go_at_call 37; (with_reducible refine (CK.out _).mono ?_); rintro e w' ⟨rfl, hb⟩; obtain ⟨bs, dd, rfl⟩ := below_grow hb; clear hb))
    all_goals go_wp2
    all_goals go_ret2
    all_goals exact ⟨rfl, (by repeat' (first | (with_reducible first | exact Below.refl _ _ | assumption | refine below_over ?_ _ _ | refine Lw.below_alloc ?_ _ | refine Below.drew ?_ | refine below_drewN ?_ _ | refine Below.setCell ?_ ?_ _) | go_size))⟩
  · have hk2 : k < keys c l := by omega
    rw [pt_ok hk2]
    have hme := cols_meet k0 hk2
    have hlen : (cols c l k).length = rws c := hme.2.1
    have GL := Lib.hid (fun q (hq : G q) => (dgT gp G _ _ L).lt w hg q hq)
    have HG := Lib.hid hg
    have CM := Lib.hid (fun A cap w' hd h1 => rmiddle_any gp G (rws c) (wds c) L (some A) (rws c) cap (cols c l k) w' hd h1 hlen (by omega) (in64_cols c l k))
    have CL := Lib.hid (fun A cap w' hd h1 => rlea_any gp G (rws c) (wds c) L (some A) (rws c) cap (cols c l k) w' hd h1 hlen (by omega) (in64_cols c l k) hme)
    have er : readOf (rws c) (wds c) L (cols c l k) = named L (cols c l k) := if_pos hme
    have ec : rdCode (rws c) (wds c) (cols c l k) = 0 := if_pos hme
    rw [er, ec] at CM
    rw [hlen] at CC
    have HV : Hid (ptVal c l L k = if c.md = 3 then Ord.kv (named L (cols c l k)) ((((named L (cols c l k)).length : Int) - 1) / 2) else lea L (cols c l k)) := Lib.hid (if_neg hk)
    obtain ⟨v1, hv1⟩ : ∃ v, Ord.kv (named L (cols c l k)) ((((named L (cols c l k)).length : Int) - 1) / 2) = v := ⟨_, rfl⟩
    obtain ⟨v2, hv2⟩ : ∃ v, lea L (cols c l k) = v := ⟨_, rfl⟩
    rw [hv1] at CM HV
    rw [hv2] at CL HV
    obtain ⟨K, hK⟩ : ∃ K, keys c l = K := ⟨_, rfl⟩
    rw [hK] at hk2 CK
    obtain ⟨n, hn⟩ : ∃ n, rws c = n := ⟨_, rfl⟩
    rw [hn] at CC CM CL HG
    have hkx : ¬ K ≤ k := by omega
    have hgb : decide (K ≤ k) = false := decide_eq_false hkx
    clear hb hg hrw hK hk hlen hn hme er ec hv1 hv2
    by_cases hm : c.md = 3
    · have hv : ptVal c l L k = v1 := by rw [HV.out, if_pos hm]
      rw [hv]
      have hmb : (c.md == 3) = true := by simp [hm]
      clear hm hv
      go_enter Tryz.func127, Tryz.ntmps127
      go_upto_region 1 with fail
      go_region_held3 (fun w' => w'.cell? ⟨b, 0, none⟩ = some (.int .i64 c.bt) ∧ w'.cell? ⟨b, 1, none⟩ = some (.int .i64 c.rw) ∧ w'.cell? ⟨b, 2, none⟩ = some (.int .i64 c.wd) ∧ w'.cell? ⟨b, 3, none⟩ = some (.int .i64 c.md) ∧ w'.cell? ⟨b, 4, none⟩ = some (.int .u64 c.sd) ∧ w'.cell? ⟨b, 5, none⟩ = some (.int .i64 l)) (first | (refine ⟨?_, ?_, ?_, ?_, ?_, ?_⟩ <;> (first | (with_reducible assumption) | (with_reducible refine cell_up c0 ?_) | (with_reducible refine cell_up c1 ?_) | (with_reducible refine cell_up c2 ?_) | (with_reducible refine cell_up c3 ?_) | (with_reducible refine cell_up c4 ?_) | (with_reducible refine cell_up c5 ?_)) <;> repeat' (first | (with_reducible first | exact Below.refl _ _ | assumption | refine below_over ?_ _ _ | refine Lw.below_alloc ?_ _ | refine Below.drew ?_ | refine below_drewN ?_ _ | refine Below.setCell ?_ ?_ _) | go_size))) (first
        | (go_at_call 37; (with_reducible refine (CK.out _).mono ?_); rintro e w' ⟨rfl, hb⟩; obtain ⟨bs, dd, rfl⟩ := below_grow hb; clear hb))
      go_upto_region 3 with fail
      go_region_held3 (fun w' => w'.cell? ⟨b, 0, none⟩ = some (.int .i64 c.bt) ∧ w'.cell? ⟨b, 1, none⟩ = some (.int .i64 c.rw) ∧ w'.cell? ⟨b, 2, none⟩ = some (.int .i64 c.wd) ∧ w'.cell? ⟨b, 3, none⟩ = some (.int .i64 c.md) ∧ w'.cell? ⟨b, 4, none⟩ = some (.int .u64 c.sd) ∧ w'.cell? ⟨b, 5, none⟩ = some (.int .i64 l)) (first | (refine ⟨?_, ?_, ?_, ?_, ?_, ?_⟩ <;> (first | (with_reducible assumption) | (with_reducible refine cell_up c0 ?_) | (with_reducible refine cell_up c1 ?_) | (with_reducible refine cell_up c2 ?_) | (with_reducible refine cell_up c3 ?_) | (with_reducible refine cell_up c4 ?_) | (with_reducible refine cell_up c5 ?_)) <;> repeat' (first | (with_reducible first | exact Below.refl _ _ | assumption | refine below_over ?_ _ _ | refine Lw.below_alloc ?_ _ | refine Below.drew ?_ | refine below_drewN ?_ _ | refine Below.setCell ?_ ?_ _) | go_size))) (first
        | (go_at_call 122; (with_reducible refine (CC.out _).mono ?_); rintro e w2 ⟨A, cap, rfl, h1, h2, h3, h4, hb⟩; have RD := Lib.hid h1; have HB2 : Hid (Below w.heap.size w w2) := Lib.hid (below_call (show Below w.heap.size w _ from (by repeat' (first | (with_reducible first | exact Below.refl _ _ | assumption | refine below_over ?_ _ _ | refine Lw.below_alloc ?_ _ | refine Below.drew ?_ | refine below_drewN ?_ _ | refine Below.setCell ?_ ?_ _) | go_size))) hb (Nat.le_refl _)); clear h1 h2 h3 h4 hb; have hbw2 := HB2.out))
      have s3 := cell_up c3 HB2.out
      have s6 := cell_up c6 HB2.out
      clear c0 c1 c2 c3 c4 c5 c6
      go_wp2_with (go_at_call 153; (with_reducible refine (CM.out A cap _ (dg_up HG.out (below_call HB2.out (by repeat' (first | (with_reducible first | exact Below.refl _ _ | assumption | refine below_over ?_ _ _ | refine Lw.below_alloc ?_ _ | refine Below.drew ?_ | refine below_drewN ?_ _ | refine Below.setCell ?_ ?_ _) | go_size)) (Nat.le_refl _))) (RD.out.up (by repeat' (first | (with_reducible first | exact Below.refl _ _ | assumption | refine below_over ?_ _ _ | refine Lw.below_alloc ?_ _ | refine Below.drew ?_ | refine below_drewN ?_ _ | refine Below.setCell ?_ ?_ _) | go_size)))).mono ?_); rintro e w6 ⟨rfl, hb6⟩; have HB6 := Lib.hid (below_call HB2.out (below_call (show Below w2.heap.size w2 _ from (by repeat' (first | (with_reducible first | exact Below.refl _ _ | assumption | refine below_over ?_ _ _ | refine Lw.below_alloc ?_ _ | refine Below.drew ?_ | refine below_drewN ?_ _ | refine Below.setCell ?_ ?_ _) | go_size))) hb6 (Nat.le_refl _)) (Nat.le_refl _)); clear hb6)
      all_goals go_ret2
      all_goals exact ⟨rfl, HB6.out⟩
    · have hv : ptVal c l L k = v2 := by rw [HV.out, if_neg hm]
      rw [hv]
      have hmb : (c.md == 3) = false := by simpa using hm
      clear hm hv
      go_enter Tryz.func127, Tryz.ntmps127
      go_upto_region 1 with fail
      go_region_held3 (fun w' => w'.cell? ⟨b, 0, none⟩ = some (.int .i64 c.bt) ∧ w'.cell? ⟨b, 1, none⟩ = some (.int .i64 c.rw) ∧ w'.cell? ⟨b, 2, none⟩ = some (.int .i64 c.wd) ∧ w'.cell? ⟨b, 3, none⟩ = some (.int .i64 c.md) ∧ w'.cell? ⟨b, 4, none⟩ = some (.int .u64 c.sd) ∧ w'.cell? ⟨b, 5, none⟩ = some (.int .i64 l)) (first | (refine ⟨?_, ?_, ?_, ?_, ?_, ?_⟩ <;> (first | (with_reducible assumption) | (with_reducible refine cell_up c0 ?_) | (with_reducible refine cell_up c1 ?_) | (with_reducible refine cell_up c2 ?_) | (with_reducible refine cell_up c3 ?_) | (with_reducible refine cell_up c4 ?_) | (with_reducible refine cell_up c5 ?_)) <;> repeat' (first | (with_reducible first | exact Below.refl _ _ | assumption | refine below_over ?_ _ _ | refine Lw.below_alloc ?_ _ | refine Below.drew ?_ | refine below_drewN ?_ _ | refine Below.setCell ?_ ?_ _) | go_size))) (first
        | (go_at_call 37; (with_reducible refine (CK.out _).mono ?_); rintro e w' ⟨rfl, hb⟩; obtain ⟨bs, dd, rfl⟩ := below_grow hb; clear hb))
      go_upto_region 3 with fail
      go_region_held3 (fun w' => w'.cell? ⟨b, 0, none⟩ = some (.int .i64 c.bt) ∧ w'.cell? ⟨b, 1, none⟩ = some (.int .i64 c.rw) ∧ w'.cell? ⟨b, 2, none⟩ = some (.int .i64 c.wd) ∧ w'.cell? ⟨b, 3, none⟩ = some (.int .i64 c.md) ∧ w'.cell? ⟨b, 4, none⟩ = some (.int .u64 c.sd) ∧ w'.cell? ⟨b, 5, none⟩ = some (.int .i64 l)) (first | (refine ⟨?_, ?_, ?_, ?_, ?_, ?_⟩ <;> (first | (with_reducible assumption) | (with_reducible refine cell_up c0 ?_) | (with_reducible refine cell_up c1 ?_) | (with_reducible refine cell_up c2 ?_) | (with_reducible refine cell_up c3 ?_) | (with_reducible refine cell_up c4 ?_) | (with_reducible refine cell_up c5 ?_)) <;> repeat' (first | (with_reducible first | exact Below.refl _ _ | assumption | refine below_over ?_ _ _ | refine Lw.below_alloc ?_ _ | refine Below.drew ?_ | refine below_drewN ?_ _ | refine Below.setCell ?_ ?_ _) | go_size))) (first
        | (go_at_call 122; (with_reducible refine (CC.out _).mono ?_); rintro e w2 ⟨A, cap, rfl, h1, h2, h3, h4, hb⟩; have RD := Lib.hid h1; have HB2 : Hid (Below w.heap.size w w2) := Lib.hid (below_call (show Below w.heap.size w _ from (by repeat' (first | (with_reducible first | exact Below.refl _ _ | assumption | refine below_over ?_ _ _ | refine Lw.below_alloc ?_ _ | refine Below.drew ?_ | refine below_drewN ?_ _ | refine Below.setCell ?_ ?_ _) | go_size))) hb (Nat.le_refl _)); clear h1 h2 h3 h4 hb; have hbw2 := HB2.out))
      have s3 := cell_up c3 HB2.out
      have s6 := cell_up c6 HB2.out
      clear c0 c1 c2 c3 c4 c5 c6
      go_wp2_with (go_at_call 151; (with_reducible refine (CL.out A cap _ (dg_up HG.out (below_call HB2.out (by repeat' (first | (with_reducible first | exact Below.refl _ _ | assumption | refine below_over ?_ _ _ | refine Lw.below_alloc ?_ _ | refine Below.drew ?_ | refine below_drewN ?_ _ | refine Below.setCell ?_ ?_ _) | go_size)) (Nat.le_refl _))) (RD.out.up (by repeat' (first | (with_reducible first | exact Below.refl _ _ | assumption | refine below_over ?_ _ _ | refine Lw.below_alloc ?_ _ | refine Below.drew ?_ | refine below_drewN ?_ _ | refine Below.setCell ?_ ?_ _) | go_size)))).mono ?_); rintro e w6 ⟨rfl, hb6⟩; have HB6 := Lib.hid (below_call HB2.out (below_call (show Below w2.heap.size w2 _ from (by repeat' (first | (with_reducible first | exact Below.refl _ _ | assumption | refine below_over ?_ _ _ | refine Lw.below_alloc ?_ _ | refine Below.drew ?_ | refine below_drewN ?_ _ | refine Below.setCell ?_ ?_ _) | go_size))) hb6 (Nat.le_refl _)) (Nat.le_refl _)); clear hb6)
      all_goals go_ret2
      all_goals exact ⟨rfl, HB6.out⟩
end Go.Proofs.YtkflggojiiebeaaGreat.Sk

namespace Go.Proofs.YtkflggojiiebeaaGreat.Lev
open Go Go.RowKit Lw Grd Lin Con Shp Sk Exa
set_option linter.unusedVariables false
set_option linter.unusedSimpArgs false
/-- The thing behind is turned. -/
theorem dl_turn {v0 v1 : Value} {t t' : Thing} {w w' : World} {b : Nat} (hb : w.heap[b]? = some (.cells #[v0, v1] 136 (0, 0))) (hn : ¬ t.F b) (ht : t'.I w') (hk : Kept t.F w w') (hF : ∀ k, t'.F k → t.F k ∨ w.heap.size ≤ k) :
    ∃ F', DL v0 v1 t' w' ⟨b, 0, none⟩ F' ∧ Kept (fun k => k = b ∨ t.F k) w w' ∧ (∀ q, F' q → (q = b ∨ t.F q) ∨ w.heap.size ≤ q) := by
  have hbl := size_of_heap hb
  refine ⟨_, ⟨b, rfl, hk.heap hb hn, ht, fun h => ?_, rfl⟩, hk.mono (fun k _ h => .inr h), fun q hq => ?_⟩
  · rcases hF b h with h1 | h1
    · exact hn h1
    · omega
  · rcases hq with rfl | h1
    · exact .inl (.inl rfl)
    · rcases hF q h1 with h2 | h2
      · exact .inl (.inr h2)
      · exact .inr h2
/-- A new one: the thing behind has been made since w. -/
theorem dl_new {v0 v1 : Value} {t : Thing} {w w2 : World} (hB : Below w.heap.size w w2) (ht : t.I w2) (hf : ∀ k, t.F k → w.heap.size ≤ k) :
    ∃ F', DL v0 v1 t (w2.alloc (.cells #[v0, v1] 136)) ⟨w2.heap.size, 0, none⟩ F' ∧ (∀ k, F' k → w.heap.size ≤ k) ∧ Below w.heap.size w (w2.alloc (.cells #[v0, v1] 136)) := by
  have hs := hB.size
  refine ⟨_, ⟨w2.heap.size, rfl, heap_alloc_new w2 _, t.keep w2 _ (fun _ => False) ht (Kept.of_below (Lw.below_alloc (Below.refl _ _) _)) (fun _ _ h => h), fun h => by have := t.lt w2 ht _ h; omega, rfl⟩, fun k hk => ?_, hB.alloc hs _⟩
  rcases hk with rfl | hk
  · exact hs
  · exact hf k hk
end Go.Proofs.YtkflggojiiebeaaGreat.Lev

namespace Go.Proofs.YtkflggojiiebeaaGreat.Lev
open Go Go.RowKit Lw Grd Lin Con Shp Sk Exa
set_option linter.unusedVariables false
set_option linter.unusedSimpArgs false
set_option maxRecDepth 100000 in
set_option maxHeartbeats 4000000 in
theorem lnew_A (c : Cfg) (l : Int) (w : World) (h : c.Ok) (hr : IsRight c) (l0 : 0 ≤ l) (l1 : l ≤ c.bt) (hx : exactB c l = true) :
    Calls Tryz.prog 45 #[.agg #[.int .i64 c.bt, .int .i64 c.rw, .int .i64 c.wd, .int .i64 c.md, .int .u64 c.sd], .int .i64 l] w fun e w' => ∃ (p : Addr) (F : Nat → Prop), e = .returned (.pointer (some p)) ∧ DLA w' p F c l (List.replicate (keys c l).toNat 0) ∧ (∀ k, F k → w.heap.size ≤ k) ∧ Below w.heap.size w w' := by
  have hbt := hr.2.1
  have CX := Lib.hid (fun w => rexact_any c l w h (by omega) (by omega))
  rw [hx] at CX
  have CK := Lib.hid (fun w => rkeys_any c l w h (by omega) (by omega))
  have hk := of_decide_eq_true hx
  have hw := hr.2.2.2.2.2.1
  obtain ⟨n, hn⟩ : ∃ n : Nat, keys c l = (n : Int) := ⟨(keys c l).toNat, by omega⟩
  rw [hn] at CK hk
  rw [hn, Int.toNat_natCast]
  have DN := Lib.hid (fun w => anew_any c l n w h (by omega))
  clear hk hw hn
  have HBX : Hid (Have w (w.alloc (.cells #[.int .i64 c.bt, .int .i64 c.rw, .int .i64 c.wd, .int .i64 c.md, .int .u64 c.sd] 24)) [boxT w.heap.size 24 #[.int .i64 c.bt, .int .i64 c.rw, .int .i64 c.wd, .int .i64 c.md, .int .u64 c.sd]]) := Lib.hid (box_new w _ _)
  clear hx h hr
  go_enter Tryz.func45, Tryz.ntmps45
  go_upto_region 2 with (go_at_call 86; (with_reducible refine (CX.out _).mono ?_); rintro e w1 ⟨rfl, hb9⟩; have HV1 := Lib.hid (HBX.out.up hb9); obtain ⟨x0, x1, x2, x3, x4⟩ := box5 HV1.out.i0; clear hb9)
  go_region_held3 (fun w' => w'.cell? ⟨w.heap.size, 0, none⟩ = some (.int .i64 c.bt) ∧ w'.cell? ⟨w.heap.size, 1, none⟩ = some (.int .i64 c.rw) ∧ w'.cell? ⟨w.heap.size, 2, none⟩ = some (.int .i64 c.wd) ∧ w'.cell? ⟨w.heap.size, 3, none⟩ = some (.int .i64 c.md) ∧ w'.cell? ⟨w.heap.size, 4, none⟩ = some (.int .u64 c.sd)) (first | (refine ⟨?_, ?_, ?_, ?_, ?_⟩ <;> (first | (with_reducible assumption) | (with_reducible refine cell_up x0 ?_) | (with_reducible refine cell_up x1 ?_) | (with_reducible refine cell_up x2 ?_) | (with_reducible refine cell_up x3 ?_) | (with_reducible refine cell_up x4 ?_)) <;> (repeat' (first | (with_reducible first | exact Below.refl _ _ | assumption | refine below_over ?_ _ _ | refine Lw.below_alloc ?_ _ | refine Below.drew ?_ | refine below_drewN ?_ _ | refine Below.setCell ?_ ?_ _) | go_size)))) (first
    | (go_at_call 37; (with_reducible refine (CK.out _).mono ?_); rintro e w' ⟨rfl, hb9⟩; obtain ⟨bs2, d2, rfl⟩ := below_grow hb9; clear hb9)
    | (go_at_call 87; (with_reducible refine (DN.out _).mono ?_); rintro e w2 ⟨a, G, rfl, h1, h2, hb9⟩; have HB2 : Hid (Below w.heap.size w w2) := Lib.hid (below_call (HV1.out.up (by repeat' (first | (with_reducible first | exact Below.refl _ _ | assumption | refine below_over ?_ _ _ | refine Lw.below_alloc ?_ _ | refine Below.drew ?_ | refine below_drewN ?_ _ | refine Below.setCell ?_ ?_ _) | go_size))).below hb9 (Nat.le_refl _)); have HT : Hid ((daT a G c l (List.replicate n 0)).I w2) := Lib.hid h1; have HF : Hid (∀ k, G k → w.heap.size ≤ k) := Lib.hid (fun k hk => Nat.le_trans (Below.size (HV1.out.up (by repeat' (first | (with_reducible first | exact Below.refl _ _ | assumption | refine below_over ?_ _ _ | refine Lw.below_alloc ?_ _ | refine Below.drew ?_ | refine below_drewN ?_ _ | refine Below.setCell ?_ ?_ _) | go_size))).below) (h2 k hk)); have hbw := HB2.out; have hV2 := (HV1.out.up (by repeat' (first | (with_reducible first | exact Below.refl _ _ | assumption | refine below_over ?_ _ _ | refine Lw.below_alloc ?_ _ | refine Below.drew ?_ | refine below_drewN ?_ _ | refine Below.setCell ?_ ?_ _) | go_size))).up hb9; clear x0 x1 x2 x3 x4; obtain ⟨x0, x1, x2, x3, x4⟩ := box5 hV2.i0; clear h1 h2 hb9 hV2))
  all_goals go_wp2
  all_goals go_ret
  obtain ⟨F', h1, h2, h3⟩ := dl_new (v0 := .pointer (some a)) (v1 := .pointer none) HB2.out HT.out HF.out
  exact ⟨_, F', rfl, ⟨a, G, h1⟩, h2, h3⟩
set_option maxRecDepth 100000 in
set_option maxHeartbeats 4000000 in
theorem lnew_S (c : Cfg) (l : Int) (w : World) (h : c.Ok) (hr : IsRight c) (l0 : 0 ≤ l) (l1 : l ≤ c.bt) (hx : exactB c l = false) :
    Calls Tryz.prog 45 #[.agg #[.int .i64 c.bt, .int .i64 c.rw, .int .i64 c.wd, .int .i64 c.md, .int .u64 c.sd], .int .i64 l] w fun e w' => ∃ (p : Addr) (F : Nat → Prop), e = .returned (.pointer (some p)) ∧ DLS w' p F c l (zerosL (rws c) (wds c)) ∧ (∀ k, F k → w.heap.size ≤ k) ∧ Below w.heap.size w w' := by
  have hbt := hr.2.1
  have CX := Lib.hid (fun w => rexact_any c l w h (by omega) (by omega))
  rw [hx] at CX
  have DN := Lib.hid (fun w => rsnew_any c l w h hr l0 l1)
  have HBX : Hid (Have w (w.alloc (.cells #[.int .i64 c.bt, .int .i64 c.rw, .int .i64 c.wd, .int .i64 c.md, .int .u64 c.sd] 24)) [boxT w.heap.size 24 #[.int .i64 c.bt, .int .i64 c.rw, .int .i64 c.wd, .int .i64 c.md, .int .u64 c.sd]]) := Lib.hid (box_new w _ _)
  clear hx h hr
  go_enter Tryz.func45, Tryz.ntmps45
  go_wp2_with (first
    | (go_at_call 86; (with_reducible refine (CX.out _).mono ?_); rintro e w1 ⟨rfl, hb9⟩; have HV1 := Lib.hid (HBX.out.up hb9); obtain ⟨x0, x1, x2, x3, x4⟩ := box5 HV1.out.i0; clear hb9)
    | (go_at_call 88; (with_reducible refine (DN.out _).mono ?_); rintro e w2 ⟨a, G, rfl, h1, h2, hb9⟩; have HB2 : Hid (Below w.heap.size w w2) := Lib.hid (below_call HV1.out.below hb9 (Nat.le_refl _)); have HT : Hid ((dsT a G c l (zerosL (rws c) (wds c))).I w2) := Lib.hid h1; have HF : Hid (∀ k, G k → w.heap.size ≤ k) := Lib.hid (fun k hk => Nat.le_trans (Below.size HV1.out.below) (h2 k hk)); clear h1 h2 hb9))
  go_ret
  obtain ⟨F', h1, h2, h3⟩ := dl_new (v0 := .pointer none) (v1 := .pointer (some a)) HB2.out HT.out HF.out
  exact ⟨_, F', rfl, ⟨a, G, h1⟩, h2, h3⟩
set_option maxRecDepth 100000 in
set_option maxHeartbeats 4000000 in
theorem lpoint_A (p : Addr) (F : Nat → Prop) (c : Cfg) (l : Int) (L : List Int) (k : Int) (w : World) (h : DLA w p F c l L) (k0 : 0 ≤ k) (k1 : k ≤ 18446744073709551615) :
    Calls Tryz.prog 96 #[.pointer (some p), .int .u64 k] w fun e w' => e = .returned (.tuple #[.int .i64 (Exa.ptV L k), .int .i64 (Exa.ptC L k)]) ∧ Below w.heap.size w w' := by
  obtain ⟨a, G, b, rfl, hb, ht, hn, rfl⟩ := h
  have c0 := grd_cell hb 0 (v := .pointer (some a)) rfl
  have c1 := grd_cell hb 1 (v := .pointer none) rfl
  have C := Lib.hid (Exa.apoint_any a G c l L k w (daI ht) k0 k1)
  clear hb ht hn
  go_enter Tryz.func96, Tryz.ntmps96
  go_wp2_with (go_at_call 126; (with_reducible refine (C.out).mono ?_); rintro e w2 ⟨rfl, hb9⟩; have HB2 := Lib.hid hb9; clear hb9)
  go_ret2
  exact ⟨rfl, HB2.out⟩
set_option maxRecDepth 100000 in
set_option maxHeartbeats 4000000 in
theorem lpoint_S (p : Addr) (F : Nat → Prop) (c : Cfg) (l : Int) (L : List (List Int)) (k : Int) (w : World) (h : DLS w p F c l L) (k0 : 0 ≤ k) (k1 : k ≤ 18446744073709551615) :
    Calls Tryz.prog 96 #[.pointer (some p), .int .u64 k] w fun e w' => e = .returned (.tuple #[.int .i64 (ptVal c l L k), .int .i64 (ptCode c l k)]) ∧ Below w.heap.size w w' := by
  obtain ⟨a, G, b, rfl, hb, ht, hn, rfl⟩ := h
  have c0 := grd_cell hb 0 (v := .pointer none) rfl
  have c1 := grd_cell hb 1 (v := .pointer (some a)) rfl
  have C := Lib.hid (rspoint_any a G c l L k w (dsI ht) k0 k1)
  clear hb ht hn
  go_enter Tryz.func96, Tryz.ntmps96
  go_wp2_with (go_at_call 127; (with_reducible refine (C.out).mono ?_); rintro e w2 ⟨rfl, hb9⟩; have HB2 := Lib.hid hb9; clear hb9)
  go_ret2
  exact ⟨rfl, HB2.out⟩
end Go.Proofs.YtkflggojiiebeaaGreat.Lev

namespace Go.Proofs.YtkflggojiiebeaaGreat.Stk
open Go Go.RowKit Lw Grd Lin Con Shp Sk Exa Lev
set_option linter.unusedVariables false
set_option linter.unusedSimpArgs false
def dlvT (p : Addr) (F : Nat → Prop) (c : Cfg) (l : Int) (st : LS) : Thing where
  I := fun w => DLV w p F c l st
  F := F
  keep := fun w w' H h hk hf => h.keep hk hf
  lt := fun w h k hk => by
    cases st with
    | A L => exact (dlAT p F c l L).lt w h.2 k hk
    | S L => exact (dlST p F c l L).lt w h.2 k hk
theorem dv_new (c : Cfg) (l : Int) (w : World) (h : c.Ok) (hr : IsRight c) (l0 : 0 ≤ l) (l1 : l ≤ c.bt) :
    Calls Tryz.prog 45 #[.agg #[.int .i64 c.bt, .int .i64 c.rw, .int .i64 c.wd, .int .i64 c.md, .int .u64 c.sd], .int .i64 l] w fun e w' => ∃ (p : Addr) (F : Nat → Prop), e = .returned (.pointer (some p)) ∧ DLV w' p F c l (lsZero c l) ∧ (∀ k, F k → w.heap.size ≤ k) ∧ Below w.heap.size w w' := by
  unfold lsZero
  cases hx : exactB c l with
  | true =>
    rw [if_pos rfl]
    exact (lnew_A c l w h hr l0 l1 hx).mono (fun e w' ⟨p, F, h1, h2, h3, h4⟩ => ⟨p, F, h1, ⟨hx, h2⟩, h3, h4⟩)
  | false =>
    rw [if_neg (by simp)]
    exact (lnew_S c l w h hr l0 l1 hx).mono (fun e w' ⟨p, F, h1, h2, h3, h4⟩ => ⟨p, F, h1, ⟨hx, h2⟩, h3, h4⟩)
theorem dv_point (p : Addr) (F : Nat → Prop) (c : Cfg) (l : Int) (st : LS) (k : Int) (w : World) (h : DLV w p F c l st) (k0 : 0 ≤ k) (k1 : k ≤ 18446744073709551615) :
    Calls Tryz.prog 96 #[.pointer (some p), .int .u64 k] w fun e w' => e = .returned (.tuple #[.int .i64 (lsPtV c l st k), .int .i64 (lsPtC c l st k)]) ∧ Below w.heap.size w w' := by
  cases st with
  | A L => exact lpoint_A p F c l L k w h.2 k0 k1
  | S L => exact lpoint_S p F c l L k w h.2 k0 k1
end Go.Proofs.YtkflggojiiebeaaGreat.Stk

namespace Go.Proofs.YtkflggojiiebeaaGreat.Stk
open Go Go.RowKit Lw Grd Lin Con Shp Sk Exa Lev
set_option linter.unusedVariables false
/-- The document's level, as the value that points to it. -/
def dlT (v : Value) (F : Nat → Prop) (c : Cfg) (l : Int) (st : LS) : Thing where
  I := fun w => ∃ p, v = .pointer (some p) ∧ DLV w p F c l st
  F := F
  keep := fun w w' H h hk hf => by
    obtain ⟨p, e, h2⟩ := h
    exact ⟨p, e, h2.keep hk hf⟩
  lt := fun w h k hk => by
    obtain ⟨p, e, h2⟩ := h
    exact (dlvT p F c l st).lt w h2 k hk
end Go.Proofs.YtkflggojiiebeaaGreat.Stk

namespace Go.Proofs.YtkflggojiiebeaaGreat.Stk
open Go Go.RowKit Lw Grd Lin Con Shp Sk Exa Lev
set_option linter.unusedVariables false
set_option linter.unusedSimpArgs false
theorem dls_u : Tryz.prog.underlying 56 = some (.slice 55) := by kernel_rfl
theorem dls_info : (Tryz.prog.info? 55).map (fun i => (i.zero, i.size, i.bytes)) = some (some (.pointer none), 1, 8) := by kernel_rfl
theorem Asun.sub2 {ts us : List Thing} (h : ts.Sublist us) : Asun us → Asun ts := by
  induction h with
  | slnil => exact id
  | cons a h ih => exact fun g => ih g.2
  | cons_cons a h ih => exact fun g => ⟨fun u hu => g.1 u (h.subset hu), ih g.2⟩
theorem Hold.sub {F0 : Nat → Prop} {w0 w : World} {ts us : List Thing} (h : Hold F0 w0 w us) (hs : ts.Sublist us) : Hold F0 w0 w ts :=
  ⟨h.1, fun t ht => h.2.1 t (hs.subset ht), Asun.sub2 hs h.2.2⟩
theorem Hold.start0 {w w' : World} (h : Below w.heap.size w w') : Hold (fun _ => False) w w' [] := ⟨Kept.of_below h, fun t ht => by simp at ht, trivial⟩
theorem Hold.snoc {F0 : Nat → Prop} {w0 w w' : World} {ts : List Thing} (h : Hold F0 w0 w ts) (t : Thing) (hb : Below w.heap.size w w') (ht : t.I w') (hn : ∀ k, t.F k → w.heap.size ≤ k) : Hold F0 w0 w' (ts ++ [t]) := by
  have h2 := h.push t hb ht hn
  refine ⟨h2.1, fun u hu => h2.2.1 u (by simpa [or_comm] using hu), Asun.append.2 ⟨h2.2.2.2, ⟨fun u hu => by simp at hu, trivial⟩, fun u hu v hv k h3 h4 => ?_⟩⟩
  rw [List.mem_singleton.1 hv] at h4
  exact h2.2.2.1 u hu k h4 h3
theorem Hold.app {F0 : Nat → Prop} {w0 w w' : World} {fs ts : List Thing} {B : Nat} {e : TypeId} {hdr : Value} {vals : List Value} {v : Value} {g cap : Nat} (h : Hold F0 w0 w (fs ++ ownT B e hdr vals :: ts)) (own : w'.ownsRow B e 1 (.slice (some ⟨g, 0, none⟩) (vals.length + 1) cap) (vals.length + 1) (vals ++ [v])) (grow : w.grownBy w' hdr.ownBlock) (hat : hdr.ownBlock = some g ∨ g = w.heap.size) :
    Hold F0 w0 w' (fs ++ ownT B e (.slice (some ⟨g, 0, none⟩) (vals.length + 1) cap) (vals ++ [v]) :: ts) := by
  have hI : (ownT B e (.slice (some ⟨g, 0, none⟩) (vals.length + 1) cap) (vals ++ [v])).I w' := by
    show w'.ownsRow B e 1 _ (vals ++ [v]).length (vals ++ [v])
    rw [List.length_append, List.length_singleton]
    exact own
  refine h.turn _ hI ((Kept.refl _ w).grown grow (fun q e => .inl e)) (fun k hk => ?_)
  have hk2 : some g = some k := hk
  injection hk2 with hk2
  rcases hat with h1 | h1
  · exact .inl (show hdr.ownBlock = some k by rw [h1, hk2])
  · exact .inr (by omega)
theorem ownD_nil (B : Nat) (e : TypeId) (w : World) : (ownT B e (.slice none 0 0) []).I w := World.ownsRow_nil _ _ _ _
theorem ownD_nilF (B : Nat) (e : TypeId) {k m : Nat} (h : (ownT B e (.slice none 0 0) []).F k) : m ≤ k := by
  have h2 : (none : Option Nat) = some k := h
  cases h2
/-- A stack of the document, as a box. -/
abbrev dkB (b : Nat) (c : Cfg) (hdr : Value) : Thing := boxT b 58 #[.int .i64 c.bt, .int .i64 c.rw, .int .i64 c.wd, .int .i64 c.md, .int .u64 c.sd, hdr]
abbrev cfD (b : Nat) (c : Cfg) : Thing := boxT b 24 #[.int .i64 c.bt, .int .i64 c.rw, .int .i64 c.wd, .int .i64 c.md, .int .u64 c.sd]
theorem dkb_set {w : World} {b : Nat} {c : Cfg} {hdr hdr' : Value} (h : (dkB b c hdr).I w) : (dkB b c hdr').I (w.setCell ⟨b, 5, none⟩ hdr') := by
  have h2 : w.heap[b]? = some (.cells #[.int .i64 c.bt, .int .i64 c.rw, .int .i64 c.wd, .int .i64 c.md, .int .u64 c.sd, hdr] 58 (0, 0)) := h
  obtain ⟨hlt, hk⟩ := Array.getElem?_eq_some_iff.1 h2
  show (w.heap.modify b _)[b]? = _
  rw [Array.getElem?_eq_getElem (by rw [Array.size_modify]; exact hlt), Array.getElem_modify_self, hk]
  rfl
theorem Hold.store {F0 : Nat → Prop} {w0 w : World} {fs ts : List Thing} {b : Nat} {c : Cfg} {hdr : Value} (h : Hold F0 w0 w (fs ++ dkB b c hdr :: ts)) (hdr' : Value) : Hold F0 w0 (w.setCell ⟨b, 5, none⟩ hdr') (fs ++ dkB b c hdr' :: ts) := by
  have hb := dkb_set (hdr' := hdr') (h.i (t := dkB b c hdr) (by simp))
  exact h.turn (dkB b c hdr') hb (Kept.set (F := (dkB b c hdr).F) (Kept.refl _ _) (.inl rfl) 5 hdr') (fun k hk => .inl hk)
/-- A stack of the document at p, in the blocks F. -/
def DK (w : World) (p : Addr) (F : Nat → Prop) (c : Cfg) (sts : List LS) : Prop :=
  IsRight c ∧ c.Ok ∧ sts.length = c.bt.toNat + 1 ∧ ∃ (b B0 : Nat) (hdr : Value) (vals : List Value) (ts : List Thing), p = ⟨b, 0, none⟩ ∧ LRow dlT c vals ts sts ∧ (manyT (dkB b c hdr :: ownT B0 55 hdr vals :: ts)).I w ∧ F = (manyT (dkB b c hdr :: ownT B0 55 hdr vals :: ts)).F
def dkT (p : Addr) (F : Nat → Prop) (c : Cfg) (sts : List LS) : Thing where
  I := fun w => DK w p F c sts
  F := F
  keep := fun w w' H h hk hf => by
    obtain ⟨h1, h2, h3, b, B0, hdr, vals, ts, e, hr, hm, rfl⟩ := h
    exact ⟨h1, h2, h3, b, B0, hdr, vals, ts, e, hr, (manyT _).keep w w' H hm hk hf, rfl⟩
  lt := fun w h k hk => by
    obtain ⟨h1, h2, h3, b, B0, hdr, vals, ts, e, hr, hm, rfl⟩ := h
    exact (manyT _).lt w hm k hk
theorem dkI {w : World} {p : Addr} {F : Nat → Prop} {c : Cfg} {sts : List LS} (h : (dkT p F c sts).I w) : DK w p F c sts := h
theorem DK.up {w w' : World} {p : Addr} {F : Nat → Prop} {c : Cfg} {sts : List LS} (h : DK w p F c sts) (hb : Below w.heap.size w w') : DK w' p F c sts :=
  (dkT p F c sts).keep w w' (fun _ => False) h (Kept.of_below hb) (fun _ _ h => h)
theorem dk_of {F0 : Nat → Prop} {w0 w : World} {b B0 : Nat} {c : Cfg} {hdr : Value} {vals : List Value} {ts : List Thing} {sts : List LS} (hr : IsRight c) (hc : c.Ok) (hl : sts.length = c.bt.toNat + 1) (hrow : LRow dlT c vals ts sts) (h : Hold F0 w0 w (dkB b c hdr :: ownT B0 55 hdr vals :: ts)) :
    DK w ⟨b, 0, none⟩ (manyT (dkB b c hdr :: ownT B0 55 hdr vals :: ts)).F c sts ∧ Kept F0 w0 w ∧ ∀ q, (manyT (dkB b c hdr :: ownT B0 55 hdr vals :: ts)).F q → F0 q ∨ w0.heap.size ≤ q := by
  have h2 := h.many
  exact ⟨⟨hr, hc, hl, b, B0, hdr, vals, ts, rfl, hrow, h2.1, rfl⟩, h2.2.1, h2.2.2⟩
theorem ownD_cell {w : World} {B : Nat} {e : TypeId} {hdr : Value} {vals : List Value} (h : (ownT B e hdr vals).I w) (hl : 0 < vals.length) : ∃ g cap, hdr = .slice (some ⟨g, 0, none⟩) vals.length cap ∧ ∀ (j : Nat) (v : Value), vals[j]? = some v → w.cell? ⟨g, j, none⟩ = some v := by
  have h1 : w.ownsRow B e 1 hdr vals.length vals := h
  rcases h1.2 with h0 | ⟨g, cap, cur, rfl, h2, h3, h4, h5, h6⟩
  · have := h0.2
    rw [this] at hl
    simp at hl
  · refine ⟨g, cap, rfl, fun j v hj => ?_⟩
    have h7 := h1.cells (g := g) rfl j v hj
    cases j with
    | zero => simpa [Addr.add] using h7
    | succ j => simpa [Addr.add] using h7
theorem new_row {c : Cfg} {sts : List LS} {n : Nat} (hl : sts.length = n) (hj : ∀ j, j < n → sts[j]? = some (lsZero c j)) {j : Nat} (h : j < n + 1) : (sts ++ [lsZero c n])[j]? = some (lsZero c j) := by
  by_cases hj2 : j < n
  · rw [List.getElem?_append_left (by rw [hl]; exact hj2)]
    exact hj j hj2
  · obtain rfl : j = n := by omega
    rw [List.getElem?_append_right (by rw [hl]; exact Nat.le_refl _), hl, Nat.sub_self]
    rfl
theorem cfd_all {w' : World} {b : Nat} {c : Cfg} (h : (cfD b c).I w') : w'.cell? ⟨b, 0, none⟩ = some (.int .i64 c.bt) ∧ w'.cell? ⟨b, 1, none⟩ = some (.int .i64 c.rw) ∧ w'.cell? ⟨b, 2, none⟩ = some (.int .i64 c.wd) ∧ w'.cell? ⟨b, 3, none⟩ = some (.int .i64 c.md) ∧ w'.cell? ⟨b, 4, none⟩ = some (.int .u64 c.sd) := ⟨box_cell h rfl, box_cell h rfl, box_cell h rfl, box_cell h rfl, box_cell h rfl⟩
theorem dlv_up {w w' : World} {p : Addr} {F : Nat → Prop} {c : Cfg} {l : Int} {st : LS} (h : DLV w p F c l st) (hb : Below w.heap.size w w') : DLV w' p F c l st := h.keep (Kept.of_below (F := fun _ => False) hb) (fun _ _ h => h)
theorem dk_at {b B0 : Nat} {c : Cfg} {hdr : Value} {vals : List Value} {ts : List Thing} {sts : List LS} {F0 : Nat → Prop} {w0 w : World} (hrow : LRow dlT c vals ts sts) (hH : Hold F0 w0 w (dkB b c hdr :: ownT B0 55 hdr vals :: ts)) {n : Nat} {st : LS} (hn : sts[n]? = some st) : ∃ p Q, vals[n]? = some (.pointer (some p)) ∧ DLV w p Q c (n : Int) st ∧ ts[n]? = some (dlT (.pointer (some p)) Q c (n : Int) st) := by
  obtain ⟨st2, v, Q, e1, e2, e3⟩ := hrow.at (j := n) ((List.getElem?_eq_some_iff.1 hn).1)
  rw [hn] at e1
  injection e1 with e1
  subst e1
  have h2 : (dlT v Q c (n : Int) st).I w := hH.i (t := dlT v Q c (n : Int) st) (List.mem_cons_of_mem _ (List.mem_cons_of_mem _ (List.mem_of_getElem? e3)))
  obtain ⟨p, rfl, h3⟩ := h2
  exact ⟨p, Q, e2, h3, e3⟩
/-- One value appended, in a region that draws its order: the row lies where it lay, or in a new block. -/
theorem appd_step {P : Program} {w : World} {ops : Array Oper} {o : Oper} {a : Act} {K : Act → World → Prop} {Q : Exit → Act → World → Prop} {E : Prop} (hgd : o.guard = none) (s x : Operand) (t : TypeId)
    (ho : o.op = .call { callee := .builtin .append, args := #[s, x], argTypes := #[t, t] })
    (base : Nat) (e : TypeId) (i : TypeInfo) (z : Value) (bytes : Nat) (ht : P.underlying t = some (.slice e)) (hi : P.info? e = some i) (hz : i.zero = some z) (hsize : i.size = 1) (hby : i.bytes = bytes) (hzs : z.cells.size = 1)
    (v : Value) (n : Nat) (xs : List Value) (hs : a.eval s = v) (hown : w.ownsRow base e 1 v n xs)
    (X : Value) (B : Nat) (hx : a.eval x = .slice (some ⟨B, 0, none⟩) 1 1) (hc : ∀ j u, ([X] : List Value)[j]? = some u → w.cell? ((⟨B, 0, none⟩ : Addr).add j) = some u) (hX : X.oneCell' = true) (h63 : n + 1 ≤ maxLen) (hbytes : (n + 1) * bytes ≤ 140737488355328) (hbase : base ≤ w.heap.size)
    (h : ∀ g cap w', w'.ownsRow base e 1 (.slice (some ⟨g, 0, none⟩) (n + 1) cap) (n + 1) (xs ++ [X]) → w.grownBy w' v.ownBlock → (v.ownBlock = some g ∨ g = w.heap.size) → K (a.put o.dst (.slice (some ⟨g, 0, none⟩) (n + 1) cap)) w') :
    if Region.wanted o (yielded ops a.tmps) = true then Oper.wp P o a w K Q else E := by
  rw [if_pos (by simp [Region.wanted, hgd])]
  obtain ⟨v', w', hr, h2, h3, h4, h5⟩ := run_append_own_at (P := P) w base t o.type e i z 1 bytes ht hi hz hsize hby hzs (by decide) v n xs hown ⟨B, 0, none⟩ 1 1 [X] rfl hc (by intro u hu; simp at hu; subst hu; exact hX) h63 hbytes hbase
  rcases h2.2 with ⟨h6, h7⟩ | ⟨g, cap, cur, rfl, h6⟩
  · simp at h7
  · unfold Oper.wp
    simp [execOp, ho, resolve, invoke, builtin, hs, hx, hr, Result.andThen]
    refine h g cap w' h2 h3 ?_
    rcases h5 with h8 | h8
    · exact .inl (show v.ownBlock = some g from h8.symm.trans rfl)
    · have h9 : some g = some w.heap.size := h8
      injection h9 with h9
      exact .inr h9
end Go.Proofs.YtkflggojiiebeaaGreat.Stk

namespace Go.Proofs.YtkflggojiiebeaaGreat.Stk
open Go Go.RowKit Lw Grd Lin Con Shp Sk Exa Lev
set_option linter.unusedVariables false
set_option linter.unusedSimpArgs false
set_option maxRecDepth 100000 in
set_option maxHeartbeats 4000000 in
theorem dk_new (c : Cfg) (w : World) (h : c.Ok) (hr : IsRight c) :
    Calls Tryz.prog 14 #[.agg #[.int .i64 c.bt, .int .i64 c.rw, .int .i64 c.wd, .int .i64 c.md, .int .u64 c.sd]] w fun e w' => ∃ (p : Addr) (F : Nat → Prop), e = .returned (.pointer (some p)) ∧ DK w' p F c (stsOf c []) ∧ (∀ k, F k → w.heap.size ≤ k) ∧ Below w.heap.size w w' := by
  have HO := Lib.hid h
  have HR := Lib.hid hr
  have hb1 := hr.1
  have hb2 := hr.2.1
  obtain ⟨j0, hj, hy0, hy1, hy2⟩ := info_parts dls_info
  have HJ := Lib.hid hj
  have HB1 := Lib.hid ((Hold.start0 (Below.refl _ w)).push (cfD w.heap.size c) (Lw.below_alloc (Below.refl _ _) _) (heap_alloc_new w _) (fun k hk => Nat.le_of_eq hk.symm))
  have N2 : ((w.alloc (.cells #[.int .i64 c.bt, .int .i64 c.rw, .int .i64 c.wd, .int .i64 c.md, .int .u64 c.sd] 24)).alloc (.cells #[.int .i64 c.bt, .int .i64 c.rw, .int .i64 c.wd, .int .i64 c.md, .int .u64 c.sd, .slice none 0 0] 58)).heap[w.heap.size + 1]? = some (.cells #[.int .i64 c.bt, .int .i64 c.rw, .int .i64 c.wd, .int .i64 c.md, .int .u64 c.sd, .slice none 0 0] 58 (0, 0)) := by
    have := heap_alloc_new (w.alloc (.cells #[.int .i64 c.bt, .int .i64 c.rw, .int .i64 c.wd, .int .i64 c.md, .int .u64 c.sd] 24)) (.cells #[.int .i64 c.bt, .int .i64 c.rw, .int .i64 c.wd, .int .i64 c.md, .int .u64 c.sd, .slice none 0 0] 58)
    rw [World.size_alloc] at this
    exact this
  have HS := Lib.hid ((HB1.out.push (ownT w.heap.size 55 (.slice none 0 0) []) (Below.refl _ _) (ownD_nil _ _ _) (fun k hk => ownD_nilF _ _ hk)).push (dkB (w.heap.size + 1) c (.slice none 0 0)) (Lw.below_alloc (Below.refl _ _) _) N2 (fun k hk => Nat.le_of_eq (by simp; exact hk.symm)))
  clear h hr hj N2
  go_enter Tryz.func14, Tryz.ntmps14
  go_wp2
  go_loopw [4] (fun i wr => ∃ (n : Nat) (hdr : Value) (vals : List Value) (ts : List Thing) (sts : List LS), (n : Int) ≤ c.bt + 1 ∧ i = .int .i64 n ∧ LRow dlT c vals ts sts ∧ sts.length = n ∧ (∀ j, j < n → sts[j]? = some (lsZero c j)) ∧ Hold (fun _ => False) w wr (dkB (w.heap.size + 1) c hdr :: ownT w.heap.size 55 hdr vals :: cfD w.heap.size c :: ts)) (fun i _ => (c.bt + 1).toNat - (intOf i).toNat)
  case atStart => exact ⟨0, .slice none 0 0, [], [], [], by omega, rfl, LRow.nil _ _, rfl, fun j hj => by omega, HS.out⟩
  case round =>
    obtain ⟨n, hdr, vals, ts, sts, hn, rfl, hrow, hsl, hsj, hv⟩ := hrel
    have HROW := Lib.hid hrow
    have HSL := Lib.hid hsl
    have HSJ := Lib.hid hsj
    have HV := Lib.hid hv
    have LV := Lib.hid (hrow.lv.trans hsl)
    have g0 := box_cell (hv.i (t := cfD w.heap.size c) (by simp)) (i := 0) rfl
    have g1 := box_cell (hv.i (t := cfD w.heap.size c) (by simp)) (i := 1) rfl
    have g2 := box_cell (hv.i (t := cfD w.heap.size c) (by simp)) (i := 2) rfl
    have g3 := box_cell (hv.i (t := cfD w.heap.size c) (by simp)) (i := 3) rfl
    have g4 := box_cell (hv.i (t := cfD w.heap.size c) (by simp)) (i := 4) rfl
    have x1 := box_cell (hv.i (t := dkB (w.heap.size + 1) c hdr) (by simp)) (i := 5) rfl
    clear hrow hsl hsj hv
    by_cases hlt : (n : Int) ≤ c.bt
    · go_wp2
      refine wp_region_held_drew (S := (fun w' => w'.cell? ⟨w.heap.size, 0, none⟩ = some (.int .i64 c.bt) ∧ w'.cell? ⟨w.heap.size, 1, none⟩ = some (.int .i64 c.rw) ∧ w'.cell? ⟨w.heap.size, 2, none⟩ = some (.int .i64 c.wd) ∧ w'.cell? ⟨w.heap.size, 3, none⟩ = some (.int .i64 c.md) ∧ w'.cell? ⟨w.heap.size, 4, none⟩ = some (.int .u64 c.sd))) (by kernel_rfl) (cfd_all ((HV.out.up (Below.drew (Below.refl _ wr))).i (t := cfD w.heap.size c) (by simp))) (fun hHeld => ?_)
      refine wpAnyH_take (i := 0) (v := ?_) rfl (by kernel_rfl) (by kernel_rfl) (by kernel_rfl) (fun _ _ _ h => h) (Or.inl ⟨by rfl, ?_⟩) hHeld ?_
      rotate_left
      · intro w hSw
        (try dsimp only at hSw)
        go_simp
        (try with_reducible rfl)
      (try simp only [List.getElem_toArray, List.getElem_cons_zero, List.getElem_cons_succ, Act.put, List.setIfInBounds_toArray, List.set_cons_zero, List.set_cons_succ])
      refine wpAnyH_take (i := 1) (v := ?_) rfl (by kernel_rfl) (by kernel_rfl) (by kernel_rfl) (fun _ _ _ h => h) (Or.inl ⟨by rfl, ?_⟩) hHeld ?_
      rotate_left
      · intro w hSw
        (try dsimp only at hSw)
        go_simp
        (try with_reducible rfl)
      (try simp only [List.getElem_toArray, List.getElem_cons_zero, List.getElem_cons_succ, Act.put, List.setIfInBounds_toArray, List.set_cons_zero, List.set_cons_succ])
      refine wpAnyH_take (i := 2) (v := ?_) rfl (by kernel_rfl) (by kernel_rfl) (by kernel_rfl) (fun _ _ _ h => h) (Or.inl ⟨by rfl, ?_⟩) hHeld ?_
      rotate_left
      · intro w hSw
        (try dsimp only at hSw)
        go_simp
        (try with_reducible rfl)
      (try simp only [List.getElem_toArray, List.getElem_cons_zero, List.getElem_cons_succ, Act.put, List.setIfInBounds_toArray, List.set_cons_zero, List.set_cons_succ])
      refine wpAnyH_take (i := 3) (v := ?_) rfl (by kernel_rfl) (by kernel_rfl) (by kernel_rfl) (fun _ _ _ h => h) (Or.inl ⟨by rfl, ?_⟩) hHeld ?_
      rotate_left
      · intro w hSw
        (try dsimp only at hSw)
        go_simp
        (try with_reducible rfl)
      (try simp only [List.getElem_toArray, List.getElem_cons_zero, List.getElem_cons_succ, Act.put, List.setIfInBounds_toArray, List.set_cons_zero, List.set_cons_succ])
      refine wpAnyH_take (i := 5) (v := ?_) rfl (by kernel_rfl) (by kernel_rfl) (by kernel_rfl) (fun _ _ _ h => h) (Or.inl ⟨by rfl, ?_⟩) hHeld ?_
      rotate_left
      · intro w hSw
        (try dsimp only at hSw)
        go_simp
        (try with_reducible rfl)
      (try simp only [List.getElem_toArray, List.getElem_cons_zero, List.getElem_cons_succ, Act.put, List.setIfInBounds_toArray, List.set_cons_zero, List.set_cons_succ])
      refine wpAnyH_take (i := 6) (v := ?_) rfl (by kernel_rfl) (by kernel_rfl) (by kernel_rfl) (fun _ _ _ h => h) (Or.inl ⟨by rfl, ?_⟩) hHeld ?_
      rotate_left
      · intro w hSw
        (try dsimp only at hSw)
        go_simp
        (try with_reducible rfl)
      (try simp only [List.getElem_toArray, List.getElem_cons_zero, List.getElem_cons_succ, Act.put, List.setIfInBounds_toArray, List.set_cons_zero, List.set_cons_succ])
      refine wpAnyH_ready (rs := [4, 7]) (by kernel_rfl) (by simp) ?_
      refine AllReadyH.cons rfl (fun K hK => ?_) (AllReadyH.cons rfl (fun K hK => ?_) AllReadyH.nil)
      · go_simp
        refine hK.out _ _ hHeld (fun hHeld => ?_)
        clear hK K
        (try simp only [List.getElem_toArray, List.getElem_cons_zero, List.getElem_cons_succ, Act.put, List.setIfInBounds_toArray, List.set_cons_zero, List.set_cons_succ])
        refine wpAnyH_ready (rs := [7]) (by kernel_rfl) (by simp) ?_
        refine AllReadyH.cons rfl (fun K hK => ?_) AllReadyH.nil
        go_simp
        (go_at_call 45; (with_reducible refine (dv_new c n _ HO.out HR.out (by omega) hlt).mono ?_); rintro e w5 ⟨pv, Q5, rfl, hE5, hQ5, hb5⟩; have HV5 := Lib.hid (Hold.snoc (HV.out.up (Below.drew (Below.refl _ wr))) (dlT (.pointer (some pv)) Q5 c n (lsZero c n)) hb5 ⟨pv, rfl, hE5⟩ hQ5); have BW5 : Below wr.heap.size wr w5 := (Below.drew (Below.refl _ wr)).trans hb5; clear hE5 hQ5 hb5; have x5 := box_cell (HV5.out.i (t := dkB (w.heap.size + 1) c hdr) (by simp)) (i := 5) rfl; have HV6 := Lib.hid (HV5.out.up (Lw.below_alloc (Below.refl _ w5) (.cells #[.pointer (some pv)] 55))); have x6 := box_cell (HV6.out.i (t := dkB (w.heap.size + 1) c hdr) (by simp)) (i := 5) rfl)
        refine hK.out _ _ (cfd_all ((HV5.out).i (t := cfD w.heap.size c) (by simp))) (fun hHeld => ?_)
        clear hK K
        (try simp only [List.getElem_toArray, List.getElem_cons_zero, List.getElem_cons_succ, Act.put, List.setIfInBounds_toArray, List.set_cons_zero, List.set_cons_succ])
        refine wpAnyH_ready (rs := [8]) (by kernel_rfl) (by simp) ?_
        refine AllReadyH.cons rfl (fun K hK => ?_) AllReadyH.nil
        go_simp
        refine hK.out _ _ (cfd_all ((HV6.out).i (t := cfD w.heap.size c) (by simp))) (fun hHeld => ?_)
        clear hK K
        (try simp only [List.getElem_toArray, List.getElem_cons_zero, List.getElem_cons_succ, Act.put, List.setIfInBounds_toArray, List.set_cons_zero, List.set_cons_succ])
        refine wpAnyH_ready (rs := [9]) (by kernel_rfl) (by simp) ?_
        refine AllReadyH.cons rfl (fun K hK => ?_) AllReadyH.nil
        (refine appd_step rfl _ _ 56 rfl w.heap.size 55 j0 (.pointer none) 8 dls_u HJ.out hy0 hy1 hy2 rfl hdr n vals rfl (by have h7 := HV6.out.i (t := ownT w.heap.size 55 hdr vals) (by simp); have h8 : World.ownsRow _ _ _ _ hdr vals.length vals := h7; rw [LV.out] at h8; exact h8) (.pointer (some pv)) w5.heap.size rfl (cell_one_new _ _ _) rfl (by unfold maxLen; omega) (by omega) (by have h9 := HV6.out.1.size; exact h9) ?_; intro g7 cap7 w7 own7 grow7 hat7; have HV7 := Lib.hid (Hold.app (fs := [dkB (w.heap.size + 1) c hdr]) HV6.out (by rw [LV.out]; exact own7) grow7 hat7); have x7 := box_cell (HV7.out.i (t := dkB (w.heap.size + 1) c hdr) (by simp)) (i := 5) rfl; have z7 : w7.frozen? ⟨w.heap.size + 1, 5, none⟩ = false := frozen_of_row w7 (w.heap.size + 1) 5 _ _ (HV7.out.i (t := dkB (w.heap.size + 1) c hdr) (by simp)))
        refine hK.out _ _ (cfd_all ((HV7.out).i (t := cfD w.heap.size c) (by simp))) (fun hHeld => ?_)
        clear hK K
        (try simp only [List.getElem_toArray, List.getElem_cons_zero, List.getElem_cons_succ, Act.put, List.setIfInBounds_toArray, List.set_cons_zero, List.set_cons_succ])
        refine wpAnyH_take (i := 10) (v := ?_) rfl (by kernel_rfl) (by kernel_rfl) (by kernel_rfl) (fun _ _ _ h => h) (Or.inl ⟨by rfl, ?_⟩) hHeld ?_
        rotate_left
        · intro w hSw
          (try dsimp only at hSw)
          go_simp
          (try with_reducible rfl)
        (try simp only [List.getElem_toArray, List.getElem_cons_zero, List.getElem_cons_succ, Act.put, List.setIfInBounds_toArray, List.set_cons_zero, List.set_cons_succ])
        refine wpAnyH_take (i := 11) (v := ?_) rfl (by kernel_rfl) (by kernel_rfl) (by kernel_rfl) (fun _ _ _ h => h) (Or.inl ⟨by rfl, ?_⟩) hHeld ?_
        rotate_left
        · intro w hSw
          (try dsimp only at hSw)
          go_simp
          (try with_reducible rfl)
        (try simp only [List.getElem_toArray, List.getElem_cons_zero, List.getElem_cons_succ, Act.put, List.setIfInBounds_toArray, List.set_cons_zero, List.set_cons_succ])
        refine wpAnyH_ready (rs := [12]) (by kernel_rfl) (by simp) ?_
        refine AllReadyH.cons rfl (fun K hK => ?_) AllReadyH.nil
        go_simp
        refine hK.out _ _ (cfd_all ((Hold.store (fs := []) HV7.out _).i (t := cfD w.heap.size c) (by simp))) (fun hHeld => ?_)
        clear hK K
        (try simp only [List.getElem_toArray, List.getElem_cons_zero, List.getElem_cons_succ, Act.put, List.setIfInBounds_toArray, List.set_cons_zero, List.set_cons_succ])
        refine wpAnyH_done (by kernel_rfl) ?_ _
        go_wp2
        go_roundw
        all_goals first
          | (simp [intOf]; omega)
          | (refine ⟨n + 1, .slice (some ⟨g7, 0, none⟩) (n + 1) cap7, vals ++ [.pointer (some pv)], ts ++ [dlT (.pointer (some pv)) Q5 c n (lsZero c n)], sts ++ [lsZero c n], by omega, by go_num, HROW.out.snoc HSL.out _ Q5 _, by simp [HSL.out], fun j hj => new_row HSL.out HSJ.out hj, ?_⟩
             have h9 := Hold.store (fs := []) HV7.out (.slice (some ⟨g7, 0, none⟩) (vals.length + 1) cap7)
             rw [LV.out] at h9
             exact h9)
      · go_simp
        (go_at_call 45; (with_reducible refine (dv_new c n _ HO.out HR.out (by omega) hlt).mono ?_); rintro e w5 ⟨pv, Q5, rfl, hE5, hQ5, hb5⟩; have HV5 := Lib.hid (Hold.snoc (HV.out.up (Below.drew (Below.refl _ wr))) (dlT (.pointer (some pv)) Q5 c n (lsZero c n)) hb5 ⟨pv, rfl, hE5⟩ hQ5); have BW5 : Below wr.heap.size wr w5 := (Below.drew (Below.refl _ wr)).trans hb5; clear hE5 hQ5 hb5; have x5 := box_cell (HV5.out.i (t := dkB (w.heap.size + 1) c hdr) (by simp)) (i := 5) rfl; have HV6 := Lib.hid (HV5.out.up (Lw.below_alloc (Below.refl _ w5) (.cells #[.pointer (some pv)] 55))); have x6 := box_cell (HV6.out.i (t := dkB (w.heap.size + 1) c hdr) (by simp)) (i := 5) rfl)
        refine hK.out _ _ (cfd_all ((HV5.out).i (t := cfD w.heap.size c) (by simp))) (fun hHeld => ?_)
        clear hK K
        (try simp only [List.getElem_toArray, List.getElem_cons_zero, List.getElem_cons_succ, Act.put, List.setIfInBounds_toArray, List.set_cons_zero, List.set_cons_succ])
        refine wpAnyH_ready (rs := [4, 8]) (by kernel_rfl) (by simp) ?_
        refine AllReadyH.cons rfl (fun K hK => ?_) (AllReadyH.cons rfl (fun K hK => ?_) AllReadyH.nil)
        · go_simp
          refine hK.out _ _ hHeld (fun hHeld => ?_)
          clear hK K
          (try simp only [List.getElem_toArray, List.getElem_cons_zero, List.getElem_cons_succ, Act.put, List.setIfInBounds_toArray, List.set_cons_zero, List.set_cons_succ])
          refine wpAnyH_ready (rs := [8]) (by kernel_rfl) (by simp) ?_
          refine AllReadyH.cons rfl (fun K hK => ?_) AllReadyH.nil
          go_simp
          refine hK.out _ _ (cfd_all ((HV6.out).i (t := cfD w.heap.size c) (by simp))) (fun hHeld => ?_)
          clear hK K
          (try simp only [List.getElem_toArray, List.getElem_cons_zero, List.getElem_cons_succ, Act.put, List.setIfInBounds_toArray, List.set_cons_zero, List.set_cons_succ])
          refine wpAnyH_ready (rs := [9]) (by kernel_rfl) (by simp) ?_
          refine AllReadyH.cons rfl (fun K hK => ?_) AllReadyH.nil
          (refine appd_step rfl _ _ 56 rfl w.heap.size 55 j0 (.pointer none) 8 dls_u HJ.out hy0 hy1 hy2 rfl hdr n vals rfl (by have h7 := HV6.out.i (t := ownT w.heap.size 55 hdr vals) (by simp); have h8 : World.ownsRow _ _ _ _ hdr vals.length vals := h7; rw [LV.out] at h8; exact h8) (.pointer (some pv)) w5.heap.size rfl (cell_one_new _ _ _) rfl (by unfold maxLen; omega) (by omega) (by have h9 := HV6.out.1.size; exact h9) ?_; intro g7 cap7 w7 own7 grow7 hat7; have HV7 := Lib.hid (Hold.app (fs := [dkB (w.heap.size + 1) c hdr]) HV6.out (by rw [LV.out]; exact own7) grow7 hat7); have x7 := box_cell (HV7.out.i (t := dkB (w.heap.size + 1) c hdr) (by simp)) (i := 5) rfl; have z7 : w7.frozen? ⟨w.heap.size + 1, 5, none⟩ = false := frozen_of_row w7 (w.heap.size + 1) 5 _ _ (HV7.out.i (t := dkB (w.heap.size + 1) c hdr) (by simp)))
          refine hK.out _ _ (cfd_all ((HV7.out).i (t := cfD w.heap.size c) (by simp))) (fun hHeld => ?_)
          clear hK K
          (try simp only [List.getElem_toArray, List.getElem_cons_zero, List.getElem_cons_succ, Act.put, List.setIfInBounds_toArray, List.set_cons_zero, List.set_cons_succ])
          refine wpAnyH_take (i := 10) (v := ?_) rfl (by kernel_rfl) (by kernel_rfl) (by kernel_rfl) (fun _ _ _ h => h) (Or.inl ⟨by rfl, ?_⟩) hHeld ?_
          rotate_left
          · intro w hSw
            (try dsimp only at hSw)
            go_simp
            (try with_reducible rfl)
          (try simp only [List.getElem_toArray, List.getElem_cons_zero, List.getElem_cons_succ, Act.put, List.setIfInBounds_toArray, List.set_cons_zero, List.set_cons_succ])
          refine wpAnyH_take (i := 11) (v := ?_) rfl (by kernel_rfl) (by kernel_rfl) (by kernel_rfl) (fun _ _ _ h => h) (Or.inl ⟨by rfl, ?_⟩) hHeld ?_
          rotate_left
          · intro w hSw
            (try dsimp only at hSw)
            go_simp
            (try with_reducible rfl)
          (try simp only [List.getElem_toArray, List.getElem_cons_zero, List.getElem_cons_succ, Act.put, List.setIfInBounds_toArray, List.set_cons_zero, List.set_cons_succ])
          refine wpAnyH_ready (rs := [12]) (by kernel_rfl) (by simp) ?_
          refine AllReadyH.cons rfl (fun K hK => ?_) AllReadyH.nil
          go_simp
          refine hK.out _ _ (cfd_all ((Hold.store (fs := []) HV7.out _).i (t := cfD w.heap.size c) (by simp))) (fun hHeld => ?_)
          clear hK K
          (try simp only [List.getElem_toArray, List.getElem_cons_zero, List.getElem_cons_succ, Act.put, List.setIfInBounds_toArray, List.set_cons_zero, List.set_cons_succ])
          refine wpAnyH_done (by kernel_rfl) ?_ _
          go_wp2
          go_roundw
          all_goals first
            | (simp [intOf]; omega)
            | (refine ⟨n + 1, .slice (some ⟨g7, 0, none⟩) (n + 1) cap7, vals ++ [.pointer (some pv)], ts ++ [dlT (.pointer (some pv)) Q5 c n (lsZero c n)], sts ++ [lsZero c n], by omega, by go_num, HROW.out.snoc HSL.out _ Q5 _, by simp [HSL.out], fun j hj => new_row HSL.out HSJ.out hj, ?_⟩
               have h9 := Hold.store (fs := []) HV7.out (.slice (some ⟨g7, 0, none⟩) (vals.length + 1) cap7)
               rw [LV.out] at h9
               exact h9)
        · go_simp
          refine hK.out _ _ (cfd_all ((HV6.out).i (t := cfD w.heap.size c) (by simp))) (fun hHeld => ?_)
          clear hK K
          (try simp only [List.getElem_toArray, List.getElem_cons_zero, List.getElem_cons_succ, Act.put, List.setIfInBounds_toArray, List.set_cons_zero, List.set_cons_succ])
          refine wpAnyH_ready (rs := [4]) (by kernel_rfl) (by simp) ?_
          refine AllReadyH.cons rfl (fun K hK => ?_) AllReadyH.nil
          go_simp
          refine hK.out _ _ hHeld (fun hHeld => ?_)
          clear hK K
          (try simp only [List.getElem_toArray, List.getElem_cons_zero, List.getElem_cons_succ, Act.put, List.setIfInBounds_toArray, List.set_cons_zero, List.set_cons_succ])
          refine wpAnyH_ready (rs := [9]) (by kernel_rfl) (by simp) ?_
          refine AllReadyH.cons rfl (fun K hK => ?_) AllReadyH.nil
          (refine appd_step rfl _ _ 56 rfl w.heap.size 55 j0 (.pointer none) 8 dls_u HJ.out hy0 hy1 hy2 rfl hdr n vals rfl (by have h7 := HV6.out.i (t := ownT w.heap.size 55 hdr vals) (by simp); have h8 : World.ownsRow _ _ _ _ hdr vals.length vals := h7; rw [LV.out] at h8; exact h8) (.pointer (some pv)) w5.heap.size rfl (cell_one_new _ _ _) rfl (by unfold maxLen; omega) (by omega) (by have h9 := HV6.out.1.size; exact h9) ?_; intro g7 cap7 w7 own7 grow7 hat7; have HV7 := Lib.hid (Hold.app (fs := [dkB (w.heap.size + 1) c hdr]) HV6.out (by rw [LV.out]; exact own7) grow7 hat7); have x7 := box_cell (HV7.out.i (t := dkB (w.heap.size + 1) c hdr) (by simp)) (i := 5) rfl; have z7 : w7.frozen? ⟨w.heap.size + 1, 5, none⟩ = false := frozen_of_row w7 (w.heap.size + 1) 5 _ _ (HV7.out.i (t := dkB (w.heap.size + 1) c hdr) (by simp)))
          refine hK.out _ _ (cfd_all ((HV7.out).i (t := cfD w.heap.size c) (by simp))) (fun hHeld => ?_)
          clear hK K
          (try simp only [List.getElem_toArray, List.getElem_cons_zero, List.getElem_cons_succ, Act.put, List.setIfInBounds_toArray, List.set_cons_zero, List.set_cons_succ])
          refine wpAnyH_take (i := 10) (v := ?_) rfl (by kernel_rfl) (by kernel_rfl) (by kernel_rfl) (fun _ _ _ h => h) (Or.inl ⟨by rfl, ?_⟩) hHeld ?_
          rotate_left
          · intro w hSw
            (try dsimp only at hSw)
            go_simp
            (try with_reducible rfl)
          (try simp only [List.getElem_toArray, List.getElem_cons_zero, List.getElem_cons_succ, Act.put, List.setIfInBounds_toArray, List.set_cons_zero, List.set_cons_succ])
          refine wpAnyH_take (i := 11) (v := ?_) rfl (by kernel_rfl) (by kernel_rfl) (by kernel_rfl) (fun _ _ _ h => h) (Or.inl ⟨by rfl, ?_⟩) hHeld ?_
          rotate_left
          · intro w hSw
            (try dsimp only at hSw)
            go_simp
            (try with_reducible rfl)
          (try simp only [List.getElem_toArray, List.getElem_cons_zero, List.getElem_cons_succ, Act.put, List.setIfInBounds_toArray, List.set_cons_zero, List.set_cons_succ])
          refine wpAnyH_ready (rs := [12]) (by kernel_rfl) (by simp) ?_
          refine AllReadyH.cons rfl (fun K hK => ?_) AllReadyH.nil
          go_simp
          refine hK.out _ _ (cfd_all ((Hold.store (fs := []) HV7.out _).i (t := cfD w.heap.size c) (by simp))) (fun hHeld => ?_)
          clear hK K
          (try simp only [List.getElem_toArray, List.getElem_cons_zero, List.getElem_cons_succ, Act.put, List.setIfInBounds_toArray, List.set_cons_zero, List.set_cons_succ])
          refine wpAnyH_done (by kernel_rfl) ?_ _
          go_wp2
          go_roundw
          all_goals first
            | (simp [intOf]; omega)
            | (refine ⟨n + 1, .slice (some ⟨g7, 0, none⟩) (n + 1) cap7, vals ++ [.pointer (some pv)], ts ++ [dlT (.pointer (some pv)) Q5 c n (lsZero c n)], sts ++ [lsZero c n], by omega, by go_num, HROW.out.snoc HSL.out _ Q5 _, by simp [HSL.out], fun j hj => new_row HSL.out HSJ.out hj, ?_⟩
               have h9 := Hold.store (fs := []) HV7.out (.slice (some ⟨g7, 0, none⟩) (vals.length + 1) cap7)
               rw [LV.out] at h9
               exact h9)
    · go_wp2
      go_ret
      have he : n = c.bt.toNat + 1 := by omega
      subst he
      obtain ⟨s1, s2, s3⟩ := dk_of HR.out HO.out HSL.out HROW.out (Hold.sub HV.out (.cons_cons _ (.cons_cons _ (.cons _ (List.Sublist.refl _)))))
      have e9 : sts = stsOf c [] := List.ext_getElem? (fun j => by
        by_cases hj : j < c.bt.toNat + 1
        · rw [HSJ.out j hj, stsOf_get hj, stOf_nil]
        · rw [List.getElem?_eq_none (by rw [HSL.out]; omega), List.getElem?_eq_none (by rw [stsOf_len]; omega)])
      rw [e9] at s1
      exact ⟨_, rfl, _, s1, fun k hk => (s3 k hk).elim (fun h => h.elim) id, s2.below⟩
end Go.Proofs.YtkflggojiiebeaaGreat.Stk

namespace Go.Proofs.YtkflggojiiebeaaGreat.Stk
open Go Go.RowKit Lw Grd Lin Con Shp Sk Exa Lev
set_option linter.unusedVariables false
set_option linter.unusedSimpArgs false
theorem spd_no {c : Cfg} {sts : List LS} {n : Int} (hl : sts.length = c.bt.toNat + 1) (hb : 1 ≤ c.bt) (hn : ¬ (0 ≤ n ∧ n ≤ c.bt)) (i : Int) : spV c sts n i = 0 ∧ spC c sts n i = 2 := by
  unfold spV spC
  by_cases h0 : 0 ≤ n
  · rw [if_pos h0, if_pos h0, List.getElem?_eq_none (by omega)]
    exact ⟨rfl, rfl⟩
  · rw [if_neg h0, if_neg h0]
    exact ⟨rfl, rfl⟩
theorem spd_yes {c : Cfg} {sts : List LS} {n : Nat} {st : LS} (hn : sts[n]? = some st) (i : Int) : spV c sts (n : Int) i = lsPtV c n st i ∧ spC c sts (n : Int) i = lsPtC c n st i := by
  unfold spV spC
  rw [if_pos (by omega), if_pos (by omega), Int.toNat_natCast, hn]
  exact ⟨rfl, rfl⟩
set_option maxHeartbeats 8000000 in
theorem dk_point (p : Addr) (F : Nat → Prop) (c : Cfg) (sts : List LS) (n i : Int) (w : World) (h : DK w p F c sts) (n0 : -9223372036854775808 ≤ n) (n1 : n ≤ 9223372036854775807) (i0 : 0 ≤ i) (i1 : i ≤ 18446744073709551615) :
    Calls Tryz.prog 56 #[.pointer (some p), .agg #[.int .i64 n, .int .u64 i]] w fun e w' => e = .returned (.tuple #[.int .i64 (spV c sts n i), .int .i64 (spC c sts n i)]) ∧ Below w.heap.size w w' := by
  obtain ⟨hr, hc, hl, b0, B0, hdr0, vals0, ts0, rfl, hrow0, hI, rfl⟩ := h
  have HH := Lib.hid (Hold.start hI)
  have HO := Lib.hid hc
  have HR := Lib.hid hr
  have HL := Lib.hid hl
  have HROW0 := Lib.hid hrow0
  have hb1 := hr.1
  have hb2 := hr.2.1
  obtain ⟨g0, cap0, rfl, hcs⟩ := ownD_cell (HH.out.i (t := ownT B0 55 hdr0 vals0) (by simp)) (by have := hrow0.lv; omega)
  obtain ⟨N, hN⟩ : ∃ N, vals0.length = N := ⟨_, rfl⟩
  have HNB : Hid (N = c.bt.toNat + 1) := Lib.hid (by have := hrow0.lv; omega)
  have hN60 : N ≤ 60 := by have := HNB.out; omega
  have HCS := Lib.hid hcs
  have d5 : w.cell? ⟨b0, 5, none⟩ = some (.slice (some ⟨g0, 0, none⟩) N cap0) := by rw [← hN]; exact box_cell (HH.out.i (t := dkB b0 c (.slice (some ⟨g0, 0, none⟩) vals0.length cap0)) (by simp)) (i := 5) rfl
  have HD5 := Lib.hid d5
  have HLS : Hid (sts.length = N) := Lib.hid (by have := hrow0.lv; omega)
  have I0 := Lib.hid i0
  have I1 := Lib.hid i1
  have B0w : Below w.heap.size w (w.alloc (.cells #[.int .i64 n, .int .u64 i] 82)) := Lw.below_alloc (Below.refl _ _) _
  have k5 := cell_up d5 B0w
  by_cases hlo : n < 0
  · obtain ⟨e1, e2⟩ := spd_no (sts := sts) HL.out hb1 (fun h => by omega : ¬ (0 ≤ n ∧ n ≤ c.bt)) i
    rw [e1, e2]
    have hd : decide (n < 0) = true := decide_eq_true hlo
    clear hr hc hl hrow0 hI hcs hN hb1 hb2 hN60 n0 n1 i0 i1 e1 e2
    go_enter Tryz.func56, Tryz.ntmps56
    go_wp2
    go_quiet (fail)
    go_wp2
    go_ret2
    exact ⟨rfl, (by (repeat' (first | (with_reducible first | exact Below.refl _ _ | assumption | refine below_over ?_ _ _ | refine Lw.below_alloc ?_ _ | refine Below.drew ?_ | refine below_drewN ?_ _ | refine Below.setCell ?_ ?_ _) | go_size)))⟩
  · obtain ⟨m, rfl⟩ : ∃ m : Nat, n = m := ⟨n.toNat, by omega⟩
    by_cases hhi : (N : Int) ≤ (m : Int)
    · obtain ⟨e1, e2⟩ := spd_no (sts := sts) HL.out hb1 (fun h => by have := HNB.out; omega : ¬ (0 ≤ (m : Int) ∧ (m : Int) ≤ c.bt)) i
      rw [e1, e2]
      have hd : decide ((m : Int) < 0) = false := decide_eq_false hlo
      have hd2 : decide ((N : Int) ≤ (m : Int)) = true := decide_eq_true hhi
      have hm0 : (0 : Int) ≤ (m : Int) := by omega
      clear hr hc hl hrow0 hI hcs hN hb1 hb2 hN60 n0 n1 i0 i1 e1 e2
      go_enter Tryz.func56, Tryz.ntmps56
      go_wp2
      go_quiet (fail)
      go_wp2
      go_ret2
      exact ⟨rfl, (by (repeat' (first | (with_reducible first | exact Below.refl _ _ | assumption | refine below_over ?_ _ _ | refine Lw.below_alloc ?_ _ | refine Below.drew ?_ | refine below_drewN ?_ _ | refine Below.setCell ?_ ?_ _) | go_size)))⟩
    · obtain ⟨st, hst⟩ : ∃ st, sts[m]? = some st := ⟨_, List.getElem?_eq_getElem (by have := HLS.out; omega)⟩
      obtain ⟨p0, Q0, e1, e2, e3⟩ := dk_at HROW0.out HH.out hst
      have d6 := HCS.out m _ e1
      have k6 := cell_up d6 B0w
      have HE := Lib.hid e2
      obtain ⟨e4, e5⟩ := spd_yes (c := c) hst i
      rw [e4, e5]
      have hd : decide ((m : Int) < 0) = false := decide_eq_false hlo
      have hd2 : decide ((N : Int) ≤ (m : Int)) = false := decide_eq_false hhi
      have hmN : (m : Int) < (N : Int) := by omega
      have hm0 : (0 : Int) ≤ (m : Int) := by omega
      clear hr hc hl hrow0 hI hcs hN hb1 hb2 hN60 n0 n1 i0 i1 e1 e2 e3 e4 e5 hst
      go_enter Tryz.func56, Tryz.ntmps56
      go_wp2
      go_quiet (fail)
      go_wp2
      have q0 : (w.alloc (.cells #[.int .i64 m, .int .u64 i] 82)).cell? ⟨w.heap.size, 0, none⟩ = some (.int .i64 m) := box_cell (heap_alloc_new w _) rfl
      have q1 : (w.alloc (.cells #[.int .i64 m, .int .u64 i] 82)).cell? ⟨w.heap.size, 1, none⟩ = some (.int .u64 i) := box_cell (heap_alloc_new w _) rfl
      go_region_held3 (fun w' => Below w.heap.size w w' ∧ w'.cell? ⟨b0, 5, none⟩ = some (.slice (some ⟨g0, 0, none⟩) N cap0) ∧ w'.cell? ⟨w.heap.size, 0, none⟩ = some (.int .i64 m) ∧ w'.cell? ⟨w.heap.size, 1, none⟩ = some (.int .u64 i) ∧ w'.cell? ⟨g0, m, none⟩ = some (.pointer (some p0))) (first | (refine ⟨?_, ?_, ?_, ?_, ?_⟩ <;> (first | (with_reducible assumption) | (with_reducible refine cell_up k5 ?_) | (with_reducible refine cell_up k6 ?_) | (with_reducible refine cell_up q0 ?_) | (with_reducible refine cell_up q1 ?_) | skip) <;> ((repeat' (first | (with_reducible first | exact Below.refl _ _ | assumption | refine below_over ?_ _ _ | refine Lw.below_alloc ?_ _ | refine Below.drew ?_ | refine below_drewN ?_ _ | refine Below.setCell ?_ ?_ _) | go_size))))) (first
        | (go_at_call 96; (with_reducible refine (dv_point p0 Q0 c m st i _ (dlv_up HE.out (by (repeat' (first | (with_reducible first | exact Below.refl _ _ | assumption | refine below_over ?_ _ _ | refine Lw.below_alloc ?_ _ | refine Below.drew ?_ | refine below_drewN ?_ _ | refine Below.setCell ?_ ?_ _) | go_size)))) I0.out I1.out).mono ?_); rintro e w5 ⟨rfl, hb⟩; obtain ⟨bs, d, rfl⟩ := below_grow hb; clear hb))
      all_goals go_wp2
      all_goals go_ret2
      all_goals exact ⟨rfl, (by (repeat' (first | (with_reducible first | exact Below.refl _ _ | assumption | refine below_over ?_ _ _ | refine Lw.below_alloc ?_ _ | refine Below.drew ?_ | refine below_drewN ?_ _ | refine Below.setCell ?_ ?_ _) | go_size)))⟩
end Go.Proofs.YtkflggojiiebeaaGreat.Stk

namespace Go.Proofs.YtkflggojiiebeaaGreat.Spn
open Go Go.RowKit Lw Grd Lin Con Shp Sk Exa Lev Stk Pcs
set_option linter.unusedVariables false
set_option linter.unusedSimpArgs false
theorem dk_bt {w : World} {r : Addr} {F : Nat → Prop} {c : Cfg} {sts : List LS} (h : DK w r F c sts) : ∃ b, r = ⟨b, 0, none⟩ ∧ w.cell? ⟨b, 0, none⟩ = some (.int .i64 c.bt) ∧ b < w.heap.size := by
  obtain ⟨hr, hc, hl, b, B0, hdr, vals, ts, e, hrow, hI, -⟩ := h
  have hb := (Hold.start hI).i (t := dkB b c hdr) (by simp)
  exact ⟨b, e, box_cell hb (i := 0) rfl, box_lt hb⟩
end Go.Proofs.YtkflggojiiebeaaGreat.Spn

