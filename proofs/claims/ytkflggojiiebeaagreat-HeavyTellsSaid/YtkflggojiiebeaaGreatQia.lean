/- Texts that statements lean on, put together: WidRAdd, LinChg, ConDef, ConRef, ExaRef, SkRef, SkDocC, LevRef, Lvl, StkDst. -/
import Derived.Test.YtkflggojiiebeaaGreatQaa
import Derived.Test.YtkflggojiiebeaaGreatQab
import Derived.Test.YtkflggojiiebeaaGreatQac
import Derived.Test.YtkflggojiiebeaaGreatQad
import Derived.Test.YtkflggojiiebeaaGreatQae
import Derived.Test.YtkflggojiiebeaaGreatQaf
import Derived.Test.YtkflggojiiebeaaGreatQca
import Derived.Test.YtkflggojiiebeaaGreatQcb
import Derived.Test.YtkflggojiiebeaaGreatQea
import Derived.Test.YtkflggojiiebeaaGreatRows
import Derived.WalkKit
import Derived.ProofKit
import Derived.OpenShut
import Derived.DataShut
import Derived.Lib.SmallJoins
import Derived.Handy
import Derived.WalkSmall
import Derived.Deep.Draws
import Derived.WalkSpells
import Derived.Laws.AppendOwnNone
import Derived.Deep.AppendLies
import Derived.Lib.Hide
import Derived.Deep.MidRow
import Derived.Laws.BitsAllLaws
import Derived.WalkMore
import Derived.Deep.LoopGhost
import Derived.Deep.RegionHeld3
import Derived.Deep.QuietTactic
import Derived.BigQuiet
import Derived.Laws.Cover3
import Derived.Shelf.Spec.BitsCarry
import Derived.Laws.OwnMore
import Derived.Deep.DeepCutAuto
import Derived.Laws.EntriesVeiled
import Derived.Deep.CutRange
import Derived.Maps.AppendAt
namespace Go.Proofs.YtkflggojiiebeaaGreat.Con
end Go.Proofs.YtkflggojiiebeaaGreat.Con
namespace Go.Proofs.YtkflggojiiebeaaGreat.Exa
end Go.Proofs.YtkflggojiiebeaaGreat.Exa
namespace Go.Proofs.YtkflggojiiebeaaGreat.Fld
end Go.Proofs.YtkflggojiiebeaaGreat.Fld
namespace Go.Proofs.YtkflggojiiebeaaGreat.Grd
end Go.Proofs.YtkflggojiiebeaaGreat.Grd
namespace Go.Proofs.YtkflggojiiebeaaGreat.Hsh
end Go.Proofs.YtkflggojiiebeaaGreat.Hsh
namespace Go.Proofs.YtkflggojiiebeaaGreat.Hvy
end Go.Proofs.YtkflggojiiebeaaGreat.Hvy
namespace Go.Proofs.YtkflggojiiebeaaGreat.Inn
end Go.Proofs.YtkflggojiiebeaaGreat.Inn
namespace Go.Proofs.YtkflggojiiebeaaGreat.Lev
end Go.Proofs.YtkflggojiiebeaaGreat.Lev
namespace Go.Proofs.YtkflggojiiebeaaGreat.Lin
end Go.Proofs.YtkflggojiiebeaaGreat.Lin
namespace Go.Proofs.YtkflggojiiebeaaGreat.Lw
end Go.Proofs.YtkflggojiiebeaaGreat.Lw
namespace Go.Proofs.YtkflggojiiebeaaGreat.Ord
end Go.Proofs.YtkflggojiiebeaaGreat.Ord
namespace Go.Proofs.YtkflggojiiebeaaGreat.Pcs
end Go.Proofs.YtkflggojiiebeaaGreat.Pcs
namespace Go.Proofs.YtkflggojiiebeaaGreat.Qnt
end Go.Proofs.YtkflggojiiebeaaGreat.Qnt
namespace Go.Proofs.YtkflggojiiebeaaGreat.Sed
end Go.Proofs.YtkflggojiiebeaaGreat.Sed
namespace Go.Proofs.YtkflggojiiebeaaGreat.Shp
end Go.Proofs.YtkflggojiiebeaaGreat.Shp
namespace Go.Proofs.YtkflggojiiebeaaGreat.Sk
end Go.Proofs.YtkflggojiiebeaaGreat.Sk
namespace Go.Proofs.YtkflggojiiebeaaGreat.Smr
end Go.Proofs.YtkflggojiiebeaaGreat.Smr
namespace Go.Proofs.YtkflggojiiebeaaGreat.Spn
end Go.Proofs.YtkflggojiiebeaaGreat.Spn
namespace Go.Proofs.YtkflggojiiebeaaGreat.Stk
end Go.Proofs.YtkflggojiiebeaaGreat.Stk
namespace Go.Proofs.YtkflggojiiebeaaGreat.Wid
end Go.Proofs.YtkflggojiiebeaaGreat.Wid
namespace Go.Proofs.YtkflggojiiebeaaGreat.Wid
open Go.RowKit
set_option linter.unusedVariables false
theorem radd_any (a b : Int) (w : World) (a0 : -9223372036854775808 ≤ a) (a1 : a ≤ 9223372036854775807) (b0 : -9223372036854775808 ≤ b) (b1 : b ≤ 9223372036854775807) :
    Calls Tryz.prog 121 #[.int .i64 a, .int .i64 b] w fun e w' => e = .returned (.tuple #[.int .i64 (f64 (a + b)), .bool (fit64 (a + b))]) ∧ Below w.heap.size w w' := by
  go_enter Tryz.func121, Tryz.ntmps121
  go_wp2_with (first
    | (go_at_call 58; (with_reducible refine (rofint_any _ _ (by omega) (by omega)).mono ?_); rintro e w' ⟨rfl, hb⟩)
    | (go_at_call 60; (with_reducible refine (rplus_any a b _ _ _ _ _ _ _ _ _ _ _ _ _ _ _ _ _ _ _ _ _ rfl rfl).mono ?_); rintro e w' ⟨rfl, hb⟩)
    | (go_at_call 62; (with_reducible refine (rint_any (a + b) _ _ _ _ _ _ _ _ _ _ _ rfl (by omega) (by omega)).mono ?_); rintro e w' ⟨rfl, hb⟩))
  go_ret2
  refine ⟨rfl, ?_⟩
  repeat' (first | (with_reducible exact Below.refl _ _) | (with_reducible refine below_call ?_ (by with_reducible assumption) (Nat.le_refl _)) | (with_reducible refine below_alloc ?_ _) | (with_reducible refine Below.drew ?_) | (with_reducible refine below_drewN ?_ _) | (with_reducible refine Below.setCell ?_ ?_ _) | go_size)
end Go.Proofs.YtkflggojiiebeaaGreat.Wid

namespace Go.Proofs.YtkflggojiiebeaaGreat.Lin
open Go Go.RowKit Lw Grd
set_option linter.unusedVariables false
set_option linter.unusedSimpArgs false
theorem nums_set2 (R : List Row) (K C : Nat) (n : Int) : nums (set2 R K C n) = (nums R).modify K (fun r => r.set C n) := by
  unfold nums set2
  apply List.ext_getElem?
  intro i
  rw [List.getElem?_map, List.getElem?_modify, List.getElem?_modify, List.getElem?_map]
  cases R[i]? <;> simp
  split <;> simp
theorem RF_set2 {b : Nat} {hdr : Value} {R : List Row} {K C : Nat} {n : Int} (k : Nat) : RF b hdr (set2 R K C n) k ↔ RF b hdr R k := by
  have h := set2_bl R K C n
  unfold RF
  have e : ∀ (S : List Row), (∃ r ∈ S, r.1 = k) ↔ k ∈ S.map (·.1) := fun S => by simp [List.mem_map]
  rw [e, e, h]
theorem modify_app {α : Type} (f : α → α) (r : α) (t : List α) : ∀ (a : List α), (a ++ r :: t).modify a.length f = a ++ f r :: t
  | [] => rfl
  | x :: a => by
    have ih := modify_app f r t a
    simp only [List.cons_append, List.length_cons, List.modify_succ_cons, ih]
theorem half_zero (L : List (List Int)) (cols : List Int) (d : Int) : half L cols d 0 = L := by simp [half, changed]
theorem half_full {L : List (List Int)} {cols : List Int} (d : Int) (h : cols.length = L.length) : half L cols d L.length = changed L cols d := by
  unfold half
  rw [List.take_of_length_le (Nat.le_refl _), List.take_of_length_le (by omega), List.drop_of_length_le (Nat.le_refl _), List.append_nil]
theorem half_next {L : List (List Int)} {cols : List Int} {d : Int} {k : Nat} {r : List Int} {v : Nat} {x : Int} (h : cols.length = L.length) (hr : L[k]? = some r) (hv : cols[k]? = some (v : Int)) (hx : r[v]? = some x) :
    (half L cols d k).modify k (fun r => r.set v (x + d)) = half L cols d (k + 1) := by
  obtain ⟨h1, e1⟩ := List.getElem?_eq_some_iff.1 hr
  obtain ⟨h2, e2⟩ := List.getElem?_eq_some_iff.1 hv
  have hl : (changed (L.take k) (cols.take k) d).length = k := by unfold changed; rw [List.length_zipWith, List.length_take, List.length_take]; omega
  unfold half
  rw [List.drop_eq_getElem_cons h1, e1]
  have hm := modify_app (fun r => r.set v (x + d)) r (L.drop (k + 1)) (changed (L.take k) (cols.take k) d)
  rw [hl] at hm
  rw [hm]
  have e : changed (L.take (k + 1)) (cols.take (k + 1)) d = changed (L.take k) (cols.take k) d ++ [r.set v (x + d)] := by
    unfold changed
    rw [List.take_succ_eq_append_getElem h1, List.take_succ_eq_append_getElem h2, List.zipWith_append (by simp; omega), e1, e2]
    simp [hx]
  rw [e, List.append_assoc]
  rfl
theorem half_get {L : List (List Int)} {cols : List Int} {d : Int} {k : Nat} {r : List Int} (h : cols.length = L.length) (hr : L[k]? = some r) : (half L cols d k)[k]? = some r := by
  obtain ⟨h1, e1⟩ := List.getElem?_eq_some_iff.1 hr
  have hl : (changed (L.take k) (cols.take k) d).length = k := by unfold changed; rw [List.length_zipWith, List.length_take, List.length_take]; omega
  unfold half
  rw [List.getElem?_append_right (by omega), hl, Nat.sub_self, List.drop_eq_getElem_cons h1, e1]
  rfl
theorem map_named_next (L : List (List Int)) (cols : List Int) (d : Int) (k : Nat) (r : List Int) (v x : Int) (hr : L[k]? = some r) (hv : cols[k]? = some v) (hx : r[v.toNat]?.getD 0 = x) : (named (L.take (k + 1)) (cols.take (k + 1))).map (· + d) = (named (L.take k) (cols.take k)).map (· + d) ++ [x + d] := by
  rw [named_next L cols k r v hr hv, List.map_append, hx]
  rfl
theorem chFits_cons (r : List Int) (L : List (List Int)) (c : Int) (cols : List Int) (d : Int) : chFits (r :: L) (c :: cols) d = (Wid.fit64 (r[c.toNat]?.getD 0 + d) && chFits L cols d) := by
  unfold chFits named
  rw [List.zipWith_cons_cons, List.all_cons]
theorem changed_rows {n : Nat} : ∀ {L : List (List Int)} {cols : List Int} {d : Int}, (∀ r ∈ L, r.length = n ∧ In64 r) → chFits L cols d = true → ∀ r ∈ changed L cols d, r.length = n ∧ In64 r
  | [], _, _, _, _ => fun r hr => by simp [changed] at hr
  | _ :: _, [], _, _, _ => fun r hr => by simp [changed] at hr
  | r0 :: L, c :: cols, d, h, hf => fun r hr => by
    rw [chFits_cons, Bool.and_eq_true] at hf
    unfold changed at hr
    rw [List.zipWith_cons_cons] at hr
    rcases List.mem_cons.1 hr with h1 | h1
    · subst h1
      have h2 := h r0 (by simp)
      have h3 := fit64_in hf.1
      exact ⟨by rw [List.length_set]; exact h2.1, in64_set h2.2 _ h3.1 h3.2⟩
    · exact changed_rows (fun r hr => h r (by simp [hr])) hf.2 r h1
theorem changed_dims {m n : Nat} {L : List (List Int)} {cols : List Int} {d : Int} (h : Dims m n L) (hl : cols.length = m) (hf : chFits L cols d = true) : Dims m n (changed L cols d) :=
  ⟨by unfold changed; rw [List.length_zipWith, h.len, hl]; omega, h.m8, h.n128, changed_rows h.rows hf⟩
theorem named_take : ∀ (L : List (List Int)) (cols : List Int) (k : Nat), named (L.take k) (cols.take k) = (named L cols).take k
  | [], _, k => by simp [named]
  | _ :: _, [], k => by cases k <;> simp [named]
  | r :: L, c :: cols, 0 => by simp [named]
  | r :: L, c :: cols, k + 1 => by
    have ih := named_take L cols k
    unfold named at ih ⊢
    simp only [List.take_succ_cons, List.zipWith_cons_cons, ih]
set_option maxRecDepth 100000 in
set_option maxHeartbeats 8000000 in
theorem rchange_any (q : Addr) (F : Nat → Prop) (m n : Nat) (L : List (List Int)) (A : Option Addr) (N cap : Nat) (cols : List Int) (d : Int) (w : World) (h : DG w q F m n L) (hc : Rd .i64 w A cols) (hap : ∀ a, A = some a → ¬ F a.block) (hl : cols.length = N) (hN : N ≤ 1000) (hz : In64 cols) (d0 : -9223372036854775808 ≤ d) (d1 : d ≤ 9223372036854775807) :
    Calls Tryz.prog 124 #[.pointer (some q), .slice A N cap, .int .i64 d] w fun e w' => e = .returned (.int .i64 (chCode m n L cols d)) ∧ ∃ G', DG w' q G' m n (chRes m n L cols d) ∧ Kept F w w' ∧ (∀ k, G' k → F k ∨ w.heap.size ≤ k) := by
  obtain ⟨i0, hi, hz0, hz1, hz2⟩ := info_parts i64_info
  have HH := Lib.hid h
  have hm8 := h.dims.m8
  have hn128 := h.dims.n128
  have HC := Lib.hid hc
  have HL := Lib.hid hl
  have HZ := Lib.hid hz
  have HAP := Lib.hid hap
  by_cases hme : Meets m n cols
  · have e1 : meetB m n cols = true := decide_eq_true hme
    have hNm : N = m := by rw [← hl]; exact hme.2.1
    subst hNm
    have HME := Lib.hid hme
    have HCD : Hid (chCode N n L cols d = if chFits L cols d = true then 0 else 4) := Lib.hid (if_pos hme)
    have HCR : Hid (chRes N n L cols d = if chFits L cols d = true then changed L cols d else L) := Lib.hid (by unfold chRes; by_cases hf : chFits L cols d = true <;> simp [hme, hf])
    obtain ⟨b, hdr, R, rfl, hg, rfl, hG, hd⟩ := h
    have hRm : R.length = N := by rw [← nums_len]; exact hd.len
    have HD := Lib.hid hd
    have HR := Lib.hid hRm
    have HGF := Lib.hid hG
    obtain ⟨Ah, caph, rfl, hcaph, hAh, hcell⟩ := hg.hd
    have hb := cell_of_row w b 0 _ _ _ hg.cell
    simp only [List.getElem?_toArray, List.getElem?_cons_zero] at hb
    rw [hRm] at hb
    have HBH := Lib.hid hb
    have HCE := Lib.hid hcell
    have HG := Lib.hid hg
    clear hc hz hcell hAh hg hG hcaph hme hd hl hb hap
    go_enter Tryz.func124, Tryz.ntmps124
    go_wp2_with (go_at_call 152; (with_reducible refine (rmeet_any _ F N n (nums R) A N cap cols _ (dg_up HH.out (by repeat' (first | (with_reducible first | exact Below.refl _ _ | assumption | refine below_over ?_ _ _ | refine Lw.below_alloc ?_ _ | refine Below.drew ?_ | refine below_drewN ?_ _ | refine Below.setCell ?_ ?_ _) | go_size))) (HC.out.up (by repeat' (first | (with_reducible first | exact Below.refl _ _ | assumption | refine below_over ?_ _ _ | refine Lw.below_alloc ?_ _ | refine Below.drew ?_ | refine below_drewN ?_ _ | refine Below.setCell ?_ ?_ _) | go_size))) HL.out hN HZ.out).mono ?_); rintro e w2 ⟨rfl, hb2⟩; have HBW : Hid (Below w.heap.size w w2) := Lib.hid (below_call (by repeat' (first | (with_reducible first | exact Below.refl _ _ | assumption | refine below_over ?_ _ _ | refine Lw.below_alloc ?_ _ | refine Below.drew ?_ | refine below_drewN ?_ _ | refine Below.setCell ?_ ?_ _) | go_size)) hb2 (Nat.le_refl _)); clear hb2)
    go_loopw [7, 8] (fun v i wr => ∃ (k : Nat) (A1 : Addr) (cp : Nat), k ≤ N ∧ i = .int .i64 k ∧ v = .slice (some A1) k cp ∧ wr.ownsRow w.heap.size 2 1 v k (((named ((nums R).take k) (cols.take k)).map (· + d)).map (Value.int .i64)) ∧ ((named ((nums R).take k) (cols.take k)).all (fun x => Wid.fit64 (x + d))) = true ∧ Below w.heap.size w wr) (fun _ i _ => N - (intOf i).toNat)
    case atStart => exact ⟨0, ⟨w2.heap.size, 0, none⟩, 0, Nat.zero_le _, rfl, rfl, by have h0 := own_empty w2 2 1 w.heap.size HBW.out.size; simpa [named] using h0, by simp [named], Lw.below_alloc HBW.out _⟩
    case round =>
      obtain ⟨k, A1, cp, hk, rfl, rfl, hown, hfit, hbel⟩ := hrel
      have HOW := Lib.hid hown
      have HFI := Lib.hid hfit
      have HBL := Lib.hid hbel
      have hbs := hbel.size
      by_cases hlt : k < N
      · obtain ⟨v, hv⟩ : ∃ v, cols[k]? = some v := ⟨_, List.getElem?_eq_getElem (by have := HL.out; omega)⟩
        obtain ⟨r, hr⟩ : ∃ r, R[k]? = some r := ⟨_, List.getElem?_eq_getElem (by have := HR.out; omega)⟩
        obtain ⟨ad, rfl, hcv⟩ := HC.out k v hv
        obtain ⟨ah, rfl, hcr⟩ := HCE.out k r hr
        have hrl : r.2.2.length = n := (HD.out.rows _ (nums_mem (List.mem_of_getElem? hr))).1
        have hrz := (HD.out.rows _ (nums_mem (List.mem_of_getElem? hr))).2
        have hvb := HME.out.2.2 v (List.mem_of_getElem? hv)
        obtain ⟨vn, rfl⟩ : ∃ vn : Nat, v = vn := ⟨v.toNat, by omega⟩
        obtain ⟨x, hx⟩ : ∃ x, r.2.2[vn]? = some x := ⟨_, List.getElem?_eq_getElem (by omega)⟩
        have hcx := HG.out.numAt (List.mem_of_getElem? hr) hx
        have hxb := hrz.at hx
        have hLk : (nums R)[k]? = some r.2.2 := by unfold nums; rw [List.getElem?_map, hr]; rfl
        have hget : r.2.2[(vn : Int).toNat]?.getD 0 = x := by rw [show (vn : Int).toNat = vn from rfl, hx]; rfl
        have HNX := Lib.hid (map_named_next (nums R) cols d k r.2.2 vn x hLk hv hget)
        have HNX2 := Lib.hid (named_next (nums R) cols k r.2.2 vn hLk hv)
        rw [hget] at HNX2
        have HNO : Hid (Wid.fit64 (x + d) = false → chFits (nums R) cols d = false) := Lib.hid (fun hf => by
          refine Bool.eq_false_iff.2 fun hall => ?_
          have hmem : x ∈ named (nums R) cols := by
            have h2 : x ∈ named ((nums R).take (k + 1)) (cols.take (k + 1)) := by rw [HNX2.out]; simp
            have e3 := named_take (nums R) cols (k + 1)
            rw [e3] at h2
            exact List.mem_of_mem_take h2
          have := List.all_eq_true.1 hall x hmem
          rw [hf] at this
          cases this)
        obtain ⟨gr, gc, zs⟩ := r
        unfold rowHd at hcr
        simp only at hcr hrl hcx
        rw [hrl] at hcr
        obtain ⟨gad, hgad⟩ : ∃ gad : Addr, (⟨gr, 0, none⟩ : Addr) = gad := ⟨_, rfl⟩
        rw [hgad] at hcr hcx
        clear hv hr hx hrl hrz hget hgad hLk hown hbel hfit
        go_wp2
        go_region_held3 (fun w' => w'.cell? ⟨b, 0, none⟩ = some (.slice (some ah) N caph) ∧ w'.cell? (ah.add k) = some (.slice (some gad) n gc) ∧ w'.cell? (ad.add k) = some (.int .i64 vn) ∧ w'.cell? (gad.add vn) = some (.int .i64 x)) (refine ⟨cell_up HBH.out ?_, cell_up hcr ?_, cell_up hcv ?_, cell_up hcx ?_⟩ <;> (repeat' (first | (with_reducible exact Below.refl _ _) | (with_reducible assumption) | (with_reducible exact HBL.out) | (with_reducible refine below_over ?_ _ _) | (with_reducible refine Lw.below_alloc ?_ _) | (with_reducible refine Below.drew ?_) | (with_reducible refine below_drewN ?_ _) | (with_reducible refine Below.setCell ?_ ?_ _) | go_size))) (first
          | (go_at_call 121; (with_reducible refine (Wid.radd_any x d _ (by omega) (by omega) d0 d1).mono ?_); rintro e w5 ⟨rfl, hb⟩; have HB5 : Hid (Below wr.heap.size wr w5) := Lib.hid (below_call (by repeat' (first | (with_reducible first | exact Below.refl _ _ | assumption | refine below_over ?_ _ _ | refine Lw.below_alloc ?_ _ | refine Below.drew ?_ | refine below_drewN ?_ _ | refine Below.setCell ?_ ?_ _) | go_size)) hb (Nat.le_refl _)); have hb5 : Below w.heap.size w w5 := below_call HBL.out HB5.out (Nat.le_refl _); clear hb))
        cases hf : Wid.fit64 (x + d)
        · have HNF := Lib.hid (HNO.out hf)
          go_wp2
          go_ret
          exact ⟨ret_i (by rw [HCD.out, HNF.out]; rfl), F, by rw [HCR.out, HNF.out]; exact dg_up HH.out hb5, Kept.of_below hb5, fun k h => .inl h⟩
        · have e64 : Wid.f64 (x + d) = x + d := by unfold Wid.f64; rw [if_pos hf]
          have HF5 := Lib.hid hf
          rw [e64]
          clear hf
          go_wp2_with (at_builtin; (refine app_one .i64 rfl _ _ 54 rfl w.heap.size 2 i0 8 i64s_u hi hz0 hz1 hz2 (.slice (some A1) k cp) k ((named ((nums R).take k) (cols.take k)).map (· + d)) rfl ((own_up HOW.out HB5.out).alloc _) (x + d) w5.heap.size rfl (cell_one_new _ _ _) (by unfold maxLen; omega) (by omega) (by have := hb5.size; simp; omega) ?_); intro v1 w6 own1 grow1 oth1; obtain ⟨gg, cc, rfl, hgg, hgl⟩ := own1.form (by omega))
          go_roundw
          case rel => exact ⟨k + 1, ⟨gg, 0, none⟩, cc, by omega, by go_num, rfl, by rw [HNX.out]; exact own1, by rw [HNX2.out, List.all_append, HFI.out]; simp [HF5.out], app_below3 (Lw.below_alloc hb5 _) grow1 (fun q hq => own_ge HOW.out q hq)⟩
          case measure => simp [intOf]; omega
      · have e : k = N := by omega
        subst e
        have hf1 : (nums R).take k = nums R := List.take_of_length_le (by rw [HD.out.len]; exact Nat.le_refl _)
        have hf2 : cols.take k = cols := List.take_of_length_le (by rw [HL.out]; exact Nat.le_refl _)
        rw [hf1, hf2] at hown hfit
        have HFT : Hid (chFits (nums R) cols d = true) := Lib.hid hfit
        obtain ⟨A3, cp3, hv3, hrd3, h2, h3, h4⟩ := own_rd hown
        injection hv3 with hv1 hv2 hv3
        subst hv1 hv3
        have hge := own_ge HOW.out A1.block rfl
        have HRD := Lib.hid hrd3
        have HLT : Hid (∀ x, RF b (.slice Ah R.length caph) R x → x < w.heap.size) := Lib.hid (fun x hx => HG.out.blt hx)
        have HW3 := Lib.hid (HG.out.keep (Kept.of_below (F := fun _ => False) hbel) (fun _ _ h => h))
        have HC3 := Lib.hid (HC.out.up hbel)
        clear hf1 hf2 hown hfit hrd3 h4 hbel
        go_wp2
        obtain ⟨w3, rfl⟩ : ∃ w3, w3 = wr := ⟨_, rfl⟩
        go_loopw [11] (fun i wr => ∃ (j : Nat) (R2 : List Row), j ≤ k ∧ i = .int .i64 j ∧ RG wr b (.slice Ah R.length caph) R2 ∧ R2.length = R.length ∧ (∀ x, RF b (.slice Ah R.length caph) R2 x ↔ RF b (.slice Ah R.length caph) R x) ∧ nums R2 = half (nums R) cols d j ∧ Kept (RF b (.slice Ah R.length caph) R) w3 wr) (fun i _ => k - (intOf i).toNat)
        case atStart => exact ⟨0, R, Nat.zero_le _, rfl, HW3.out, rfl, fun x => Iff.rfl, (half_zero _ _ _).symm, Kept.refl _ _⟩
        case round =>
          obtain ⟨j, R2, hj, rfl, hg2, hlen2, hrf2, hn2, hk2⟩ := hrel
          have HG2 := Lib.hid hg2
          have HRF := Lib.hid hrf2
          have HN2 := Lib.hid hn2
          have HK2 := Lib.hid hk2
          have HLE2 := Lib.hid hlen2
          by_cases hjl : j < k
          · obtain ⟨v, hv⟩ : ∃ v, cols[j]? = some v := ⟨_, List.getElem?_eq_getElem (by have := HL.out; omega)⟩
            obtain ⟨r, hr⟩ : ∃ r, R2[j]? = some r := ⟨_, List.getElem?_eq_getElem (by have := HR.out; omega)⟩
            obtain ⟨z, hzo⟩ : ∃ z, ((named (nums R) cols).map (· + d))[j]? = some z := ⟨_, List.getElem?_eq_getElem (by rw [List.length_map, named_len (by rw [HL.out, HD.out.len]), HD.out.len]; omega)⟩
            have hjR : j < (nums R).length := by rw [HD.out.len]; exact hjl
            obtain ⟨r0, hr0⟩ : ∃ r0, (nums R)[j]? = some r0 := ⟨_, List.getElem?_eq_getElem hjR⟩
            have hcl : cols.length = (nums R).length := by rw [HL.out, HD.out.len]
            have hr2 : r.2.2 = r0 := by
              have e3 := half_get (d := d) hcl hr0
              rw [← hn2] at e3
              unfold nums at e3
              rw [List.getElem?_map, hr] at e3
              simpa using e3
            have hrl : r.2.2.length = n := by rw [hr2]; exact (HD.out.rows _ (List.mem_of_getElem? hr0)).1
            have hvb := HME.out.2.2 v (List.mem_of_getElem? hv)
            obtain ⟨vn, rfl⟩ : ∃ vn : Nat, v = vn := ⟨v.toNat, by omega⟩
            obtain ⟨x, hx⟩ : ∃ x, r.2.2[vn]? = some x := ⟨_, List.getElem?_eq_getElem (by omega)⟩
            have hz2 : z = x + d := by
              have e4 : (named (nums R) cols)[j]? = some x := by
                unfold named
                rw [List.getElem?_zipWith, hr0, hv]
                simp [← hr2, hx]
              rw [List.getElem?_map, e4] at hzo
              simpa using hzo.symm
            have hrm := List.mem_of_getElem? hr
            have hcx := hg2.numAt hrm hx
            have hfz := (hg2.rows _ hrm).frozenAt (g := r.1) (cap := r.2.1) vn
            obtain ⟨A4, cap4, he4, _, _, hcell4⟩ := hg2.hd
            injection he4 with he5 he6 he7
            subst he5 he7
            obtain ⟨ah, rfl, hcr⟩ := hcell4 j r hr
            have hb2 := cell_of_row _ b 0 _ _ _ hg2.cell
            simp only [List.getElem?_toArray, List.getElem?_cons_zero] at hb2
            rw [HR.out] at hb2
            have hkc : Rd .i64 wr A cols := HC3.out.keep hk2 (fun a ha hF => HAP.out a ha ((HGF.out _).2 hF))
            obtain ⟨ad, rfl, hcv⟩ := hkc j vn hv
            have hko : Rd .i64 wr (some A1) ((named (nums R) cols).map (· + d)) := HRD.out.keep hk2 (fun a ha hF => by injection ha with ha; subst ha; have := HLT.out _ hF; omega)
            have hcz := hko.at hzo
            have hxb := (HD.out.rows _ (List.mem_of_getElem? hr0)).2
            have hadd : (⟨r.1, 0, none⟩ : Addr).add vn = ⟨r.1, vn, none⟩ := by rw [Ord.add_at, Nat.zero_add]
            have hput := hg2.put hr vn z
            have hkp : Kept (RF b (.slice (some ah) R.length caph) R) w3 (wr.setCell ⟨r.1, vn, none⟩ (.int .i64 z)) := hk2.set (.inl ((hrf2 _).1 (.inr (.inr ⟨r, hrm, rfl⟩)))) _ _
            rw [← hadd] at hput hkp hfz
            have hnn : nums (set2 R2 j vn z) = half (nums R) cols d (j + 1) := by
              rw [nums_set2, hn2, hz2]
              exact half_next hcl hr0 hv (by rw [← hr2]; exact hx)
            have hl2 : (set2 R2 j vn z).length = R.length := by rw [set2_len]; exact hlen2
            have HNN := Lib.hid hnn
            have HLL := Lib.hid hl2
            obtain ⟨gr, gc, zs⟩ := r
            unfold rowHd at hcr
            simp only at hcr hrl hcx hput hkp hfz
            rw [hrl] at hcr
            obtain ⟨gad, hgad⟩ : ∃ gad : Addr, (⟨gr, 0, none⟩ : Addr) = gad := ⟨_, rfl⟩
            rw [hgad] at hcr hcx hput hkp hfz
            have HPU := Lib.hid hput
            have HKP := Lib.hid hkp
            clear hv hr hx hzo hr0 hr2 hrl hrm hg2 hrf2 hn2 hk2 hlen2 hkc hko hput hkp hnn hl2 hadd hcl hjR hgad hcell4 hz2 hxb
            go_wp2
            go_region
            go_wp2
            go_roundw
            case rel => exact ⟨j + 1, _, by omega, by go_num, HPU.out.keep (Kept.of_below (F := fun _ => False) (Below.drew (Below.refl _ _))) (fun _ _ h => h), HLL.out, fun x => (RF_set2 x).trans (HRF.out x), HNN.out, HKP.out.drew⟩
            case measure => simp [intOf]; omega
          · have e : j = k := by omega
            subst e
            have hfull : nums R2 = changed (nums R) cols d := by
              rw [hn2]
              have h5 := half_full (L := nums R) (cols := cols) d (by rw [HL.out, HD.out.len])
              rw [HD.out.len] at h5
              exact h5
            have HFU := Lib.hid hfull
            clear hfull hg2 hrf2 hn2 hk2 hlen2
            go_wp2
            go_ret
            refine ⟨ret_i (by rw [HCD.out, HFT.out]; rfl), F, ?_, (Kept.of_below (F := F) HBL.out).trans HK2.out (fun x hx h => (HGF.out x).2 h), fun x h => .inl h⟩
            rw [HCR.out, HFT.out]
            refine ⟨b, _, R2, rfl, HG2.out, HFU.out, fun x => (HGF.out x).trans (HRF.out x).symm, ?_⟩
            exact changed_dims HD.out HL.out HFT.out
  · have e1 : meetB m n cols = false := decide_eq_false hme
    have HCD : Hid (chCode m n L cols d = 1) := Lib.hid (if_neg hme)
    have HRE : Hid (chRes m n L cols d = L) := Lib.hid (if_neg (fun h => hme h.1))
    clear h hc hl hz hme hap
    go_enter Tryz.func124, Tryz.ntmps124
    go_wp2_with (go_at_call 152; (with_reducible refine (rmeet_any q F m n L A N cap cols _ (dg_up HH.out (by repeat' (first | (with_reducible first | exact Below.refl _ _ | assumption | refine below_over ?_ _ _ | refine Lw.below_alloc ?_ _ | refine Below.drew ?_ | refine below_drewN ?_ _ | refine Below.setCell ?_ ?_ _) | go_size))) (HC.out.up (by repeat' (first | (with_reducible first | exact Below.refl _ _ | assumption | refine below_over ?_ _ _ | refine Lw.below_alloc ?_ _ | refine Below.drew ?_ | refine below_drewN ?_ _ | refine Below.setCell ?_ ?_ _) | go_size))) HL.out hN HZ.out).mono ?_); rintro e w2 ⟨rfl, hb2⟩; have HBW : Hid (Below w.heap.size w w2) := Lib.hid (below_call (by repeat' (first | (with_reducible first | exact Below.refl _ _ | assumption | refine below_over ?_ _ _ | refine Lw.below_alloc ?_ _ | refine Below.drew ?_ | refine below_drewN ?_ _ | refine Below.setCell ?_ ?_ _) | go_size)) hb2 (Nat.le_refl _)); clear hb2)
    all_goals go_ret
    all_goals exact ⟨ret_i HCD.out.symm, F, by rw [HRE.out]; exact dg_up HH.out HBW.out, Kept.of_below HBW.out, fun k h => .inl h⟩
end Go.Proofs.YtkflggojiiebeaaGreat.Lin

namespace Go.Proofs.YtkflggojiiebeaaGreat.Con
open Go Go.RowKit Lw Grd Lin
set_option linter.unusedVariables false
theorem upto2_mod {α : Type} {X Y : List α} {n k : Nat} {x : α} (f : α → α) (hX : X.length = n) (hY : Y.length = n) (hx : X[k]? = some x) (hy : Y[k]? = some (f x)) : (upto2 X Y k).modify k f = upto2 X Y (k + 1) := by
  have hk : k < n := by rw [← hX]; exact (List.getElem?_eq_some_iff.1 hx).1
  rw [← upto2_set hX hY hy]
  apply List.ext_getElem?
  intro i
  rw [List.getElem?_modify, List.getElem?_set, upto2_len hX hY (by omega)]
  by_cases e : k = i
  · subst e
    rw [upto2_get hX hY hk, hx, if_pos rfl, if_pos hk]
    simp
  · rw [if_neg e]
    simp [e]
theorem raised_dims {m n : Nat} {L : List (List Int)} {cols : List Int} {x : Int} (hd : Dims m n L) (h : Meets m n cols) (x0 : -9223372036854775808 ≤ x) (x1 : x ≤ 9223372036854775807) : Dims m n (raised L cols x) := by
  have hl : cols.length = L.length := by rw [hd.len]; exact h.2.1
  refine ⟨by rw [raised_len x hl, hd.len], hd.m8, hd.n128, fun r hr => ?_⟩
  obtain ⟨k, hk, e⟩ := List.mem_iff_getElem.1 hr
  rw [raised_len x hl] at hk
  have h2 := raised_at hd h x (k := k) (List.getElem?_eq_getElem (by omega))
  rw [List.getElem?_eq_getElem hk, List.getElem?_eq_getElem (by rw [raised_len x hl]; exact hk), e] at h2
  simp only [Option.map_some] at h2
  injection h2 with h2
  have h3 := hd.rows _ (List.getElem_mem hk)
  have h4 := at2_in hd k (cols[k]'(by omega))
  rw [h2]
  exact ⟨by rw [List.length_set]; exact h3.1, in64_set h3.2 _ (by omega) (by omega)⟩
end Go.Proofs.YtkflggojiiebeaaGreat.Con

namespace Go.Proofs.YtkflggojiiebeaaGreat.Con
open Go Go.RowKit Lw Grd Lin
set_option linter.unusedVariables false
set_option linter.unusedSimpArgs false
theorem rlea_no (q : Addr) (F : Nat → Prop) (m n : Nat) (L : List (List Int)) (A : Option Addr) (N cap : Nat) (cols : List Int) (w : World) (h : DG w q F m n L) (hc : Rd .i64 w A cols) (hl : cols.length = N) (hN : N ≤ 1000) (hz : In64 cols) (hm : ¬ Meets m n cols) :
    Calls Tryz.prog 151 #[.pointer (some q), .slice A N cap] w fun e w' => e = .returned (.tuple #[.int .i64 0, .int .i64 1]) ∧ Below w.heap.size w w' := by
  refine (rleast_any q F m n L A N cap cols w h hc hl hN hz).mono fun e w' ⟨he, hb⟩ => ?_
  have e1 : readOf m n L cols = [] := if_neg hm
  have e2 : rdCode m n cols = 1 := if_neg hm
  rw [e1, e2, (Ord.kv_no (l := []) (k := _) (by simp)).1] at he
  exact ⟨he, hb⟩
set_option maxRecDepth 100000 in
set_option maxHeartbeats 8000000 in
theorem rraise_any (q : Addr) (F : Nat → Prop) (m n : Nat) (L : List (List Int)) (A : Option Addr) (N cap : Nat) (cols : List Int) (d : Int) (w : World) (h : DG w q F m n L) (hc : Rd .i64 w A cols) (hap : ∀ a, A = some a → ¬ F a.block) (hl : cols.length = N) (hN : N ≤ 1000) (hz : In64 cols) (d0 : -9223372036854775808 ≤ d) (d1 : d ≤ 9223372036854775807) :
    Calls Tryz.prog 123 #[.pointer (some q), .slice A N cap, .int .i64 d] w fun e w' => e = .returned (.int .i64 (rsCode m n L cols d)) ∧ ∃ G', DG w' q G' m n (rsRes m n L cols d) ∧ Kept F w w' ∧ (∀ k, G' k → F k ∨ w.heap.size ≤ k) := by
  have HH := Lib.hid h
  have hm8 := h.dims.m8
  have hn128 := h.dims.n128
  by_cases hme : Meets m n cols
  · have C := Lib.hid (rlea_any q F m n L A N cap cols w h hc hl hN hz hme)
    have hlb := lea_in (cols := cols) h.dims
    obtain ⟨y, hy⟩ : ∃ y, lea L cols = y := ⟨_, rfl⟩
    have HY := Lib.hid hy
    rw [hy] at C hlb
    clear hy
    by_cases hd0 : d < 0
    · have HO := Lib.hid (rs_neg (L := L) hme hd0)
      clear h hc hl hz hme hap
      go_enter Tryz.func123, Tryz.ntmps123
      go_wp2_with (go_at_call 151; (with_reducible refine C.out.mono ?_); rintro e w2 ⟨rfl, hb2⟩; have HB := Lib.hid hb2; clear hb2)
      go_ret
      exact ⟨ret_i HO.out.1.symm, F, HO.out.2.symm ▸ dg_up HH.out HB.out, Kept.of_below HB.out, fun k h => .inl h⟩
    · cases hf : Wid.fit64 (y + d) with
      | false =>
        have HO := Lib.hid (rs_over (L := L) (d := d) hme (by omega) (by rw [HY.out]; exact hf))
        clear h hc hl hz hme hap
        go_enter Tryz.func123, Tryz.ntmps123
        go_wp2_with (first
          | (go_at_call 121; (with_reducible refine (Wid.radd_any y d _ hlb.1 hlb.2 d0 d1).mono ?_); rintro e w3 ⟨rfl, hb3⟩; rw [hf]; have HB3 := Lib.hid hb3; clear hb3)
          | (go_at_call 151; (with_reducible refine C.out.mono ?_); rintro e w2 ⟨rfl, hb2⟩; have HB := Lib.hid hb2; clear hb2))
        go_ret
        have hbb := below_call HB.out HB3.out (Nat.le_refl _)
        exact ⟨ret_i HO.out.1.symm, F, HO.out.2.symm ▸ dg_up HH.out hbb, Kept.of_below hbb, fun k h => .inl h⟩
      | true =>
        have HO := Lib.hid (rs_yes (L := L) (d := d) hme (by omega) (by rw [HY.out]; exact hf))
        rw [HY.out] at HO
        have hfb := of_decide_eq_true hf
        have e64 : Wid.f64 (y + d) = y + d := if_pos hf
        have HE64 := Lib.hid e64
        have HF := Lib.hid hf
        obtain ⟨x, hx⟩ : ∃ x, y + d = x := ⟨_, rfl⟩
        have HX := Lib.hid hx
        rw [hx] at HO hfb
        have hNm : N = m := by rw [← hl]; exact hme.2.1
        subst hNm
        have HC := Lib.hid hc
        have HL := Lib.hid hl
        have HZ := Lib.hid hz
        have HAP := Lib.hid hap
        have HME := Lib.hid hme
        obtain ⟨b, hdr, R, rfl, hg, rfl, hG, hd⟩ := h
        have hRm : R.length = N := by rw [← nums_len]; exact hd.len
        have HD := Lib.hid hd
        have HR := Lib.hid hRm
        have HGF := Lib.hid hG
        have HCL : Hid (cols.length = (nums R).length) := Lib.hid (by rw [hl, hd.len])
        have HYL : Hid ((raised (nums R) cols x).length = N) := Lib.hid (by rw [raised_len x HCL.out, hd.len])
        have HG := Lib.hid hg
        have hAs : ∃ a, A = some a := hc.some_of (by have := hme.1; have := hme.2.1; omega)
        obtain ⟨a, rfl⟩ := hAs
        clear hc hz hg hG hme hd hl hap e64 hx hf hRm
        go_enter Tryz.func123, Tryz.ntmps123
        go_wp2_with (first
          | (go_at_call 121; (with_reducible refine (Wid.radd_any y d _ hlb.1 hlb.2 d0 d1).mono ?_); rintro e w3 ⟨rfl, hb3⟩; rw [HF.out, HE64.out, HX.out]; have HB3 := Lib.hid hb3; clear hb3)
          | (go_at_call 151; (with_reducible refine C.out.mono ?_); rintro e w2 ⟨rfl, hb2⟩; have HB := Lib.hid hb2; clear hb2))
        have HBB := Lib.hid (below_call HB.out HB3.out (Nat.le_refl _))
        have HW3 := Lib.hid (HG.out.keep (Kept.of_below (F := fun _ => False) HBB.out) (fun _ _ h => h))
        have HC3 := Lib.hid (HC.out.up HBB.out)
        go_loopw [11] (fun i wr => ∃ (j : Nat) (R2 : List Row), j ≤ N ∧ i = .int .i64 j ∧ RG wr b hdr R2 ∧ R2.length = R.length ∧ (∀ k, RF b hdr R2 k ↔ RF b hdr R k) ∧ nums R2 = upto2 (nums R) (raised (nums R) cols x) j ∧ Kept (RF b hdr R) w3 wr) (fun i _ => N - (intOf i).toNat)
        case atStart => exact ⟨0, R, Nat.zero_le _, rfl, HW3.out, rfl, fun x => Iff.rfl, (upto2_start _ _).symm, Kept.refl _ _⟩
        case round =>
          obtain ⟨j, R2, hj, rfl, hg2, hlen2, hrf2, hn2, hk2⟩ := hrel
          have HG2 := Lib.hid hg2
          have HRF := Lib.hid hrf2
          have HN2 := Lib.hid hn2
          have HK2 := Lib.hid hk2
          have HLE2 := Lib.hid hlen2
          by_cases hjl : j < N
          · obtain ⟨v, hv⟩ : ∃ v, cols[j]? = some v := ⟨_, List.getElem?_eq_getElem (by have := HL.out; omega)⟩
            obtain ⟨r, hr⟩ : ∃ r, R2[j]? = some r := ⟨_, List.getElem?_eq_getElem (by have := HR.out; omega)⟩
            have hjR : j < (nums R).length := by rw [HD.out.len]; exact hjl
            obtain ⟨r0, hr0⟩ : ∃ r0, (nums R)[j]? = some r0 := ⟨_, List.getElem?_eq_getElem hjR⟩
            have hr2 : r.2.2 = r0 := by
              have e3 := upto2_get (X := nums R) (Y := raised (nums R) cols x) HD.out.len HYL.out hjl
              rw [← hn2, hr0] at e3
              unfold nums at e3
              rw [List.getElem?_map, hr] at e3
              simpa using e3
            have hrl : r.2.2.length = n := by rw [hr2]; exact (HD.out.rows _ (List.mem_of_getElem? hr0)).1
            have hvb := HME.out.2.2 v (List.mem_of_getElem? hv)
            have hya := raised_at HD.out HME.out x hv
            obtain ⟨vn, rfl⟩ : ∃ vn : Nat, v = vn := ⟨v.toNat, by omega⟩
            obtain ⟨u, hu⟩ : ∃ u, r.2.2[vn]? = some u := ⟨_, List.getElem?_eq_getElem (by omega)⟩
            have hau : at2 (nums R) j vn = u := by
              unfold at2
              rw [if_neg (by omega), Int.toNat_natCast, hr0, ← hr2]
              simp [hu]
            rw [hau, hr0] at hya
            simp only [Option.map_some, Int.toNat_natCast] at hya
            have hrm := List.mem_of_getElem? hr
            have hcu := hg2.numAt hrm hu
            have hfz := (hg2.rows _ hrm).frozenAt (g := r.1) (cap := r.2.1) vn
            obtain ⟨A4, cap4, he4, _, _, hcell4⟩ := hg2.hd
            obtain ⟨ah, rfl, hcr⟩ := hcell4 j r hr
            have hb2 := cell_of_row _ b 0 _ _ _ hg2.cell
            simp only [List.getElem?_toArray, List.getElem?_cons_zero] at hb2
            rw [he4, hlen2, HR.out] at hb2
            have hkc : Rd .i64 wr (some a) cols := HC3.out.keep hk2 (fun a ha hF => HAP.out a ha ((HGF.out _).2 hF))
            have hcv := hkc.at hv
            have hub := (HD.out.rows _ (List.mem_of_getElem? hr0)).2.at (hr2 ▸ hu)
            have hadd : (⟨r.1, 0, none⟩ : Addr).add vn = ⟨r.1, vn, none⟩ := by rw [Ord.add_at, Nat.zero_add]
            have hput := hg2.put hr vn (max u x)
            have hkp : Kept (RF b hdr R) w3 (wr.setCell ⟨r.1, vn, none⟩ (.int .i64 (max u x))) := hk2.set (.inl ((hrf2 _).1 (.inr (.inr ⟨r, hrm, rfl⟩)))) _ _
            rw [← hadd] at hput hkp hfz
            have hnn : nums (set2 R2 j vn (max u x)) = upto2 (nums R) (raised (nums R) cols x) (j + 1) := by
              rw [nums_set2, hn2]
              exact upto2_mod (fun r => r.set vn (max u x)) HD.out.len HYL.out hr0 hya
            have hl2 : (set2 R2 j vn (max u x)).length = R.length := by rw [set2_len]; exact hlen2
            have HNN := Lib.hid hnn
            have HLL := Lib.hid hl2
            obtain ⟨gr, gc, zs⟩ := r
            unfold rowHd at hcr
            simp only at hcr hrl hcu hput hkp hfz
            rw [hrl] at hcr
            obtain ⟨gad, hgad⟩ : ∃ gad : Addr, (⟨gr, 0, none⟩ : Addr) = gad := ⟨_, rfl⟩
            rw [hgad] at hcr hcu hput hkp hfz
            clear hv hr hu hr0 hr2 hrl hrm hg2 hrf2 hn2 hk2 hlen2 hkc hnn hl2 hadd hjR hgad hcell4 hya hau he4
            rcases (show u < x ∨ x ≤ u by omega) with hux | hux
            · have hmax : max u x = x := by omega
              rw [hmax] at hput hkp HNN HLL
              have HPU := Lib.hid hput
              have HKP := Lib.hid hkp
              clear hput hkp hmax
              go_wp2
              go_region
              go_wp2
              go_roundw
              case rel => exact ⟨j + 1, _, by omega, by go_num, HPU.out.keep (Kept.of_below (F := fun _ => False) (Below.drew (Below.refl _ _))) (fun _ _ h => h), HLL.out, fun x => (RF_set2 x).trans (HRF.out x), HNN.out, HKP.out.drew⟩
              case measure => simp [intOf]; omega
            · have hmax : max u x = u := by omega
              rw [hmax] at hput hkp HNN HLL
              have HPU := Lib.hid hput
              have HKP := Lib.hid hkp
              clear hput hkp hmax
              go_wp2
              go_region
              go_wp2
              go_roundw
              case rel => exact ⟨j + 1, _, by omega, by go_num, HPU.out.keep (Kept.of_below (F := fun _ => False) (Below.drew (Below.refl _ _))) (fun _ _ h => h), HLL.out, fun x => (RF_set2 x).trans (HRF.out x), HNN.out, HKP.out.drew⟩
              case measure => simp [intOf]; omega
          · have e : j = N := by omega
            subst e
            have hfull : nums R2 = raised (nums R) cols x := by
              rw [hn2]
              exact upto2_end HD.out.len HYL.out
            have HFU := Lib.hid hfull
            clear hfull hg2 hrf2 hn2 hk2 hlen2
            go_wp2
            go_ret
            refine ⟨ret_i HO.out.1.symm, F, ?_, (Kept.of_below (F := F) HBB.out).trans HK2.out (fun x hx h => (HGF.out x).2 h), fun x h => .inl h⟩
            rw [HO.out.2]
            exact ⟨b, _, R2, rfl, HG2.out, HFU.out, fun x => (HGF.out x).trans (HRF.out x).symm, raised_dims HD.out HME.out (by omega) (by omega)⟩
  · have C := Lib.hid (rlea_no q F m n L A N cap cols w h hc hl hN hz hme)
    have HO := Lib.hid (rs_no (L := L) (d := d) hme)
    clear h hc hl hz hme hap
    go_enter Tryz.func123, Tryz.ntmps123
    go_wp2_with (go_at_call 151; (with_reducible refine C.out.mono ?_); rintro e w2 ⟨rfl, hb2⟩; have HB := Lib.hid hb2; clear hb2)
    go_ret
    exact ⟨ret_i HO.out.1.symm, F, HO.out.2.symm ▸ dg_up HH.out HB.out, Kept.of_below HB.out, fun k h => .inl h⟩
end Go.Proofs.YtkflggojiiebeaaGreat.Con

namespace Go.Proofs.YtkflggojiiebeaaGreat.Exa
open Go Go.RowKit Lw Grd Lin Con Shp Sk
set_option linter.unusedVariables false
set_option linter.unusedSimpArgs false
set_option maxRecDepth 100000 in
set_option maxHeartbeats 4000000 in
theorem aupd_no (p : Addr) (F : Nat → Prop) (c : Cfg) (l : Int) (L : List Int) (k d : Int) (w : World) (h : DA w p F c l L) (k0 : 0 ≤ k) (k1 : k ≤ 18446744073709551615) (d0 : -9223372036854775808 ≤ d) (d1 : d ≤ 9223372036854775807) (hk : (L.length : Int) ≤ k) :
    Calls Tryz.prog 93 #[.pointer (some p), .int .u64 k, .int .i64 d] w fun e w' => e = .returned (.int .i64 2) ∧ Below w.heap.size w w' := by
  obtain ⟨h1, h2, h3, b, g, cap, rfl, hb, hm, h4, h5, h6, rfl⟩ := h
  have hbl := size_of_heap hb
  have hgl := hm.lt
  have c0 := grd_cell hb 0 (v := .int .i64 c.bt) rfl
  have c1 := grd_cell hb 1 (v := .int .i64 c.rw) rfl
  have c2 := grd_cell hb 2 (v := .int .i64 c.wd) rfl
  have c3 := grd_cell hb 3 (v := .int .i64 c.md) rfl
  have c4 := grd_cell hb 4 (v := .int .u64 c.sd) rfl
  have c5 := grd_cell hb 5 (v := .int .i64 l) rfl
  have c6 := grd_cell hb 6 (v := .slice (some ⟨g, 0, none⟩) L.length cap) rfl
  have u1 : IntKind.u64.wrap (L.length : Int) = (L.length : Int) := by rw [IntKind.wrap_u64]; omega
  clear hb hm h3
  go_enter Tryz.func93, Tryz.ntmps93
  go_wp2
  all_goals go_ret
  all_goals exact ⟨rfl, (by repeat' (first | (with_reducible first | exact Below.refl _ _ | assumption | refine below_over ?_ _ _ | refine Lw.below_alloc ?_ _ | refine Below.drew ?_ | refine below_drewN ?_ _ | refine Below.setCell ?_ ?_ _) | go_size))⟩
set_option maxRecDepth 100000 in
set_option maxHeartbeats 4000000 in
theorem aupd_mode (p : Addr) (F : Nat → Prop) (c : Cfg) (l : Int) (L : List Int) (k d : Int) (w : World) (h : DA w p F c l L) (k0 : 0 ≤ k) (k1 : k ≤ 18446744073709551615) (d0 : -9223372036854775808 ≤ d) (d1 : d ≤ 9223372036854775807) (hk : k < (L.length : Int)) (hm2 : c.md = 2 ∧ d < 0) :
    Calls Tryz.prog 93 #[.pointer (some p), .int .u64 k, .int .i64 d] w fun e w' => e = .returned (.int .i64 3) ∧ Below w.heap.size w w' := by
  obtain ⟨h1, h2, h3, b, g, cap, rfl, hb, hm, h4, h5, h6, rfl⟩ := h
  have hbl := size_of_heap hb
  have hgl := hm.lt
  have c0 := grd_cell hb 0 (v := .int .i64 c.bt) rfl
  have c1 := grd_cell hb 1 (v := .int .i64 c.rw) rfl
  have c2 := grd_cell hb 2 (v := .int .i64 c.wd) rfl
  have c3 := grd_cell hb 3 (v := .int .i64 c.md) rfl
  have c4 := grd_cell hb 4 (v := .int .u64 c.sd) rfl
  have c5 := grd_cell hb 5 (v := .int .i64 l) rfl
  have c6 := grd_cell hb 6 (v := .slice (some ⟨g, 0, none⟩) L.length cap) rfl
  have u1 : IntKind.u64.wrap (L.length : Int) = (L.length : Int) := by rw [IntKind.wrap_u64]; omega
  have hkx : ¬ (L.length : Int) ≤ k := by omega
  have hmb : (c.md == 2) = true := by simp [hm2.1]
  have hd := hm2.2
  clear hb hm h3 hm2
  go_enter Tryz.func93, Tryz.ntmps93
  go_wp2
  all_goals go_ret
  all_goals exact ⟨rfl, (by repeat' (first | (with_reducible first | exact Below.refl _ _ | assumption | refine below_over ?_ _ _ | refine Lw.below_alloc ?_ _ | refine Below.drew ?_ | refine below_drewN ?_ _ | refine Below.setCell ?_ ?_ _) | go_size))⟩
set_option maxRecDepth 100000 in
set_option maxHeartbeats 4000000 in
theorem aupd_over (p : Addr) (F : Nat → Prop) (c : Cfg) (l : Int) (L : List Int) (k d : Int) (w : World) (h : DA w p F c l L) (k0 : 0 ≤ k) (k1 : k ≤ 18446744073709551615) (d0 : -9223372036854775808 ≤ d) (d1 : d ≤ 9223372036854775807) (hk : k < (L.length : Int)) (hm2 : ¬ (c.md = 2 ∧ d < 0)) (hf : Wid.fit64 (num L k + d) = false) :
    Calls Tryz.prog 93 #[.pointer (some p), .int .u64 k, .int .i64 d] w fun e w' => e = .returned (.int .i64 4) ∧ Below w.heap.size w w' := by
  obtain ⟨h1, h2, h3, b, g, cap, rfl, hb, hm, h4, h5, h6, rfl⟩ := h
  have hbl := size_of_heap hb
  have hgl := hm.lt
  have c0 := grd_cell hb 0 (v := .int .i64 c.bt) rfl
  have c1 := grd_cell hb 1 (v := .int .i64 c.rw) rfl
  have c2 := grd_cell hb 2 (v := .int .i64 c.wd) rfl
  have c3 := grd_cell hb 3 (v := .int .i64 c.md) rfl
  have c4 := grd_cell hb 4 (v := .int .u64 c.sd) rfl
  have c5 := grd_cell hb 5 (v := .int .i64 l) rfl
  have c6 := grd_cell hb 6 (v := .slice (some ⟨g, 0, none⟩) L.length cap) rfl
  obtain ⟨K, rfl⟩ : ∃ K : Nat, k = K := ⟨k.toNat, by omega⟩
  have hK : K < L.length := by omega
  obtain ⟨v, hv⟩ : ∃ v, L[K]? = some v := ⟨_, List.getElem?_eq_getElem hK⟩
  have hn : num L (K : Int) = v := by unfold num; rw [Int.toNat_natCast, hv]; rfl
  have hvb := h3.at hv
  have u1 : IntKind.u64.wrap (L.length : Int) = (L.length : Int) := by rw [IntKind.wrap_u64]; omega
  have hkx : ¬ (L.length : Int) ≤ (K : Int) := by omega
  have CA := Lib.hid (fun w => Wid.radd_any v d w hvb.1 hvb.2 d0 d1)
  have cv := hm.cell hv
  have fv := hm.frozen (0 + K)
  have hm6 := hm.set K (Wid.f64 (v + d))
  obtain ⟨ga, hga⟩ : ∃ a : Addr, (⟨g, 0, none⟩ : Addr) = a := ⟨_, rfl⟩
  rw [← Ord.add_at, hga] at cv fv hm6
  have gv : ∀ bs dd, (grow w bs dd).cell? (ga.add K) = some (.int .i64 v) := fun bs dd => cell_up cv (grow_below w bs dd)
  rw [hn] at hf
  rw [hga] at c6
  rw [hf] at CA
  have HM2 := Lib.hid hm2
  clear hb hm h3 hv hn hm6 hvb hm2 hf
  by_cases hmd : c.md = 2
  · have hmb : (c.md == 2) = true := by simp [hmd]
    have hd : ¬ d < 0 := fun h => HM2.out ⟨hmd, h⟩
    clear hmd
    go_enter Tryz.func93, Tryz.ntmps93
    go_wp2_with (go_at_call 121; (with_reducible refine (CA.out _).mono ?_); rintro e w' ⟨rfl, hb⟩; obtain ⟨bs, dd, rfl⟩ := below_grow hb; clear hb)
    all_goals go_ret
    all_goals exact ⟨rfl, (by repeat' (first | (with_reducible first | exact Below.refl _ _ | assumption | refine below_over ?_ _ _ | refine Lw.below_alloc ?_ _ | refine Below.drew ?_ | refine below_drewN ?_ _ | refine Below.setCell ?_ ?_ _) | go_size))⟩
  · have hmb : (c.md == 2) = false := by simpa using hmd
    clear hmd
    go_enter Tryz.func93, Tryz.ntmps93
    go_wp2_with (go_at_call 121; (with_reducible refine (CA.out _).mono ?_); rintro e w' ⟨rfl, hb⟩; obtain ⟨bs, dd, rfl⟩ := below_grow hb; clear hb)
    all_goals go_ret
    all_goals exact ⟨rfl, (by repeat' (first | (with_reducible first | exact Below.refl _ _ | assumption | refine below_over ?_ _ _ | refine Lw.below_alloc ?_ _ | refine Below.drew ?_ | refine below_drewN ?_ _ | refine Below.setCell ?_ ?_ _) | go_size))⟩
set_option maxRecDepth 100000 in
set_option maxHeartbeats 4000000 in
theorem aupd_ok (p : Addr) (F : Nat → Prop) (c : Cfg) (l : Int) (L : List Int) (k d : Int) (w : World) (h : DA w p F c l L) (k0 : 0 ≤ k) (k1 : k ≤ 18446744073709551615) (d0 : -9223372036854775808 ≤ d) (d1 : d ≤ 9223372036854775807) (hk : k < (L.length : Int)) (hm2 : ¬ (c.md = 2 ∧ d < 0)) (hf : Wid.fit64 (num L k + d) = true) :
    Calls Tryz.prog 93 #[.pointer (some p), .int .u64 k, .int .i64 d] w fun e w' => e = .returned (.int .i64 0) ∧ ∃ F', DA w' p F' c l (L.set k.toNat (num L k + d)) ∧ Kept F w w' ∧ (∀ q, F' q → F q ∨ w.heap.size ≤ q) := by
  obtain ⟨h1, h2, h3, b, g, cap, rfl, hb, hm, h4, h5, h6, rfl⟩ := h
  have hbl := size_of_heap hb
  have hgl := hm.lt
  have c0 := grd_cell hb 0 (v := .int .i64 c.bt) rfl
  have c1 := grd_cell hb 1 (v := .int .i64 c.rw) rfl
  have c2 := grd_cell hb 2 (v := .int .i64 c.wd) rfl
  have c3 := grd_cell hb 3 (v := .int .i64 c.md) rfl
  have c4 := grd_cell hb 4 (v := .int .u64 c.sd) rfl
  have c5 := grd_cell hb 5 (v := .int .i64 l) rfl
  have c6 := grd_cell hb 6 (v := .slice (some ⟨g, 0, none⟩) L.length cap) rfl
  obtain ⟨K, rfl⟩ : ∃ K : Nat, k = K := ⟨k.toNat, by omega⟩
  have hK : K < L.length := by omega
  obtain ⟨v, hv⟩ : ∃ v, L[K]? = some v := ⟨_, List.getElem?_eq_getElem hK⟩
  have hn : num L (K : Int) = v := by unfold num; rw [Int.toNat_natCast, hv]; rfl
  have hvb := h3.at hv
  have u1 : IntKind.u64.wrap (L.length : Int) = (L.length : Int) := by rw [IntKind.wrap_u64]; omega
  have hkx : ¬ (L.length : Int) ≤ (K : Int) := by omega
  have CA := Lib.hid (fun w => Wid.radd_any v d w hvb.1 hvb.2 d0 d1)
  have cv := hm.cell hv
  have fv := hm.frozen (0 + K)
  have hm6 := hm.set K (Wid.f64 (v + d))
  obtain ⟨ga, hga⟩ : ∃ a : Addr, (⟨g, 0, none⟩ : Addr) = a := ⟨_, rfl⟩
  rw [← Ord.add_at, hga] at cv fv hm6
  have gv : ∀ bs dd, (grow w bs dd).cell? (ga.add K) = some (.int .i64 v) := fun bs dd => cell_up cv (grow_below w bs dd)
  rw [hn] at hf ⊢
  rw [Int.toNat_natCast]
  have hfz := in64_fit hf
  have hff : Wid.f64 (v + d) = v + d := (Wid.fit64_yes hfz.1 (by omega)).2
  rw [hff] at CA hm6
  have gf : ∀ bs dd, (grow w bs dd).frozen? (ga.add K) = false := fun bs dd => by
    rw [← hga, Ord.add_at]
    exact (hm.up (grow_below w bs dd)).frozen _
  have HT : Hid (∀ bs dd, ∃ F', DA ((grow w bs dd).setCell (ga.add K) (.int .i64 (v + d))) ⟨b, 0, none⟩ F' c l (L.set K (v + d)) ∧ Kept (fun k => k = b ∨ k = g) w ((grow w bs dd).setCell (ga.add K) (.int .i64 (v + d))) ∧ (∀ q, F' q → (q = b ∨ q = g) ∨ w.heap.size ≤ q)) := Lib.hid (fun bs dd => by
    have hb9 := grow_below w bs dd
    have hks : Kept (fun q => q = g) (grow w bs dd) ((grow w bs dd).setCell ⟨g, 0 + K, none⟩ (.int .i64 (v + d))) := (Kept.refl (fun q => q = g) _).set (.inl rfl) _ _
    have hm9 := (hm.up hb9).set K (v + d)
    have hbb : (grow w bs dd).heap[b]? = some (.cells #[.int .i64 c.bt, .int .i64 c.rw, .int .i64 c.wd, .int .i64 c.md, .int .u64 c.sd, .int .i64 l, .slice (some ⟨g, 0, none⟩) L.length cap] 138 (0, 0)) := by rw [hb9.block b hbl]; exact hb
    have hk9 : Kept (fun k => k = b ∨ k = g) w ((grow w bs dd).setCell ⟨g, 0 + K, none⟩ (.int .i64 (v + d))) := (Kept.of_below hb9).trans (hks.mono (fun q _ e => .inr e)) (fun q hq e => e)
    rw [← hga, Ord.add_at]
    refine ⟨fun k => k = b ∨ k = g, ⟨h1, by rw [List.length_set]; exact h2, in64_set h3 K hfz.1 hfz.2, b, g, cap, rfl, ?_, hm9, by rw [List.length_set]; exact h4, h5, h6, rfl⟩, hk9, fun q hq => .inl hq⟩
    rw [List.length_set]
    exact hks.heap hbb (fun e => h6 e.symm))
  rw [hga] at c6
  rw [hf] at CA
  obtain ⟨S, hS⟩ : ∃ S, v + d = S := ⟨_, rfl⟩
  have HM2 := Lib.hid hm2
  clear hb hm h3 hv hn hm6 hvb hm2 hf hfz hff
  rw [hS] at HT ⊢
  rw [hS] at CA
  clear hS
  by_cases hmd : c.md = 2
  · have hmb : (c.md == 2) = true := by simp [hmd]
    have hd : ¬ d < 0 := fun h => HM2.out ⟨hmd, h⟩
    clear hmd
    go_enter Tryz.func93, Tryz.ntmps93
    go_wp2_with (go_at_call 121; (with_reducible refine (CA.out _).mono ?_); rintro e w' ⟨rfl, hb⟩; obtain ⟨bs, dd, rfl⟩ := below_grow hb; clear hb)
    all_goals go_ret
    all_goals exact ⟨rfl, HT.out bs dd⟩
  · have hmb : (c.md == 2) = false := by simpa using hmd
    clear hmd
    go_enter Tryz.func93, Tryz.ntmps93
    go_wp2_with (go_at_call 121; (with_reducible refine (CA.out _).mono ?_); rintro e w' ⟨rfl, hb⟩; obtain ⟨bs, dd, rfl⟩ := below_grow hb; clear hb)
    all_goals go_ret
    all_goals exact ⟨rfl, HT.out bs dd⟩
theorem aupd_any (p : Addr) (F : Nat → Prop) (c : Cfg) (l : Int) (L : List Int) (k d : Int) (w : World) (h : DA w p F c l L) (k0 : 0 ≤ k) (k1 : k ≤ 18446744073709551615) (d0 : -9223372036854775808 ≤ d) (d1 : d ≤ 9223372036854775807) :
    Calls Tryz.prog 93 #[.pointer (some p), .int .u64 k, .int .i64 d] w fun e w' => e = .returned (.int .i64 (exCode c.md L k d)) ∧ ∃ F', DA w' p F' c l (exRes c.md L k d) ∧ Kept F w w' ∧ (∀ q, F' q → F q ∨ w.heap.size ≤ q) := by
  by_cases hk : (L.length : Int) ≤ k
  · have e := ex_key (md := c.md) (d := d) hk
    rw [e.1, e.2]
    exact (aupd_no p F c l L k d w h k0 k1 d0 d1 hk).mono (fun e w' h2 => ⟨h2.1, F, h.up h2.2, Kept.of_below h2.2, fun q hq => .inl hq⟩)
  have hk2 : k < (L.length : Int) := by omega
  by_cases hm : c.md = 2 ∧ d < 0
  · have e := ex_mode (md := c.md) (d := d) hk2 hm
    rw [e.1, e.2]
    exact (aupd_mode p F c l L k d w h k0 k1 d0 d1 hk2 hm).mono (fun e w' h2 => ⟨h2.1, F, h.up h2.2, Kept.of_below h2.2, fun q hq => .inl hq⟩)
  cases hf : Wid.fit64 (num L k + d) with
  | true =>
    have e := ex_yes (md := c.md) hk2 hm hf
    rw [e.1, e.2]
    exact aupd_ok p F c l L k d w h k0 k1 d0 d1 hk2 hm hf
  | false =>
    have e := ex_over (md := c.md) hk2 hm hf
    rw [e.1, e.2]
    exact (aupd_over p F c l L k d w h k0 k1 d0 d1 hk2 hm hf).mono (fun e w' h2 => ⟨h2.1, F, h.up h2.2, Kept.of_below h2.2, fun q hq => .inl hq⟩)
set_option maxRecDepth 100000 in
set_option maxHeartbeats 4000000 in
theorem acopy_any (p : Addr) (F : Nat → Prop) (c : Cfg) (l : Int) (L : List Int) (w : World) (h : DA w p F c l L) :
    Calls Tryz.prog 119 #[.pointer (some p)] w fun e w' => ∃ (q : Addr) (Q : Nat → Prop), e = .returned (.pointer (some q)) ∧ DA w' q Q c l L ∧ (∀ k, Q k → w.heap.size ≤ k) ∧ Below w.heap.size w w' := by
  obtain ⟨i0, hi, hz0, hz1, hz2⟩ := info_parts i64_info
  obtain ⟨h1, h2, h3, b, g, cap, rfl, hb, hm, h4, h5, h6, rfl⟩ := h
  have hbl := size_of_heap hb
  have hgl := hm.lt
  have c0 := grd_cell hb 0 (v := .int .i64 c.bt) rfl
  have c1 := grd_cell hb 1 (v := .int .i64 c.rw) rfl
  have c2 := grd_cell hb 2 (v := .int .i64 c.wd) rfl
  have c3 := grd_cell hb 3 (v := .int .i64 c.md) rfl
  have c4 := grd_cell hb 4 (v := .int .u64 c.sd) rfl
  have c5 := grd_cell hb 5 (v := .int .i64 l) rfl
  have c6 := grd_cell hb 6 (v := .slice (some ⟨g, 0, none⟩) L.length cap) rfl
  have HRD := Lib.hid hm.rd
  have H3 := Lib.hid (And.intro h1 h3)
  unfold maxLen at h5
  clear hb hm h1 h3
  go_enter Tryz.func119, Tryz.ntmps119
  go_upto_region 1 with fail
  go_region_held3 (fun w' => w'.cell? ⟨b, 0, none⟩ = some (.int .i64 c.bt) ∧ w'.cell? ⟨b, 1, none⟩ = some (.int .i64 c.rw) ∧ w'.cell? ⟨b, 2, none⟩ = some (.int .i64 c.wd) ∧ w'.cell? ⟨b, 3, none⟩ = some (.int .i64 c.md) ∧ w'.cell? ⟨b, 4, none⟩ = some (.int .u64 c.sd) ∧ w'.cell? ⟨b, 5, none⟩ = some (.int .i64 l) ∧ w'.cell? ⟨b, 6, none⟩ = some (.slice (some ⟨g, 0, none⟩) L.length cap)) (first | (refine ⟨?_, ?_, ?_, ?_, ?_, ?_, ?_⟩ <;> (first | (with_reducible assumption) | (with_reducible refine cell_up c0 ?_) | (with_reducible refine cell_up c1 ?_) | (with_reducible refine cell_up c2 ?_) | (with_reducible refine cell_up c3 ?_) | (with_reducible refine cell_up c4 ?_) | (with_reducible refine cell_up c5 ?_) | (with_reducible refine cell_up c6 ?_)) <;> (repeat' (first | (with_reducible first | exact Below.refl _ _ | assumption | refine below_over ?_ _ _ | refine Lw.below_alloc ?_ _ | refine Below.drew ?_ | refine below_drewN ?_ _ | refine Below.setCell ?_ ?_ _) | go_size)))) (first
    | (refine app_step .i64 rfl _ _ 54 rfl w.heap.size 2 i0 8 i64s_u hi hz0 hz1 hz2 (.slice (some ⟨w.heap.size, 0, none⟩) 0 0) 0 [] rfl (own_empty w.drew _ _ _ (Nat.le_refl _)) (fun h => by cases h) (some ⟨g, 0, none⟩) L.length cap L rfl (fun h => by cases h) rfl (HRD.out.up (by repeat' (first | (with_reducible first | exact Below.refl _ _ | assumption | refine below_over ?_ _ _ | refine Lw.below_alloc ?_ _ | refine Below.drew ?_ | refine below_drewN ?_ _ | refine Below.setCell ?_ ?_ _) | go_size))) (by unfold maxLen; omega) (by omega) (by simp) ?_; intro A4 cap4 w4 hown4 hgrow4 hrd4 hcap6 hcap7; have hb4 : Below w.heap.size w w4 := app_below2 (by repeat' (first | (with_reducible first | exact Below.refl _ _ | assumption | refine below_over ?_ _ _ | refine Lw.below_alloc ?_ _ | refine Below.drew ?_ | refine below_drewN ?_ _ | refine Below.setCell ?_ ?_ _) | go_size)) hgrow4 (Nat.le_refl _); (try simp only [Nat.zero_add, List.nil_append] at hown4 hcap6); (try simp only [Nat.zero_add]); have HO4 := Lib.hid hown4; have HB4 := Lib.hid hb4; have HC4 := Lib.hid (And.intro hcap6 hcap7); clear hown4 hgrow4 hrd4 hcap6 hcap7))
  all_goals go_wp2
  all_goals go_ret
  obtain ⟨g4, rfl, hg4, hm4⟩ := Ord.mid_own HO4.out
  have hn0 := heap_alloc_new w4 (.cells #[.int .i64 c.bt, .int .i64 c.rw, .int .i64 c.wd, .int .i64 c.md, .int .u64 c.sd, .int .i64 l, .slice (some ⟨g4, 0, none⟩) L.length cap4] 138)
  have hl4 := hm4.lt
  have hs4 := HB4.out.size
  have hb4 := HB4.out
  refine ⟨_, fun k => k = w4.heap.size ∨ k = g4, rfl, ⟨H3.out.1, h2, H3.out.2, _, g4, cap4, rfl, hn0, hm4.up (Lw.below_alloc (Below.refl _ _) _), HC4.out.1, HC4.out.2, by omega, rfl⟩, fun k hk => ?_, hb4.alloc hs4 _⟩
  rcases hk with rfl | rfl <;> omega
end Go.Proofs.YtkflggojiiebeaaGreat.Exa

namespace Go.Proofs.YtkflggojiiebeaaGreat.Sk
open Go Go.RowKit Lw Grd Lin Con Shp
set_option linter.unusedVariables false
set_option linter.unusedSimpArgs false
theorem ds_turn {w w' : World} {b : Nat} {gp : Addr} {G G' : Nat → Prop} {c : Cfg} {l : Int} {L : List (List Int)} (hr : IsRight c) (hok : c.Ok) (hl0 : 0 ≤ l) (hl1 : l ≤ c.bt)
    (hb : w.heap[b]? = some (.cells #[.int .i64 c.bt, .int .i64 c.rw, .int .i64 c.wd, .int .i64 c.md, .int .u64 c.sd, .int .i64 l, .pointer (some gp)] 141 (0, 0))) (hGb : ¬ G b) (g' : DG w' gp G' (rws c) (wds c) L) (hk : Kept G w w') (hG : ∀ k, G' k → G k ∨ w.heap.size ≤ k) :
    ∃ F', DS w' ⟨b, 0, none⟩ F' c l L ∧ Kept (fun k => k = b ∨ G k) w w' ∧ (∀ q, F' q → (q = b ∨ G q) ∨ w.heap.size ≤ q) := by
  have hbl := size_of_heap hb
  refine ⟨_, ⟨hr, hok, hl0, hl1, b, gp, G', rfl, hk.heap hb hGb, g', fun h => ?_, rfl⟩, hk.mono (fun k _ h => .inr h), fun q hq => ?_⟩
  · rcases hG b h with h1 | h1
    · exact hGb h1
    · omega
  · rcases hq with rfl | h1
    · exact .inl (.inl rfl)
    · rcases hG q h1 with h2 | h2
      · exact .inl (.inr h2)
      · exact .inr h2
set_option maxRecDepth 100000 in
set_option maxHeartbeats 4000000 in
theorem rsupd_any (p : Addr) (F : Nat → Prop) (c : Cfg) (l : Int) (L : List (List Int)) (k d : Int) (w : World) (h : DS w p F c l L) (k0 : 0 ≤ k) (k1 : k ≤ 18446744073709551615) (d0 : -9223372036854775808 ≤ d) (d1 : d ≤ 9223372036854775807) :
    Calls Tryz.prog 94 #[.pointer (some p), .int .u64 k, .int .i64 d] w fun e w' => e = .returned (.int .i64 (upCode c l L k d)) ∧ ∃ F', DS w' p F' c l (upRes c l L k d) ∧ Kept F w w' ∧ (∀ q, F' q → F q ∨ w.heap.size ≤ q) := by
  unfold upCode upRes
  have HS := Lib.hid h
  obtain ⟨hr, hok, hl0, hl1, b, gp, G, rfl, hb, hg, hGb, rfl⟩ := h
  have hbl := size_of_heap hb
  have c0 := grd_cell hb 0 (v := .int .i64 c.bt) rfl
  have c1 := grd_cell hb 1 (v := .int .i64 c.rw) rfl
  have c2 := grd_cell hb 2 (v := .int .i64 c.wd) rfl
  have c3 := grd_cell hb 3 (v := .int .i64 c.md) rfl
  have c4 := grd_cell hb 4 (v := .int .u64 c.sd) rfl
  have c5 := grd_cell hb 5 (v := .int .i64 l) rfl
  have c6 := grd_cell hb 6 (v := .pointer (some gp)) rfl
  have hbt := hr.2.1
  have CK := Lib.hid (fun w => rkeys_any c l w hok (by omega) (by omega))
  have CC := Lib.hid (fun w => rcols_own c l k w hok (by omega) (by omega) k0 k1)
  have HT : Hid (∀ w' G' L', DG w' gp G' (rws c) (wds c) L' → Kept G w w' → (∀ k, G' k → G k ∨ w.heap.size ≤ k) → ∃ F', DS w' ⟨b, 0, none⟩ F' c l L' ∧ Kept (fun k => k = b ∨ G k) w w' ∧ (∀ q, F' q → (q = b ∨ G q) ∨ w.heap.size ≤ q)) := Lib.hid (fun w' G' L' h1 h2 h3 => ds_turn hr hok hl0 hl1 hb hGb h1 h2 h3)
  have hrw := rws_bd hr
  by_cases hk : keys c l ≤ k
  · rw [if_pos hk, if_pos hk]
    obtain ⟨K, hK⟩ : ∃ K, keys c l = K := ⟨_, rfl⟩
    rw [hK] at hk CK
    clear hb hg hrw hK
    go_enter Tryz.func94, Tryz.ntmps94
    go_upto_region 1 with fail
    go_region_held3 (fun w' => w'.cell? ⟨b, 0, none⟩ = some (.int .i64 c.bt) ∧ w'.cell? ⟨b, 1, none⟩ = some (.int .i64 c.rw) ∧ w'.cell? ⟨b, 2, none⟩ = some (.int .i64 c.wd) ∧ w'.cell? ⟨b, 3, none⟩ = some (.int .i64 c.md) ∧ w'.cell? ⟨b, 4, none⟩ = some (.int .u64 c.sd) ∧ w'.cell? ⟨b, 5, none⟩ = some (.int .i64 l)) (first | (refine ⟨?_, ?_, ?_, ?_, ?_, ?_⟩ <;> (first | (with_reducible assumption) | (with_reducible refine cell_up c0 ?_) | (with_reducible refine cell_up c1 ?_) | (with_reducible refine cell_up c2 ?_) | (with_reducible refine cell_up c3 ?_) | (with_reducible refine cell_up c4 ?_) | (with_reducible refine cell_up c5 ?_)) <;> repeat' (first | (with_reducible first | exact Below.refl _ _ | assumption | refine below_over ?_ _ _ | refine Lw.below_alloc ?_ _ | refine Below.drew ?_ | refine below_drewN ?_ _ | refine Below.setCell ?_ ?_ _) | go_size))) (first
      | (go_at_call 37; (with_reducible refine (CK.out _).mono ?_); rintro e w' ⟨rfl, hb⟩; obtain ⟨bs, dd, rfl⟩ := below_grow hb; clear hb))
    all_goals go_wp2
    all_goals go_ret
    all_goals exact ⟨rfl, _, HS.out.up (by repeat' (first | (with_reducible first | exact Below.refl _ _ | assumption | refine below_over ?_ _ _ | refine Lw.below_alloc ?_ _ | refine Below.drew ?_ | refine below_drewN ?_ _ | refine Below.setCell ?_ ?_ _) | go_size)), Kept.of_below (by repeat' (first | (with_reducible first | exact Below.refl _ _ | assumption | refine below_over ?_ _ _ | refine Lw.below_alloc ?_ _ | refine Below.drew ?_ | refine below_drewN ?_ _ | refine Below.setCell ?_ ?_ _) | go_size)), fun q hq => .inl hq⟩
  · rw [if_neg hk, if_neg hk]
    have hk2 : k < keys c l := by omega
    have hlen : (cols c l k).length = rws c := (cols_meet k0 hk2).2.1
    have CR := Lib.hid (fun A cap w' hd h1 hap => rraise_any gp G (rws c) (wds c) L (some A) (rws c) cap (cols c l k) d w' hd h1 hap hlen (by omega) (in64_cols c l k) d0 d1)
    have CH := Lib.hid (fun A cap w' hd h1 hap => rchange_any gp G (rws c) (wds c) L (some A) (rws c) cap (cols c l k) d w' hd h1 hap hlen (by omega) (in64_cols c l k) d0 d1)
    have GL := Lib.hid (fun q (hq : G q) => (dgT gp G _ _ L).lt w hg q hq)
    have HG := Lib.hid hg
    rw [hlen] at CC
    obtain ⟨K, hK⟩ : ∃ K, keys c l = K := ⟨_, rfl⟩
    rw [hK] at hk2 CK
    obtain ⟨n, hn⟩ : ∃ n, rws c = n := ⟨_, rfl⟩
    rw [hn] at CC CR CH HT HG ⊢
    have hkx : ¬ K ≤ k := by omega
    have hgb : decide (K ≤ k) = false := decide_eq_false hkx
    have HB := Lib.hid hb
    clear hb hg hrw hK hk hlen hn
    by_cases hm : c.md = 2
    · rw [if_pos hm, if_pos hm]
      have hmb : (c.md == 2) = true := by simp [hm]
      clear hm
      go_enter Tryz.func94, Tryz.ntmps94
      go_upto_region 1 with fail
      go_region_held3 (fun w' => w'.cell? ⟨b, 0, none⟩ = some (.int .i64 c.bt) ∧ w'.cell? ⟨b, 1, none⟩ = some (.int .i64 c.rw) ∧ w'.cell? ⟨b, 2, none⟩ = some (.int .i64 c.wd) ∧ w'.cell? ⟨b, 3, none⟩ = some (.int .i64 c.md) ∧ w'.cell? ⟨b, 4, none⟩ = some (.int .u64 c.sd) ∧ w'.cell? ⟨b, 5, none⟩ = some (.int .i64 l)) (first | (refine ⟨?_, ?_, ?_, ?_, ?_, ?_⟩ <;> (first | (with_reducible assumption) | (with_reducible refine cell_up c0 ?_) | (with_reducible refine cell_up c1 ?_) | (with_reducible refine cell_up c2 ?_) | (with_reducible refine cell_up c3 ?_) | (with_reducible refine cell_up c4 ?_) | (with_reducible refine cell_up c5 ?_)) <;> repeat' (first | (with_reducible first | exact Below.refl _ _ | assumption | refine below_over ?_ _ _ | refine Lw.below_alloc ?_ _ | refine Below.drew ?_ | refine below_drewN ?_ _ | refine Below.setCell ?_ ?_ _) | go_size))) (first
        | (go_at_call 37; (with_reducible refine (CK.out _).mono ?_); rintro e w' ⟨rfl, hb⟩; obtain ⟨bs, dd, rfl⟩ := below_grow hb; clear hb))
      obtain ⟨w1, hw1⟩ : ∃ w1, w1 = (grow w.drew bs dd) := ⟨_, rfl⟩
      go_upto_region 3 with fail
      go_region_held3 (fun w' => w'.cell? ⟨b, 0, none⟩ = some (.int .i64 c.bt) ∧ w'.cell? ⟨b, 1, none⟩ = some (.int .i64 c.rw) ∧ w'.cell? ⟨b, 2, none⟩ = some (.int .i64 c.wd) ∧ w'.cell? ⟨b, 3, none⟩ = some (.int .i64 c.md) ∧ w'.cell? ⟨b, 4, none⟩ = some (.int .u64 c.sd) ∧ w'.cell? ⟨b, 5, none⟩ = some (.int .i64 l)) (first | (refine ⟨?_, ?_, ?_, ?_, ?_, ?_⟩ <;> (first | (with_reducible assumption) | (with_reducible refine cell_up c0 ?_) | (with_reducible refine cell_up c1 ?_) | (with_reducible refine cell_up c2 ?_) | (with_reducible refine cell_up c3 ?_) | (with_reducible refine cell_up c4 ?_) | (with_reducible refine cell_up c5 ?_)) <;> repeat' (first | (with_reducible first | exact Below.refl _ _ | assumption | refine below_over ?_ _ _ | refine Lw.below_alloc ?_ _ | refine Below.drew ?_ | refine below_drewN ?_ _ | refine Below.setCell ?_ ?_ _) | go_size))) (first
        | (go_at_call 122; (with_reducible refine (CC.out _).mono ?_); rintro e w2 ⟨A, cap, rfl, h1, h2, h3, h4, hb⟩; have RD := Lib.hid h1; have HA : Hid (w.heap.size ≤ A.block) := Lib.hid (Nat.le_trans (Below.size (show Below w.heap.size w _ from (by repeat' (first | (with_reducible first | exact Below.refl _ _ | assumption | refine below_over ?_ _ _ | refine Lw.below_alloc ?_ _ | refine Below.drew ?_ | refine below_drewN ?_ _ | refine Below.setCell ?_ ?_ _) | go_size)))) h4); have HB2 : Hid (Below w.heap.size w w2) := Lib.hid (below_call (show Below w.heap.size w _ from (by repeat' (first | (with_reducible first | exact Below.refl _ _ | assumption | refine below_over ?_ _ _ | refine Lw.below_alloc ?_ _ | refine Below.drew ?_ | refine below_drewN ?_ _ | refine Below.setCell ?_ ?_ _) | go_size))) hb (Nat.le_refl _)); clear h1 h2 h3 h4 hb; have hbw2 := HB2.out))
      have s3 := cell_up c3 HB2.out
      have s6 := cell_up c6 HB2.out
      clear c0 c1 c2 c3 c4 c5 c6
      go_wp2_with (go_at_call 123; (with_reducible refine (CR.out A cap _ (dg_up HG.out (below_call HB2.out (by repeat' (first | (with_reducible first | exact Below.refl _ _ | assumption | refine below_over ?_ _ _ | refine Lw.below_alloc ?_ _ | refine Below.drew ?_ | refine below_drewN ?_ _ | refine Below.setCell ?_ ?_ _) | go_size)) (Nat.le_refl _))) (RD.out.up (by repeat' (first | (with_reducible first | exact Below.refl _ _ | assumption | refine below_over ?_ _ _ | refine Lw.below_alloc ?_ _ | refine Below.drew ?_ | refine below_drewN ?_ _ | refine Below.setCell ?_ ?_ _) | go_size))) (fun a ha hGa => by injection ha with ha; subst ha; have := GL.out _ hGa; have := HA.out; omega)).mono ?_); rintro e w6 ⟨rfl, G6, hp6, hk6, hf6⟩; have HK6 : Hid (Kept G w w6) := Lib.hid ((Kept.of_below (below_call HB2.out (by repeat' (first | (with_reducible first | exact Below.refl _ _ | assumption | refine below_over ?_ _ _ | refine Lw.below_alloc ?_ _ | refine Below.drew ?_ | refine below_drewN ?_ _ | refine Below.setCell ?_ ?_ _) | go_size)) (Nat.le_refl _))).trans hk6 (fun q hq h => h)); have HP6 := Lib.hid hp6; have HF6 := Lib.hid hf6; clear hp6 hk6 hf6)
      all_goals go_ret
      all_goals exact ⟨rfl, HT.out _ _ _ HP6.out HK6.out (fun q hq => (HF6.out q hq).elim .inl (fun h => .inr (Nat.le_trans HB2.out.size h)))⟩
    · rw [if_neg hm, if_neg hm]
      have hmb : (c.md == 2) = false := by simpa using hm
      clear hm
      go_enter Tryz.func94, Tryz.ntmps94
      go_upto_region 1 with fail
      go_region_held3 (fun w' => w'.cell? ⟨b, 0, none⟩ = some (.int .i64 c.bt) ∧ w'.cell? ⟨b, 1, none⟩ = some (.int .i64 c.rw) ∧ w'.cell? ⟨b, 2, none⟩ = some (.int .i64 c.wd) ∧ w'.cell? ⟨b, 3, none⟩ = some (.int .i64 c.md) ∧ w'.cell? ⟨b, 4, none⟩ = some (.int .u64 c.sd) ∧ w'.cell? ⟨b, 5, none⟩ = some (.int .i64 l)) (first | (refine ⟨?_, ?_, ?_, ?_, ?_, ?_⟩ <;> (first | (with_reducible assumption) | (with_reducible refine cell_up c0 ?_) | (with_reducible refine cell_up c1 ?_) | (with_reducible refine cell_up c2 ?_) | (with_reducible refine cell_up c3 ?_) | (with_reducible refine cell_up c4 ?_) | (with_reducible refine cell_up c5 ?_)) <;> repeat' (first | (with_reducible first | exact Below.refl _ _ | assumption | refine below_over ?_ _ _ | refine Lw.below_alloc ?_ _ | refine Below.drew ?_ | refine below_drewN ?_ _ | refine Below.setCell ?_ ?_ _) | go_size))) (first
        | (go_at_call 37; (with_reducible refine (CK.out _).mono ?_); rintro e w' ⟨rfl, hb⟩; obtain ⟨bs, dd, rfl⟩ := below_grow hb; clear hb))
      obtain ⟨w1, hw1⟩ : ∃ w1, w1 = (grow w.drew bs dd) := ⟨_, rfl⟩
      go_upto_region 3 with fail
      go_region_held3 (fun w' => w'.cell? ⟨b, 0, none⟩ = some (.int .i64 c.bt) ∧ w'.cell? ⟨b, 1, none⟩ = some (.int .i64 c.rw) ∧ w'.cell? ⟨b, 2, none⟩ = some (.int .i64 c.wd) ∧ w'.cell? ⟨b, 3, none⟩ = some (.int .i64 c.md) ∧ w'.cell? ⟨b, 4, none⟩ = some (.int .u64 c.sd) ∧ w'.cell? ⟨b, 5, none⟩ = some (.int .i64 l)) (first | (refine ⟨?_, ?_, ?_, ?_, ?_, ?_⟩ <;> (first | (with_reducible assumption) | (with_reducible refine cell_up c0 ?_) | (with_reducible refine cell_up c1 ?_) | (with_reducible refine cell_up c2 ?_) | (with_reducible refine cell_up c3 ?_) | (with_reducible refine cell_up c4 ?_) | (with_reducible refine cell_up c5 ?_)) <;> repeat' (first | (with_reducible first | exact Below.refl _ _ | assumption | refine below_over ?_ _ _ | refine Lw.below_alloc ?_ _ | refine Below.drew ?_ | refine below_drewN ?_ _ | refine Below.setCell ?_ ?_ _) | go_size))) (first
        | (go_at_call 122; (with_reducible refine (CC.out _).mono ?_); rintro e w2 ⟨A, cap, rfl, h1, h2, h3, h4, hb⟩; have RD := Lib.hid h1; have HA : Hid (w.heap.size ≤ A.block) := Lib.hid (Nat.le_trans (Below.size (show Below w.heap.size w _ from (by repeat' (first | (with_reducible first | exact Below.refl _ _ | assumption | refine below_over ?_ _ _ | refine Lw.below_alloc ?_ _ | refine Below.drew ?_ | refine below_drewN ?_ _ | refine Below.setCell ?_ ?_ _) | go_size)))) h4); have HB2 : Hid (Below w.heap.size w w2) := Lib.hid (below_call (show Below w.heap.size w _ from (by repeat' (first | (with_reducible first | exact Below.refl _ _ | assumption | refine below_over ?_ _ _ | refine Lw.below_alloc ?_ _ | refine Below.drew ?_ | refine below_drewN ?_ _ | refine Below.setCell ?_ ?_ _) | go_size))) hb (Nat.le_refl _)); clear h1 h2 h3 h4 hb; have hbw2 := HB2.out))
      have s3 := cell_up c3 HB2.out
      have s6 := cell_up c6 HB2.out
      clear c0 c1 c2 c3 c4 c5 c6
      go_wp2_with (go_at_call 124; (with_reducible refine (CH.out A cap _ (dg_up HG.out (below_call HB2.out (by repeat' (first | (with_reducible first | exact Below.refl _ _ | assumption | refine below_over ?_ _ _ | refine Lw.below_alloc ?_ _ | refine Below.drew ?_ | refine below_drewN ?_ _ | refine Below.setCell ?_ ?_ _) | go_size)) (Nat.le_refl _))) (RD.out.up (by repeat' (first | (with_reducible first | exact Below.refl _ _ | assumption | refine below_over ?_ _ _ | refine Lw.below_alloc ?_ _ | refine Below.drew ?_ | refine below_drewN ?_ _ | refine Below.setCell ?_ ?_ _) | go_size))) (fun a ha hGa => by injection ha with ha; subst ha; have := GL.out _ hGa; have := HA.out; omega)).mono ?_); rintro e w6 ⟨rfl, G6, hp6, hk6, hf6⟩; have HK6 : Hid (Kept G w w6) := Lib.hid ((Kept.of_below (below_call HB2.out (by repeat' (first | (with_reducible first | exact Below.refl _ _ | assumption | refine below_over ?_ _ _ | refine Lw.below_alloc ?_ _ | refine Below.drew ?_ | refine below_drewN ?_ _ | refine Below.setCell ?_ ?_ _) | go_size)) (Nat.le_refl _))).trans hk6 (fun q hq h => h)); have HP6 := Lib.hid hp6; have HF6 := Lib.hid hf6; clear hp6 hk6 hf6)
      all_goals go_ret
      all_goals exact ⟨rfl, HT.out _ _ _ HP6.out HK6.out (fun q hq => (HF6.out q hq).elim .inl (fun h => .inr (Nat.le_trans HB2.out.size h)))⟩
end Go.Proofs.YtkflggojiiebeaaGreat.Sk

namespace Go.Proofs.YtkflggojiiebeaaGreat.Sk
open Go Go.RowKit Lw Grd Lin Con Shp
set_option linter.unusedVariables false
set_option linter.unusedSimpArgs false
theorem nums_set (R : List Row) (K : Nat) (x : Row) : nums (R.set K x) = (nums R).set K x.2.2 := by unfold nums; rw [List.map_set]
theorem take_drop_set {L Z : List (List Int)} {r : Nat} {xs : List Int} (h : L[r]? = some xs) (hl : L.length = Z.length) : (L.take r ++ Z.drop r).set r xs = L.take (r + 1) ++ Z.drop (r + 1) := by
  obtain ⟨h1, h2⟩ := List.getElem?_eq_some_iff.1 h
  apply List.ext_getElem?
  intro j
  rw [List.getElem?_set, List.getElem?_append, List.getElem?_append]
  simp only [List.length_append, List.length_take, List.length_drop]
  by_cases hj : r = j
  · subst hj
    rw [if_pos rfl, if_pos (by omega), if_pos (by omega), List.getElem?_take, if_pos (by omega), h]
  · rw [if_neg hj]
    by_cases hj2 : j < r
    · rw [if_pos (by omega), if_pos (by omega), List.getElem?_take, List.getElem?_take, if_pos hj2, if_pos (by omega)]
    · rw [if_neg (by omega), if_neg (by omega), List.getElem?_drop, List.getElem?_drop]
      congr 1
      omega
theorem own_zero {w : World} {B : Nat} {e : TypeId} {v : Value} {n : Nat} {xs : List Value} (h : w.ownsRow B e 1 v n xs) : w.ownsRow 0 e 1 v n xs := by
  refine ⟨h.1, ?_⟩
  rcases h.2 with h1 | ⟨g, cap, cur, h1, h2, h3⟩
  · exact .inl h1
  · exact .inr ⟨g, cap, cur, h1, Nat.zero_le _, h3⟩
theorem frozen_below {w w' : World} {g j : Nat} (h : Below w.heap.size w w') (hg : g < w.heap.size) : w'.frozen? ⟨g, j, none⟩ = w.frozen? ⟨g, j, none⟩ := by
  unfold World.frozen?
  rw [h.block g hg]
set_option maxRecDepth 100000 in
set_option maxHeartbeats 8000000 in
theorem rscopy_any (p : Addr) (F : Nat → Prop) (c : Cfg) (l : Int) (L : List (List Int)) (w : World) (h : DS w p F c l L) :
    Calls Tryz.prog 120 #[.pointer (some p)] w fun e w' => ∃ (q : Addr) (Q : Nat → Prop), e = .returned (.pointer (some q)) ∧ DS w' q Q c l L ∧ (∀ k, Q k → w.heap.size ≤ k) ∧ Below w.heap.size w w' := by
  obtain ⟨i0, hi, hz0, hz1, hz2⟩ := info_parts i64_info
  obtain ⟨hr, hok, hl0, hl1, b, gp, G, rfl, hb, hg, hGb, rfl⟩ := h
  have hbl := size_of_heap hb
  have c0 := grd_cell hb 0 (v := .int .i64 c.bt) rfl
  have c1 := grd_cell hb 1 (v := .int .i64 c.rw) rfl
  have c2 := grd_cell hb 2 (v := .int .i64 c.wd) rfl
  have c3 := grd_cell hb 3 (v := .int .i64 c.md) rfl
  have c4 := grd_cell hb 4 (v := .int .u64 c.sd) rfl
  have c5 := grd_cell hb 5 (v := .int .i64 l) rfl
  have c6 := grd_cell hb 6 (v := .pointer (some gp)) rfl
  have CN := Lib.hid (fun w => rsnew_any c l w hok hr hl0 hl1)
  have HR := Lib.hid (And.intro hr (And.intro hok (And.intro hl0 hl1)))
  have hd := hg.dims
  obtain ⟨gb, hdr, R, rfl, hrg, hnum, hGF, -⟩ := hg
  obtain ⟨A, cap, rfl, hcap, hA, hrow⟩ := hrg.hd
  have hlen : R.length = rws c := by have := hd.len; rw [← hnum, nums_len] at this; exact this
  have hpos := rws_bd hr
  have hwb := wds_bd hr
  cases A with
  | none => have := hA rfl; omega
  | some gh =>
    have c7w : w.cell? ⟨gb, 0, none⟩ = some (.slice (some gh) R.length cap) := grd_cell hrg.cell 0 rfl
    have RW : Hid (∀ (r : Nat) xs, L[r]? = some xs → ∃ (rb rc : Nat), w.cell? (gh.add r) = some (.slice (some ⟨rb, 0, none⟩) (wds c) rc) ∧ Rd .i64 w (some ⟨rb, 0, none⟩) xs ∧ xs.length = wds c) := Lib.hid (fun r xs hx => by
      rw [← hnum] at hx
      unfold nums at hx
      rw [List.getElem?_map] at hx
      cases hr2 : R[r]? with
      | none => rw [hr2] at hx; cases hx
      | some ro =>
        rw [hr2] at hx
        injection hx with hx
        subst hx
        have hm := List.mem_of_getElem? hr2
        obtain ⟨ad, had, hc⟩ := hrow r ro hr2
        injection had with had
        subst had
        have hdr := hd.rows ro.2.2 (by rw [← hnum]; exact nums_mem hm)
        refine ⟨ro.1, ro.2.1, ?_, fun j v hv => ⟨_, rfl, hrg.numAt hm hv⟩, hdr.1⟩
        rw [hc]
        unfold rowHd
        rw [hdr.1])
    obtain ⟨m, hmm⟩ : ∃ m, rws c = m := ⟨_, rfl⟩
    obtain ⟨n, hnn⟩ : ∃ n, wds c = n := ⟨_, rfl⟩
    rw [hlen, hmm] at c7w
    rw [hmm, hnn] at CN
    rw [hnn] at RW
    have hm8 : 1 ≤ m ∧ m ≤ 8 := by rw [← hmm]; exact ⟨hpos.1, hpos.2.1⟩
    have hn8 : 1 ≤ n ∧ n ≤ 128 := by rw [← hnn]; exact ⟨hwb.1, hwb.2.1⟩
    have HLN : Hid (L.length = m) := Lib.hid (by rw [← hmm]; exact hd.len)
    have HDD : Hid (Dims m n L) := Lib.hid (by rw [← hmm, ← hnn]; exact hd)
    have HMN := Lib.hid (And.intro hmm hnn)
    have C6 := Lib.hid c6
    have C7 := Lib.hid c7w
    clear hb hr hok hl0 hl1 hrg hnum hGF hrow hlen hpos hwb hA hcap hmm hnn hd hGb
    go_enter Tryz.func120, Tryz.ntmps120
    go_upto_region 1 with fail
    go_region_held3 (fun w' => w'.cell? ⟨b, 0, none⟩ = some (.int .i64 c.bt) ∧ w'.cell? ⟨b, 1, none⟩ = some (.int .i64 c.rw) ∧ w'.cell? ⟨b, 2, none⟩ = some (.int .i64 c.wd) ∧ w'.cell? ⟨b, 3, none⟩ = some (.int .i64 c.md) ∧ w'.cell? ⟨b, 4, none⟩ = some (.int .u64 c.sd) ∧ w'.cell? ⟨b, 5, none⟩ = some (.int .i64 l)) (first | (refine ⟨?_, ?_, ?_, ?_, ?_, ?_⟩ <;> (first | (with_reducible assumption) | (with_reducible refine cell_up c0 ?_) | (with_reducible refine cell_up c1 ?_) | (with_reducible refine cell_up c2 ?_) | (with_reducible refine cell_up c3 ?_) | (with_reducible refine cell_up c4 ?_) | (with_reducible refine cell_up c5 ?_)) <;> repeat' (first | (with_reducible first | exact Below.refl _ _ | assumption | refine below_over ?_ _ _ | refine Lw.below_alloc ?_ _ | refine Below.drew ?_ | refine below_drewN ?_ _ | refine Below.setCell ?_ ?_ _) | go_size))) (first
      | (go_at_call 88; (with_reducible refine (CN.out _).mono ?_); rintro e w1 ⟨q, Q, rfl, hds, hq, hb1⟩; have HB1 : Hid (Below w.heap.size w w1) := Lib.hid (below_call (show Below w.heap.size w _ from (by repeat' (first | (with_reducible first | exact Below.refl _ _ | assumption | refine below_over ?_ _ _ | refine Lw.below_alloc ?_ _ | refine Below.drew ?_ | refine below_drewN ?_ _ | refine Below.setCell ?_ ?_ _) | go_size))) hb1 (Nat.le_refl _)); have HDS := Lib.hid hds; have HQF : Hid (∀ k, Q k → w.heap.size ≤ k) := Lib.hid (fun k hk => Nat.le_trans (Below.size (show Below w.heap.size w _ from (by repeat' (first | (with_reducible first | exact Below.refl _ _ | assumption | refine below_over ?_ _ _ | refine Lw.below_alloc ?_ _ | refine Below.drew ?_ | refine below_drewN ?_ _ | refine Below.setCell ?_ ?_ _) | go_size)))) (hq k hk)); have hbw1 := HB1.out; clear hds hq hb1))
    all_goals go_wp2
    clear c0 c1 c2 c3 c4 c5 c6
    have hds := HDS.out
    obtain ⟨-, -, -, -, bq, gq, Gq, rfl, hbq, ⟨gqb, hdq, R0, rfl, hrg0, hnum0, hGF0, -⟩, hGbq, rfl⟩ := hds
    (try rw [HMN.out.1, HMN.out.2] at hnum0)
    obtain ⟨Aq, capq, rfl, hcapq, hAq, -⟩ := hrg0.hd
    have hl0 : R0.length = m := by have := congrArg List.length hnum0; rw [nums_len] at this; rw [this]; simp [zerosL]
    have hAq2 : ∃ gqh, Aq = some ⟨gqh, 0, none⟩ := by
      rcases hrg0.outer.2 with ⟨h1, h2⟩ | ⟨gx, cx, cur, h1, h2, h3, h4, h5, h6, h7⟩
      · omega
      · injection h1 with h1 h2 h3
        exact ⟨gx, h1⟩
    obtain ⟨gqh, rfl⟩ := hAq2
    have hq1 := HQF.out bq (.inl rfl)
    have hq2 : w.heap.size ≤ gqb := HQF.out gqb (.inr ((hGF0 gqb).2 (.inl rfl)))
    have hq3 : w.heap.size ≤ gqh := HQF.out gqh (.inr ((hGF0 gqh).2 (.inr (.inl rfl))))
    have hb2 : bq ≠ gqh := fun e => hGbq ((hGF0 bq).2 (.inr (.inl (by rw [e]; rfl))))
    have hrows0 : ∀ r ∈ R0, w.heap.size ≤ r.1 ∧ r.1 ≠ bq := fun r hr => ⟨HQF.out r.1 (.inr ((hGF0 r.1).2 (.inr (.inr ⟨r, hr, rfl⟩)))), fun e => hGbq ((hGF0 bq).2 (.inr (.inr ⟨r, hr, e⟩)))⟩
    have hnb : gqb ≠ bq := fun e => hGbq ((hGF0 bq).2 (.inl e.symm))
    rw [hl0] at hrg0
    have HST : Hid (∃ (R' : List Row), RG w1 gqb (.slice (some ⟨gqh, 0, none⟩) m capq) R' ∧ nums R' = (L.take 0 ++ (zerosL m n).drop 0) ∧ R'.length = m ∧ (∀ r ∈ R', w.heap.size ≤ r.1 ∧ r.1 ≠ bq)) := Lib.hid ⟨R0, hrg0, by rw [hnum0]; simp, hl0, hrows0⟩
    have HBQ := Lib.hid hbq
    clear hrg0 hnum0 hGF0 hGbq hAq hl0 hrows0 HQF HDS hbq hcapq
    go_loopw [4] (fun iv wr => ∃ (r : Nat) (R' : List Row), r ≤ m ∧ iv = .int .i64 r ∧ Below w.heap.size w wr ∧ wr.heap[bq]? = some (.cells #[.int .i64 c.bt, .int .i64 c.rw, .int .i64 c.wd, .int .i64 c.md, .int .u64 c.sd, .int .i64 l, .pointer (some ⟨gqb, 0, none⟩)] 141 (0, 0)) ∧ RG wr gqb (.slice (some ⟨gqh, 0, none⟩) m capq) R' ∧ nums R' = (L.take r ++ (zerosL m n).drop r) ∧ R'.length = m ∧ (∀ x ∈ R', w.heap.size ≤ x.1 ∧ x.1 ≠ bq)) (fun iv _ => m - (intOf iv).toNat)
    case atStart =>
      obtain ⟨R', h1, h2, h3, h4⟩ := HST.out
      exact ⟨0, R', Nat.zero_le _, rfl, HB1.out, HBQ.out, h1, h2, h3, h4⟩
    case round =>
      obtain ⟨r, R', hrm, rfl, hbel, hbq, hrg, hnum, hl', hrows⟩ := hrel
      have c6 := cell_up C6.out hbel
      have c7 := cell_up C7.out hbel
      by_cases hlt : r < m
      · obtain ⟨xs, hxs⟩ : ∃ xs, L[r]? = some xs := ⟨_, List.getElem?_eq_getElem (by rw [HLN.out]; exact hlt)⟩
        obtain ⟨rb, rc, hrw, hrd, hxl⟩ := RW.out r xs hxs
        have c8 := cell_up hrw hbel
        have HXR := Lib.hid (hrd.up hbel)
        have e6 := grd_cell hbq 6 (v := .pointer (some ⟨gqb, 0, none⟩)) rfl
        have e7 : wr.cell? ⟨gqb, 0, none⟩ = some (.slice (some ⟨gqh, 0, none⟩) m capq) := grd_cell hrg.cell 0 rfl
        obtain ⟨ro, hro⟩ : ∃ ro, R'[r]? = some ro := ⟨_, List.getElem?_eq_getElem (by rw [hl']; exact hlt)⟩
        have hgql : gqh < wr.heap.size := own_lt hrg.outer rfl
        obtain ⟨aq, haq⟩ : ∃ aq : Addr, (⟨gqh, 0, none⟩ : Addr) = aq := ⟨_, rfl⟩
        have hcq : wr.cell? ⟨gqh, r, none⟩ = some (rowHd ro) := by
          have h9 := hrg.outer.cells (g := gqh) rfl r (rowHd ro) (by rw [List.getElem?_map, hro]; rfl)
          rw [Ord.add_at, Nat.zero_add] at h9
          exact h9
        have hfq : wr.frozen? ⟨gqh, r, none⟩ = false := by
          rcases hrg.outer.2 with ⟨h1, h2⟩ | ⟨gx, cx, cur, h1, h2, h3, h4, h5, h6, h7⟩
          · cases h1
          · injection h1 with h1 h2 h3
            injection h1 with h1
            injection h1 with h1
            subst h1
            simp [World.frozen?, h3]
        have FZ : Hid (∀ w', Below wr.heap.size wr w' → w'.frozen? (aq.add r) = false) := Lib.hid (fun w' hb => by
          rw [← haq, Ord.add_at, Nat.zero_add]
          rw [frozen_below hb hgql]
          exact hfq)
        have CO4 : Hid (∀ w', Below wr.heap.size wr w' → w'.cell? (aq.add r) = some (rowHd ro)) := Lib.hid (fun w' hb => by
          rw [← haq, Ord.add_at, Nat.zero_add]
          exact cell_up hcq hb)
        have HNX : Hid (∀ x : Row, x.2.2 = xs → nums (R'.set r x) = (L.take (r + 1) ++ (zerosL m n).drop (r + 1))) := Lib.hid (fun x hx => by
          rw [nums_set, hnum, hx]
          exact take_drop_set hxs (by rw [HLN.out]; simp [zerosL]))
        have HRG := Lib.hid hrg
        have HBQ2 := Lib.hid hbq
        have HRS := Lib.hid hrows
        have hszw := hbel.size
        have hr1 : (r : Int) < (m : Int) := by omega
        have HBL := Lib.hid hbel
        have SKP : Hid (∀ (w' : World) (v : Value) (a : Addr) (u : Value), w'.cell? a = some u → a.block ≠ gqh → (w'.setCell (aq.add r) v).cell? a = some u) := Lib.hid (fun w' v a u h1 h2 => by
          rw [← haq, Ord.add_at, Nat.zero_add]
          exact (Kept.set (F := fun k => k = gqh) (Kept.refl _ w') (.inl rfl) r v).cell h1 h2)
        have hne6 : b ≠ gqh := by omega
        have hne7 : gqb ≠ gqh := fun e => hrg.apart1 (by rw [e]; rfl)
        have hne8 : gb ≠ gqh := by have := cell_lt C7.out; simp only at this; omega
        have hne9 : (gh.add r).block ≠ gqh := by have := cell_lt hrw; omega
        rw [haq] at e7
        clear hxs hrw hrd hro hcq hfq hnum hbq hrows
        go_upto_region 5 with fail
        go_region_held3 (fun w' => w'.cell? ⟨bq, 6, none⟩ = some (.pointer (some ⟨gqb, 0, none⟩)) ∧ w'.cell? ⟨gqb, 0, none⟩ = some (.slice (some aq) m capq) ∧ w'.cell? ⟨b, 6, none⟩ = some (.pointer (some ⟨gb, 0, none⟩)) ∧ w'.cell? ⟨gb, 0, none⟩ = some (.slice (some gh) m cap) ∧ w'.cell? (gh.add r) = some (.slice (some ⟨rb, 0, none⟩) n rc)) (first | (refine ⟨?_, ?_, ?_, ?_, ?_⟩ <;> (first | (with_reducible assumption) | (with_reducible refine cell_up e6 ?_) | (with_reducible refine cell_up e7 ?_) | (with_reducible refine cell_up c6 ?_) | (with_reducible refine cell_up c7 ?_) | (with_reducible refine cell_up c8 ?_)) <;> (repeat' (first | (with_reducible first | exact Below.refl _ _ | assumption | refine below_over ?_ _ _ | refine Lw.below_alloc ?_ _ | refine Below.drew ?_ | refine below_drewN ?_ _ | refine Below.setCell ?_ ?_ _) | go_size)))) (first
          | (refine app_step .i64 rfl _ _ 54 rfl wr.heap.size 2 i0 8 i64s_u hi hz0 hz1 hz2 (.slice (some ⟨wr.heap.size, 0, none⟩) 0 0) 0 [] rfl (own_empty wr.drew _ _ _ (Nat.le_refl _)) (fun h => by cases h) (some ⟨rb, 0, none⟩) n rc xs rfl (fun h => by cases h) hxl (HXR.out.up (by repeat' (first | (with_reducible first | exact Below.refl _ _ | assumption | refine below_over ?_ _ _ | refine Lw.below_alloc ?_ _ | refine Below.drew ?_ | refine below_drewN ?_ _ | refine Below.setCell ?_ ?_ _) | go_size))) (by unfold maxLen; omega) (by omega) (by simp) ?_; intro A4 cap4 w4 hown4 hgrow4 hrd4 hcap6 hcap7; have hb4 : Below wr.heap.size wr w4 := app_below2 (by repeat' (first | (with_reducible first | exact Below.refl _ _ | assumption | refine below_over ?_ _ _ | refine Lw.below_alloc ?_ _ | refine Below.drew ?_ | refine below_drewN ?_ _ | refine Below.setCell ?_ ?_ _) | go_size)) hgrow4 (Nat.le_refl _); (try simp only [Nat.zero_add, List.nil_append] at hown4 hcap6); (try simp only [Nat.zero_add]); have HO4 := Lib.hid hown4; have HB4 := Lib.hid hb4; have fz4 := FZ.out w4 hb4; have co4 := CO4.out w4 hb4; have q6 := SKP.out w4 (.slice (some A4) n cap4) _ _ (cell_up e6 hb4) hb2; have q7 := SKP.out w4 (.slice (some A4) n cap4) _ _ (cell_up e7 hb4) hne7; have q8 := SKP.out w4 (.slice (some A4) n cap4) _ _ (cell_up c6 hb4) hne6; have q9 := SKP.out w4 (.slice (some A4) n cap4) _ _ (cell_up c7 hb4) hne8; have q10 := SKP.out w4 (.slice (some A4) n cap4) _ _ (cell_up c8 hb4) hne9; clear hown4 hgrow4 hrd4))
        all_goals go_wp2
        go_roundw
        case rel =>
          obtain ⟨g4, rfl, hg4, -⟩ := Ord.mid_own HO4.out
          have hrg4 := HRG.out.keep (F := fun _ => False) (Kept.of_below HB4.out) (fun q hq h => h)
          have hnf : ¬ RF gqb (.slice (some ⟨gqh, 0, none⟩) m capq) R' g4 := fun hk => by have := HRG.out.blt hk; omega
          have hown0 : w4.ownsRow 0 2 1 (rowHd (g4, cap4, xs)) xs.length (xs.map (Value.int .i64)) := by
            have h9 := own_zero HO4.out
            unfold rowHd
            rw [hxl]
            exact h9
          have hwe : w4.setCell (aq.add r) (.slice (some ⟨g4, 0, none⟩) n cap4) = w4.setCell ⟨gqh, r, none⟩ (rowHd (g4, cap4, xs)) := by
            rw [← haq, Ord.add_at, Nat.zero_add]
            unfold rowHd
            rw [hxl]
          have hset : RG (w4.setCell ⟨gqh, r, none⟩ (rowHd (g4, cap4, xs))) gqb (.slice (some ⟨gqh, 0, none⟩) m capq) (R'.set r (g4, cap4, xs)) := by
            have h8 := RG.setRow (w := w4) (b := gqb) (gh := gqh) (cap := capq) (R := R') (by rw [hl']; exact hrg4) (K := r) (by rw [hl']; exact hlt) g4 cap4 xs hown0 (by rw [hl']; exact hnf)
            rw [List.length_set, hl'] at h8
            exact h8
          have hb4 : Below w.heap.size w w4 := below_call HBL.out HB4.out (Nat.le_refl _)
          have hbqs := size_of_heap HBQ2.out
          have hks : Kept (fun q => q = gqh) w4 (w4.setCell ⟨gqh, r, none⟩ (rowHd (g4, cap4, xs))) := Kept.set (F := fun q => q = gqh) (Kept.refl _ w4) (.inl rfl) r _
          rw [hwe]
          refine ⟨r + 1, R'.set r (g4, cap4, xs), by omega, by go_num, Below.setCell hb4 hq3 _, ?_, hset, HNX.out _ rfl, by rw [List.length_set]; exact hl', fun x hx => ?_⟩
          · refine hks.heap ?_ hb2
            rw [HB4.out.block bq hbqs]
            exact HBQ2.out
          · rcases List.mem_or_eq_of_mem_set hx with hx | rfl
            · exact HRS.out x hx
            · exact ⟨by show w.heap.size ≤ g4; omega, by show g4 ≠ bq; omega⟩
        case measure => simp [intOf]; omega
      · have e : r = m := by omega
        subst e
        have hlt3 : ¬ (r : Int) < (r : Int) := by omega
        have hnl : nums R' = L := by
          rw [hnum, List.take_of_length_le (by rw [HLN.out]; exact Nat.le_refl _), List.drop_of_length_le (by simp [zerosL]), List.append_nil]
        have HRG := Lib.hid hrg
        have HBQ2 := Lib.hid hbq
        have HRS := Lib.hid hrows
        have HBL := Lib.hid hbel
        have HNL := Lib.hid hnl
        clear hrg hbq hrows hbel hnl hnum hl'
        go_wp2
        go_ret
        refine ⟨⟨bq, 0, none⟩, rfl, fun k => k = bq ∨ RF gqb (.slice (some ⟨gqh, 0, none⟩) r capq) R' k, ⟨HR.out.1, HR.out.2.1, HR.out.2.2.1, HR.out.2.2.2, bq, ⟨gqb, 0, none⟩, RF gqb (.slice (some ⟨gqh, 0, none⟩) r capq) R', rfl, HBQ2.out, ⟨gqb, _, R', rfl, HRG.out, HNL.out, fun _ => Iff.rfl, by rw [HMN.out.1, HMN.out.2]; exact HDD.out⟩, fun hk => ?_, rfl⟩, fun k hk => ?_, HBL.out⟩
        · rcases hk with h1 | h1 | ⟨x, hx, h1⟩
          · exact hnb h1.symm
          · simp [Value.ownBlock] at h1
            exact hb2 h1.symm
          · exact (HRS.out x hx).2 h1
        · rcases hk with rfl | h1 | h1 | ⟨x, hx, h1⟩
          · exact hq1
          · rw [h1]; exact hq2
          · simp [Value.ownBlock] at h1
            rw [← h1]; exact hq3
          · rw [← h1]; exact (HRS.out x hx).1
end Go.Proofs.YtkflggojiiebeaaGreat.Sk

namespace Go.Proofs.YtkflggojiiebeaaGreat.Lev
open Go Go.RowKit Lw Grd Lin Con Shp Sk Exa
set_option linter.unusedVariables false
set_option linter.unusedSimpArgs false
set_option maxRecDepth 100000 in
set_option maxHeartbeats 4000000 in
theorem lcopy_A (p : Addr) (F : Nat → Prop) (c : Cfg) (l : Int) (L : List Int) (w : World) (h : DLA w p F c l L) :
    Calls Tryz.prog 92 #[.pointer (some p)] w fun e w' => ∃ (q : Addr) (Q : Nat → Prop), e = .returned (.pointer (some q)) ∧ DLA w' q Q c l L ∧ (∀ k, Q k → w.heap.size ≤ k) ∧ Below w.heap.size w w' := by
  obtain ⟨a, G, b, rfl, hb, ht, hn, rfl⟩ := h
  have c0 := grd_cell hb 0 (v := .pointer (some a)) rfl
  have c1 := grd_cell hb 1 (v := .pointer none) rfl
  have C := Lib.hid (acopy_any a G c l L w (daI ht))
  clear hb ht hn
  go_enter Tryz.func92, Tryz.ntmps92
  go_wp2_with (go_at_call 119; (with_reducible refine (C.out).mono ?_); rintro e w2 ⟨a2, G2, rfl, h1, h2, hb9⟩; have HT : Hid ((daT a2 G2 c l L).I w2) := Lib.hid h1; have HF := Lib.hid h2; have HB2 := Lib.hid hb9; clear h1 h2 hb9)
  go_ret
  obtain ⟨F', h1, h2, h3⟩ := dl_new (v0 := .pointer (some a2)) (v1 := .pointer none) HB2.out HT.out HF.out
  exact ⟨_, F', rfl, ⟨a2, G2, h1⟩, h2, h3⟩
set_option maxRecDepth 100000 in
set_option maxHeartbeats 4000000 in
theorem lcopy_S (p : Addr) (F : Nat → Prop) (c : Cfg) (l : Int) (L : List (List Int)) (w : World) (h : DLS w p F c l L) :
    Calls Tryz.prog 92 #[.pointer (some p)] w fun e w' => ∃ (q : Addr) (Q : Nat → Prop), e = .returned (.pointer (some q)) ∧ DLS w' q Q c l L ∧ (∀ k, Q k → w.heap.size ≤ k) ∧ Below w.heap.size w w' := by
  obtain ⟨a, G, b, rfl, hb, ht, hn, rfl⟩ := h
  have c0 := grd_cell hb 0 (v := .pointer none) rfl
  have c1 := grd_cell hb 1 (v := .pointer (some a)) rfl
  have C := Lib.hid (rscopy_any a G c l L w (dsI ht))
  clear hb ht hn
  go_enter Tryz.func92, Tryz.ntmps92
  go_wp2_with (go_at_call 120; (with_reducible refine (C.out).mono ?_); rintro e w2 ⟨a2, G2, rfl, h1, h2, hb9⟩; have HT : Hid ((dsT a2 G2 c l L).I w2) := Lib.hid h1; have HF := Lib.hid h2; have HB2 := Lib.hid hb9; clear h1 h2 hb9)
  go_ret
  obtain ⟨F', h1, h2, h3⟩ := dl_new (v0 := .pointer none) (v1 := .pointer (some a2)) HB2.out HT.out HF.out
  exact ⟨_, F', rfl, ⟨a2, G2, h1⟩, h2, h3⟩
set_option maxRecDepth 100000 in
set_option maxHeartbeats 4000000 in
theorem lupd_A (p : Addr) (F : Nat → Prop) (c : Cfg) (l : Int) (L : List Int) (k d : Int) (w : World) (h : DLA w p F c l L) (k0 : 0 ≤ k) (k1 : k ≤ 18446744073709551615) (d0 : -9223372036854775808 ≤ d) (d1 : d ≤ 9223372036854775807) :
    Calls Tryz.prog 52 #[.pointer (some p), .int .u64 k, .int .i64 d] w fun e w' => e = .returned (.int .i64 (exCode c.md L k d)) ∧ ∃ F', DLA w' p F' c l (exRes c.md L k d) ∧ Kept F w w' ∧ (∀ q, F' q → F q ∨ w.heap.size ≤ q) := by
  obtain ⟨a, G, b, rfl, hb, ht, hn, rfl⟩ := h
  have c0 := grd_cell hb 0 (v := .pointer (some a)) rfl
  have c1 := grd_cell hb 1 (v := .pointer none) rfl
  have C := Lib.hid (aupd_any a G c l L k d w (daI ht) k0 k1 d0 d1)
  have HT : Hid (∀ w' G', (daT a G' c l (exRes c.md L k d)).I w' → Kept G w w' → (∀ k, G' k → G k ∨ w.heap.size ≤ k) → ∃ F', DLA w' ⟨b, 0, none⟩ F' c l (exRes c.md L k d) ∧ Kept (fun k => k = b ∨ G k) w w' ∧ (∀ q, F' q → (q = b ∨ G q) ∨ w.heap.size ≤ q)) := Lib.hid (fun w' G' h1 h2 h3 => by
    obtain ⟨F', g1, g2, g3⟩ := dl_turn (t := daT a G c l L) (t' := daT a G' c l (exRes c.md L k d)) hb hn h1 h2 h3
    exact ⟨F', ⟨a, G', g1⟩, g2, g3⟩)
  obtain ⟨V, hV⟩ : ∃ V, exCode c.md L k d = V := ⟨_, rfl⟩
  obtain ⟨N, hN⟩ : ∃ N, exRes c.md L k d = N := ⟨_, rfl⟩
  rw [hV, hN] at C
  rw [hN] at HT
  rw [hV, hN]
  clear hb ht hn hV hN
  go_enter Tryz.func52, Tryz.ntmps52
  go_wp2_with (go_at_call 93; (with_reducible refine (C.out).mono ?_); rintro e w2 ⟨rfl, G2, h1, h2, h3⟩; have H1 := Lib.hid h1; have H2 := Lib.hid h2; have H3 := Lib.hid h3; clear h1 h2 h3)
  go_ret
  exact ⟨rfl, HT.out _ _ H1.out H2.out H3.out⟩
set_option maxRecDepth 100000 in
set_option maxHeartbeats 4000000 in
theorem lupd_S (p : Addr) (F : Nat → Prop) (c : Cfg) (l : Int) (L : List (List Int)) (k d : Int) (w : World) (h : DLS w p F c l L) (k0 : 0 ≤ k) (k1 : k ≤ 18446744073709551615) (d0 : -9223372036854775808 ≤ d) (d1 : d ≤ 9223372036854775807) :
    Calls Tryz.prog 52 #[.pointer (some p), .int .u64 k, .int .i64 d] w fun e w' => e = .returned (.int .i64 (upCode c l L k d)) ∧ ∃ F', DLS w' p F' c l (upRes c l L k d) ∧ Kept F w w' ∧ (∀ q, F' q → F q ∨ w.heap.size ≤ q) := by
  obtain ⟨a, G, b, rfl, hb, ht, hn, rfl⟩ := h
  have c0 := grd_cell hb 0 (v := .pointer none) rfl
  have c1 := grd_cell hb 1 (v := .pointer (some a)) rfl
  have C := Lib.hid (rsupd_any a G c l L k d w (dsI ht) k0 k1 d0 d1)
  have HT : Hid (∀ w' G', (dsT a G' c l (upRes c l L k d)).I w' → Kept G w w' → (∀ k, G' k → G k ∨ w.heap.size ≤ k) → ∃ F', DLS w' ⟨b, 0, none⟩ F' c l (upRes c l L k d) ∧ Kept (fun k => k = b ∨ G k) w w' ∧ (∀ q, F' q → (q = b ∨ G q) ∨ w.heap.size ≤ q)) := Lib.hid (fun w' G' h1 h2 h3 => by
    obtain ⟨F', g1, g2, g3⟩ := dl_turn (t := dsT a G c l L) (t' := dsT a G' c l (upRes c l L k d)) hb hn h1 h2 h3
    exact ⟨F', ⟨a, G', g1⟩, g2, g3⟩)
  obtain ⟨V, hV⟩ : ∃ V, upCode c l L k d = V := ⟨_, rfl⟩
  obtain ⟨N, hN⟩ : ∃ N, upRes c l L k d = N := ⟨_, rfl⟩
  rw [hV, hN] at C
  rw [hN] at HT
  rw [hV, hN]
  clear hb ht hn hV hN
  go_enter Tryz.func52, Tryz.ntmps52
  go_wp2_with (go_at_call 94; (with_reducible refine (C.out).mono ?_); rintro e w2 ⟨rfl, G2, h1, h2, h3⟩; have H1 := Lib.hid h1; have H2 := Lib.hid h2; have H3 := Lib.hid h3; clear h1 h2 h3)
  go_ret
  exact ⟨rfl, HT.out _ _ H1.out H2.out H3.out⟩
end Go.Proofs.YtkflggojiiebeaaGreat.Lev

namespace Go.Proofs.YtkflggojiiebeaaGreat.Stk
open Go Go.RowKit Lw Grd Lin Con Shp Sk Exa Lev
set_option linter.unusedVariables false
set_option linter.unusedSimpArgs false
theorem dv_copy (p : Addr) (F : Nat → Prop) (c : Cfg) (l : Int) (st : LS) (w : World) (h : DLV w p F c l st) :
    Calls Tryz.prog 92 #[.pointer (some p)] w fun e w' => ∃ (q : Addr) (Q : Nat → Prop), e = .returned (.pointer (some q)) ∧ DLV w' q Q c l st ∧ (∀ k, Q k → w.heap.size ≤ k) ∧ Below w.heap.size w w' := by
  cases st with
  | A L => exact (lcopy_A p F c l L w h.2).mono (fun e w' ⟨q, Q, h1, h2, h3, h4⟩ => ⟨q, Q, h1, ⟨h.1, h2⟩, h3, h4⟩)
  | S L => exact (lcopy_S p F c l L w h.2).mono (fun e w' ⟨q, Q, h1, h2, h3, h4⟩ => ⟨q, Q, h1, ⟨h.1, h2⟩, h3, h4⟩)
theorem dv_upd (p : Addr) (F : Nat → Prop) (c : Cfg) (l : Int) (st : LS) (k d : Int) (w : World) (h : DLV w p F c l st) (k0 : 0 ≤ k) (k1 : k ≤ 18446744073709551615) (d0 : -9223372036854775808 ≤ d) (d1 : d ≤ 9223372036854775807) :
    Calls Tryz.prog 52 #[.pointer (some p), .int .u64 k, .int .i64 d] w fun e w' => e = .returned (.int .i64 (lsCode c l st k d)) ∧ ∃ F', DLV w' p F' c l (lsRes c l st k d) ∧ Kept F w w' ∧ (∀ q, F' q → F q ∨ w.heap.size ≤ q) := by
  cases st with
  | A L => exact (lupd_A p F c l L k d w h.2 k0 k1 d0 d1).mono (fun e w' ⟨h1, F', h2, h3, h4⟩ => ⟨h1, F', ⟨h.1, h2⟩, h3, h4⟩)
  | S L => exact (lupd_S p F c l L k d w h.2 k0 k1 d0 d1).mono (fun e w' ⟨h1, F', h2, h3, h4⟩ => ⟨h1, F', ⟨h.1, h2⟩, h3, h4⟩)
end Go.Proofs.YtkflggojiiebeaaGreat.Stk

namespace Go.Proofs.YtkflggojiiebeaaGreat.Stk
open Go Go.RowKit Lw Grd Lin Con Shp Sk Exa Lev
set_option linter.unusedVariables false
set_option linter.unusedSimpArgs false
theorem take_next {α : Type} {ts : List α} {n : Nat} {t : α} (h : ts[n]? = some t) : ts.take (n + 1) = ts.take n ++ [t] := by
  obtain ⟨h1, h2⟩ := List.getElem?_eq_some_iff.1 h
  rw [List.take_succ_eq_append_getElem h1, h2]
end Go.Proofs.YtkflggojiiebeaaGreat.Stk

